/-
  Several texts in one: CdRefA, CdRefB, CdRight, CdOpen, CdRefC, CdRefD, CdKeeps, CdPuts.
-/
import Derived.Test.YtkdhchdhgmaolaaZCdVal
import Derived.Deep.RegionWith
import Derived.Deep.RegionHeld3
import Derived.Test.YtkdhchdhgmaolaaZCdSeq
import Derived.Deep.Slices
import Derived.ChangeArms
import Derived.Handed
import Derived.Test.YtkdhchdhgmaolaaZCdAwake
namespace Go.Proofs.Ytkdhchdhgmaolaa.Cd
open Go.RowKit
open Pk Va
set_option linter.unusedVariables false
set_option linter.unusedSimpArgs false


theorem one_byte (w : World) (c : UInt8) (v : Int) (hv : v = (c.toNat : Int)) :
    (convert 148 9 (.slice (some ⟨w.heap.size, 0, none⟩) 1 1)).run Try.prog (w.alloc (.cells #[.int .u8 v] 5)) = .ok (.string (S [c])) (w.alloc (.cells #[.int .u8 v] 5)) := by
  subst hv
  have hrow : Row8 (w.alloc (.cells #[.int .u8 (c.toNat : Int)] 5)) w.heap.size [c] := by
    intro j hj
    obtain rfl : j = 0 := by simpa using hj
    constructor
    · simp
    · simp
  exact hrow.back (P := Try.prog) 148 9 5 1 Try.underlying148 Try.underlying5 Try.underlying9 1 rfl
/-- A value no piece of which is greater than any machine bears. -/
structure VBig (v : V) : Prop where
  in_ : VIn64 v
  text : v.text.length ≤ 140737488355328
  list : v.list.length ≤ 17592186044416
theorem valB_len (v : V) (h : VBig v) : (valB v).length ≤ 180000000000000 := by
  have h1 := h.text
  have h2 := h.list
  have h3 := numB_len v.num
  have h4 := txtB_len v.text
  have h5 := numsB_len v.list
  have h6 := cntB_len v.list.length
  unfold valB tailB
  split
  · simp; omega
  · split
    · simp
    · split
      · simp; omega
      · split
        · simp; omega
        · simp
theorem add_S (a b : List UInt8) (h : a.length + b.length ≤ 9223372036854775807) (w : World) : (Op.stringOp .add (S a) (S b)).run Try.prog w = .ok (.string (S (a ++ b))) w := by
  rw [run_string_add_sum w _ _ (by rw [S_size, S_size]; exact h), S_append]
theorem byteB_eq (k : Int) : k % 256 = ((byteB k).toNat : Int) := by
  unfold byteB
  simp
  omega

end Go.Proofs.Ytkdhchdhgmaolaa.Cd

namespace Go.Proofs.Ytkdhchdhgmaolaa.Cd
open Go.RowKit
open Pk Va
set_option linter.unusedVariables false
set_option linter.unusedSimpArgs false

theorem valsB_len : ∀ (l : List V), (∀ v ∈ l, VBig v) → (valsB l).length ≤ 180000000000000 * l.length
  | [], _ => by simp [valsB]
  | v :: r, h => by
    have h1 := valB_len v (h v (by simp))
    have h2 := valsB_len r (fun x hx => h x (by simp [hx]))
    unfold valsB
    rw [List.length_append, List.length_cons]
    omega
theorem valsB_take (l : List V) (h : ∀ v ∈ l, VBig v) (k : Nat) (hk : k ≤ 40) : (valsB (l.take k)).length ≤ 7200000000000000 := by
  have h1 := valsB_len (l.take k) (fun v hv => h v (List.mem_of_mem_take hv))
  have h2 : (l.take k).length ≤ k := by rw [List.length_take]; omega
  omega
theorem rowB_len (l : List V) (h : ∀ v ∈ l, VBig v) (hl : l.length ≤ 40) : (rowB l).length ≤ 7200000000000010 := by
  have h1 := valsB_take l h l.length hl
  rw [List.take_length] at h1
  have h2 := cntB_len l.length
  unfold rowB
  rw [List.length_append]
  omega

/-- A message no piece of which is greater than any machine bears. -/
structure MBig (m : MailP) : Prop where
  id : Num64 m.id
  key : ∀ v ∈ m.key, VBig v
  fields : ∀ v ∈ m.fields, VBig v
  chan : m.chan.length ≤ 140737488355328
  klen : m.key.length ≤ 281474976710656
  flen : m.fields.length ≤ 281474976710656
theorem MBig.in_ {m : MailP} (h : MBig m) : MIn m := ⟨h.id, fun v hv => (h.key v hv).in_, fun v hv => (h.fields v hv).in_, h.klen, h.flen⟩
theorem mailB_len (m : MailP) (h : MBig m) (hk : m.key.length ≤ 40) (hf : m.fields.length ≤ 40) : (mailB m).length ≤ 15000000000000000 := by
  have h1 := rowB_len m.key h.key hk
  have h2 := rowB_len m.fields h.fields hf
  have h3 := txtB_len m.chan
  have h4 := h.chan
  have h5 := numB_len m.id
  unfold mailB
  simp only [List.length_append]
  omega

end Go.Proofs.Ytkdhchdhgmaolaa.Cd

namespace Go.Proofs.Ytkdhchdhgmaolaa.Cd
open Go.RowKit
open Pk Va
set_option linter.unusedVariables false
set_option linter.unusedSimpArgs false

theorem VBig.ok {v : V} (h : VBig v) : VOk v := h.in_.ok

theorem nameOk_le {t : List UInt8} (h : t.length ≤ 24) : nameOk t = true ∧ ((S t).size : Int) ≤ 24 := ⟨by simp [nameOk, h], by rw [S_size]; omega⟩
theorem nameOk_gt {t : List UInt8} (h : ¬ t.length ≤ 24) : nameOk t = false ∧ ¬ ((S t).size : Int) ≤ 24 := ⟨by simpa [nameOk] using h, by rw [S_size]; omega⟩

/-- Are messages few, and short? -/
def fewB (l : List MailP) : Bool := l.all fun m => decide (l.length ≤ 200) && decide (m.key.length ≤ 40) && decide (m.fields.length ≤ 40)
theorem fewB_at {l : List MailP} (h : fewB l = true) {m : MailP} (hm : m ∈ l) : l.length ≤ 200 ∧ m.key.length ≤ 40 ∧ m.fields.length ≤ 40 := by
  unfold fewB at h
  rw [List.all_eq_true] at h
  have := h m hm
  simpa [and_assoc] using this
theorem fewB_no {l : List MailP} {m : MailP} (hm : m ∈ l) (h : ¬ (l.length ≤ 200 ∧ m.key.length ≤ 40 ∧ m.fields.length ≤ 40)) : fewB l = false := by
  cases e : fewB l with
  | false => rfl
  | true => exact absurd (fewB_at e hm) h
theorem fewB_all {l : List MailP} (h : ∀ m ∈ l, l.length ≤ 200 ∧ m.key.length ≤ 40 ∧ m.fields.length ≤ 40) : fewB l = true := by
  unfold fewB
  rw [List.all_eq_true]
  intro m hm
  obtain ⟨a, b, c⟩ := h m hm
  simp [a, b, c]

set_option maxRecDepth 100000 in
set_option maxHeartbeats 4000000 in
theorem few_any (xs : List MailP) (hlen : xs.length ≤ 281474976710656) (hkl : ∀ m ∈ xs, m.key.length ≤ 281474976710656 ∧ m.fields.length ≤ 281474976710656) (a : Option Addr) (cap : Nat) (w : World) (hx : MailsAt w a xs) :
    Calls Try.prog 25 #[.slice a xs.length cap] w fun e w' => e = .returned (.bool (fewB xs)) ∧ Below w.heap.size w w' := by
  have hlen2 : (xs.length : Int) ≤ 281474976710656 := by omega
  have HX := Lib.hid hx
  have HALL := Lib.hid (fun h => fewB_all (l := xs) h)
  have HNO := Lib.hid (fun (i : Nat) (hi : i < xs.length) h => fewB_no (l := xs) (List.getElem_mem hi) h)
  have HKL := Lib.hid (fun (i : Nat) (hi : i < xs.length) => hkl xs[i] (List.getElem_mem hi))
  clear hx hkl
  go_enter Try.func25, Try.ntmps25
  go_wp2_with fail
  go_loopw [7] (fun iv wr => ∃ k : Nat, k ≤ xs.length ∧ iv = .int .i64 k ∧ (∀ j (hj : j < xs.length), j < k → xs.length ≤ 200 ∧ xs[j].key.length ≤ 40 ∧ xs[j].fields.length ≤ 40) ∧ Below w.heap.size w wr) (fun iv _ => xs.length - (intOf iv).toNat)
  case atStart => exact ⟨0, Nat.zero_le _, rfl, fun j _ h => absurd h (Nat.not_lt_zero _), Below.refl _ _⟩
  case round =>
    obtain ⟨k, hk, rfl, hA, hb⟩ := hrel
    have HA := Lib.hid hA
    clear hA
    by_cases hlt : k < xs.length
    · have hki : (k : Int) < (xs.length : Int) := by omega
      obtain ⟨g, o, ka, kc, fa, fc, hae, hm0, hg0⟩ := HX.out k hlt
      obtain ⟨p0, p1, p2, p3, _, _⟩ := hm0.below hg0 hb
      subst hae
      have HBE := Lib.hid (hb.alloc hb.size (.cells #[.int .i64 xs[k].id, .string (S xs[k].chan), .slice ka xs[k].key.length kc, .slice fa xs[k].fields.length fc] 33))
      have HK := Lib.hid (HNO.out k hlt)
      have hkl := HKL.out k hlt
      have HS := Lib.hid (fun (h : xs.length ≤ 200 ∧ xs[k].key.length ≤ 40 ∧ xs[k].fields.length ≤ 40) => show ∀ j (hj : j < xs.length), j < k + 1 → xs.length ≤ 200 ∧ xs[j].key.length ≤ 40 ∧ xs[j].fields.length ≤ 40 from fun j hj hjk => by
        by_cases e : j = k
        · subst e; exact h
        · exact HA.out j hj (by omega))
      clear hb hm0 hg0
      generalize xs[k] = x at *
      by_cases hall : xs.length ≤ 200 ∧ x.key.length ≤ 40 ∧ x.fields.length ≤ 40
      · have c1 : ¬ (200 : Int) < (xs.length : Int) := by omega
        have c2 : ¬ (40 : Int) < (x.key.length : Int) := by omega
        have c3 : ¬ (40 : Int) < (x.fields.length : Int) := by omega
        have HS2 := Lib.hid (HS.out hall)
        clear hall
        go_wp2_with fail
        go_roundw
        case rel => exact ⟨k + 1, by omega, by go_num, HS2.out, HBE.out⟩
        case measure => simp [intOf]; omega
      · have HF := Lib.hid (HK.out hall)
        by_cases c1 : (200 : Int) < (xs.length : Int)
        · clear hall
          go_wp2_with fail
          go_ret
          exact ⟨by rw [HF.out]; rfl, HBE.out⟩
        · by_cases c2 : (40 : Int) < (x.key.length : Int)
          · clear hall
            go_wp2_with fail
            go_ret
            exact ⟨by rw [HF.out]; rfl, HBE.out⟩
          · have c3 : (40 : Int) < (x.fields.length : Int) := by omega
            clear hall
            go_wp2_with fail
            go_ret
            exact ⟨by rw [HF.out]; rfl, HBE.out⟩
    · have hki : ¬ (k : Int) < (xs.length : Int) := by omega
      have HBE := Lib.hid hb
      have HF := Lib.hid (HALL.out fun m hm => by
        obtain ⟨i, hi, rfl⟩ := List.getElem_of_mem hm
        exact HA.out i hi (by omega))
      clear hb
      go_wp2_with fail
      go_ret
      exact ⟨by rw [HF.out]; rfl, HBE.out⟩

end Go.Proofs.Ytkdhchdhgmaolaa.Cd

namespace Go.Proofs.Ytkdhchdhgmaolaa.Cd
open Go.RowKit
open Pk Va
set_option linter.unusedVariables false
set_option linter.unusedSimpArgs false

section
variable {H : Type} {enc : TypeId × Value → H} {w : World} {base : Nat} {spare : Nat → Bool} {held : Bool}

/-- No piece is heavier than any machine bears. -/
def Wt (t : TypeId) (d : DataW H) : Prop := ∀ n ∈ d.weights Try.prog t, n ≤ 140737488355328
theorem all_mem {e : TypeId} : ∀ {l : List (DataW H)} {d : DataW H}, d ∈ l → ∀ n ∈ d.weights Try.prog e, n ∈ DataW.weightsAll Try.prog e l
  | x :: r, d, hd, n, hn => by
    simp only [DataW.weightsAll, List.mem_append]
    rcases List.mem_cons.1 hd with rfl | hd
    · exact .inl hn
    · exact .inr (all_mem hd n hn)
theorem each_mem : ∀ {ts : List TypeId} {ds : List (DataW H)} {j : Nat} {t : TypeId} {d : DataW H}, ts[j]? = some t → ds[j]? = some d → ∀ n ∈ d.weights Try.prog t, n ∈ DataW.weightsEach Try.prog ts ds
  | t0 :: ts, d0 :: ds, 0, t, d, ht, hd, n, hn => by
    simp only [List.getElem?_cons_zero, Option.some.injEq] at ht hd
    subst ht; subst hd
    simp only [DataW.weightsEach, List.mem_append]
    exact Or.inl hn
  | t0 :: ts, d0 :: ds, j + 1, t, d, ht, hd, n, hn => by
    simp only [List.getElem?_cons_succ] at ht hd
    simp only [DataW.weightsEach, List.mem_append]
    exact Or.inr (each_mem ht hd n hn)
  | [], _, _, _, _, ht, _, _, _ => by simp at ht
  | _ :: _, [], _, _, _, _, hd, _, _ => by simp at hd
theorem Wt.field {t : TypeId} {fs : Array Field} {parts : List (DataW H)} (hu : Try.prog.underlying t = some (.struct fs)) (h : Wt t (.agg parts)) {j : Nat} {f : Field} {d : DataW H} (hf : fs[j]? = some f) (hd : parts[j]? = some d) : Wt f.type d := fun n hn => by
  refine h n ?_
  simp only [DataW.weights, hu]
  refine each_mem (j := j) ?_ hd n hn
  rw [List.getElem?_map, Array.getElem?_toList, hf]; rfl
theorem Wt.elems {t e : TypeId} {es sp : List (DataW H)} (hu : Try.prog.underlying t = some (.slice e)) (h : Wt t (.slice es sp)) : es.length * Try.prog.bytesOf e ≤ 140737488355328 ∧ ∀ d ∈ es, Wt e d := by
  constructor
  · have := h ((es.length + sp.length) * Try.prog.bytesOf e) (by simp [DataW.weights, hu])
    exact Nat.le_trans (Nat.mul_le_mul_right _ (by omega)) this
  · intro d hd n hn
    refine h n ?_
    simp only [DataW.weights, hu, List.mem_cons, List.mem_append]
    exact .inr (.inl (all_mem hd n hn))
theorem slice_elems {t e : TypeId} {k : Nat} {fuel : Nat} {cs : List Value} {x : DataW H × List MemPlace} (ht : Try.prog.underlying t = some (.slice e)) (hk : Try.prog.cellsOf e = k) (h : DataW.trod enc Try.prog w base spare held fuel t cs = some x) (hW : Wt t x.1) :
    cs = [.slice none 0 0] ∨ ∃ (a : Addr) (len cap n : Nat) (D : Nat → DataW H) (Pl : Nat → List MemPlace), fuel = n + 1 ∧ cs = [.slice (some a) len cap] ∧ len * Try.prog.bytesOf e ≤ 140737488355328 ∧
      ∀ i, i < len → ∃ cs', w.cells? base (a.add (i * k)) k = some cs' ∧ DataW.trod enc Try.prog w base spare held n e cs' = some (D i, Pl i) ∧ Wt e (D i) := by
  subst hk
  rcases DataW.trod_slice ht h with h0 | ⟨a, len, cap, elems, rest, n, hn, rfl, rfl, hb, hl, hm, hlen, hel, hsp, hns⟩
  · exact .inl h0.1
  right
  obtain ⟨w1, w2⟩ := hW.elems ht
  rw [List.length_map, hlen] at w1
  refine ⟨a, len, cap, n, fun i => (elems.getD i (.nil, [])).1, fun i => (elems.getD i (.nil, [])).2, hn, rfl, w1, fun i hi => ?_⟩
  have key := hel i hi
  rw [List.getElem?_eq_getElem (by omega)] at key
  obtain ⟨cs', h1, h2⟩ := Option.bind_eq_some_iff.1 key
  have hg : elems.getD i (.nil, []) = elems[i]'(by omega) := by simp [List.getD, List.getElem?_eq_getElem (show i < elems.length by omega)]
  refine ⟨cs', h1, ?_, ?_⟩
  · simp only [hg]; rw [h2]
  · simp only [hg]
    exact w2 _ (List.mem_map.2 ⟨_, List.getElem_mem _, rfl⟩)
theorem str_open {n : Nat} {cs : List Value} {x : DataW H × List MemPlace} (h : DataW.trod enc Try.prog w base spare held n 9 cs = some x) (hW : Wt 9 x.1) : ∃ s : List UInt8, cs = [.string (S s)] ∧ s.length ≤ 140737488355328 := by
  obtain ⟨s, rfl, rfl, _⟩ := DataW.trod_string Try.underlying9 h
  refine ⟨s.data.toList, by rw [S_list], ?_⟩
  exact hW s.data.toList.length (by simp [DataW.weights])
theorem int_open {n : Nat} {cs : List Value} {x : DataW H × List MemPlace} (h : DataW.trod enc Try.prog w base spare held n 3 cs = some x) : ∃ z : Int, cs = [.int .i64 z] ∧ Num64 z := by
  obtain ⟨z, rfl, _, hw⟩ := DataW.trod_int Try.underlying3 h
  refine ⟨z, rfl, ?_⟩
  simp [Lit.wf, IntKind.min, IntKind.max, IntKind.signed, IntKind.bits] at hw
  exact ⟨by omega, by omega⟩
theorem i64_open {n : Nat} {cs : List Value} {x : DataW H × List MemPlace} (h : DataW.trod enc Try.prog w base spare held n 2 cs = some x) : ∃ z : Int, cs = [.int .i64 z] ∧ Num64 z := by
  obtain ⟨z, rfl, _, hw⟩ := DataW.trod_int Try.underlying2 h
  refine ⟨z, rfl, ?_⟩
  simp [Lit.wf, IntKind.min, IntKind.max, IntKind.signed, IntKind.bits] at hw
  exact ⟨by omega, by omega⟩
theorem cells_strT : Try.prog.cellsOf 9 = 1 := by kernel_rfl
theorem cells_intT : Try.prog.cellsOf 3 = 1 := by kernel_rfl
theorem cells_i64T : Try.prog.cellsOf 2 = 1 := by kernel_rfl
theorem cells_valT : Try.prog.cellsOf 25 = 4 := by kernel_rfl
theorem cells_mailT : Try.prog.cellsOf 33 = 4 := by kernel_rfl
theorem cells_numsT : Try.prog.cellsOf 23 = 1 := by kernel_rfl
theorem cells_intsT : Try.prog.cellsOf 38 = 1 := by kernel_rfl
theorem cells_valsT : Try.prog.cellsOf 31 = 1 := by kernel_rfl
theorem cells_mailsT : Try.prog.cellsOf 39 = 1 := by kernel_rfl
theorem bytes_i64T : Try.prog.bytesOf 2 = 8 := by kernel_rfl
theorem bytes_intT : Try.prog.bytesOf 3 = 8 := by kernel_rfl
theorem bytes_valT : 1 ≤ Try.prog.bytesOf 25 := of_decide_eq_true (by kernel_rfl)
theorem bytes_mailT : 1 ≤ Try.prog.bytesOf 33 := of_decide_eq_true (by kernel_rfl)
theorem len_of {len b : Nat} (h : len * b ≤ 140737488355328) (hb : 1 ≤ b) : len ≤ 281474976710656 := by
  have : len * 1 ≤ len * b := Nat.mul_le_mul_left _ hb
  omega
theorem cells_at {a : Addr} {k : Nat} {cs : List Value} (h : w.cells? base a k = some cs) : cs.length = k ∧ ∀ j, j < k → w.cell? (a.add j) = cs[j]? := by
  obtain ⟨_, hl, hat⟩ := World.cells?_some h
  refine ⟨hl, fun j hj => ?_⟩
  rw [hat j hj, List.getElem?_eq_getElem (by omega)]
theorem add_add (b off i j : Nat) : ((⟨b, off, none⟩ : Addr).add i).add j = ⟨b, off + i + j, none⟩ := by
  unfold Addr.add
  by_cases hi : i = 0 <;> by_cases hj : j = 0 <;> simp [hi, hj]
theorem choose_list {α : Type} [Inhabited α] {n : Nat} {p : Nat → α → Prop} (h : ∀ i, i < n → ∃ x, p i x) : ∃ l : List α, l.length = n ∧ ∀ i, (hi : i < l.length) → p i l[i] := by
  obtain ⟨F, hF⟩ := Go.Deep.choose_lt h
  exact ⟨(List.range n).map F, by simp, fun i hi => by simp only [List.getElem_map, List.getElem_range]; exact hF i (by simpa using hi)⟩

instance : Inhabited V := ⟨⟨0, 0, [], []⟩⟩
instance : Inhabited MailP := ⟨⟨0, [], [], []⟩⟩

theorem nums_open {n : Nat} {cs : List Value} {x : DataW H × List MemPlace} (h : DataW.trod enc Try.prog w base spare held n 23 cs = some x) (hW : Wt 23 x.1) :
    ∃ (l : List Int) (a : Option Addr) (cap : Nat), cs = [.slice a l.length cap] ∧ l.length ≤ 17592186044416 ∧ NumsAt w a l ∧ ∀ n ∈ l, Num64 n := by
  rcases slice_elems Try.underlying23 cells_i64T h hW with hcs | ⟨p, len, cap, m, D, Pl, _, hcs, hl, hi⟩
  · exact ⟨[], none, 0, hcs, by simp, fun i hi => absurd hi (by simp), fun n hn => by simp at hn⟩
  · obtain ⟨l, hll, hp⟩ := choose_list (α := Int) (n := len) (p := fun i z => w.cell? ((p.add (i * 1)).add 0) = some (.int .i64 z) ∧ Num64 z) (fun i hil => by
      obtain ⟨cs', h1, h2, h3⟩ := hi i hil
      obtain ⟨z, rfl, hz⟩ := i64_open h2
      exact ⟨z, (cells_at h1).2 0 (by omega), hz⟩)
    rw [bytes_i64T] at hl
    refine ⟨l, some p, cap, by rw [hll]; exact hcs, by omega, fun i hil => ?_, fun n hn => ?_⟩
    · have g := (hp i hil).1
      have g0 := (hp 0 (by omega)).1
      obtain ⟨b, off, spot⟩ := p
      have hspot : spot = none := by simpa [Addr.add] using World.cell?_spot g0
      subst hspot
      rw [add_add, Nat.mul_one, Nat.add_zero] at g
      refine ⟨b, off, rfl, ?_, World.block_lt_of_cell? w _ g⟩
      rw [g]
      simp [List.getD, hil]
    · obtain ⟨i, hil, rfl⟩ := List.mem_iff_getElem.1 hn
      exact (hp i hil).2

theorem ints_open {n : Nat} {cs : List Value} {x : DataW H × List MemPlace} (h : DataW.trod enc Try.prog w base spare held n 38 cs = some x) (hW : Wt 38 x.1) :
    ∃ (l : List Int) (a : Option Addr) (cap : Nat), cs = [.slice a l.length cap] ∧ l.length ≤ 17592186044416 ∧ NumsAt w a l ∧ ∀ n ∈ l, Num64 n := by
  rcases slice_elems Try.underlying38 cells_intT h hW with hcs | ⟨p, len, cap, m, D, Pl, _, hcs, hl, hi⟩
  · exact ⟨[], none, 0, hcs, by simp, fun i hi => absurd hi (by simp), fun n hn => by simp at hn⟩
  · obtain ⟨l, hll, hp⟩ := choose_list (α := Int) (n := len) (p := fun i z => w.cell? ((p.add (i * 1)).add 0) = some (.int .i64 z) ∧ Num64 z) (fun i hil => by
      obtain ⟨cs', h1, h2, h3⟩ := hi i hil
      obtain ⟨z, rfl, hz⟩ := int_open h2
      exact ⟨z, (cells_at h1).2 0 (by omega), hz⟩)
    rw [bytes_intT] at hl
    refine ⟨l, some p, cap, by rw [hll]; exact hcs, by omega, fun i hil => ?_, fun n hn => ?_⟩
    · have g := (hp i hil).1
      have g0 := (hp 0 (by omega)).1
      obtain ⟨b, off, spot⟩ := p
      have hspot : spot = none := by simpa [Addr.add] using World.cell?_spot g0
      subst hspot
      rw [add_add, Nat.mul_one, Nat.add_zero] at g
      refine ⟨b, off, rfl, ?_, World.block_lt_of_cell? w _ g⟩
      rw [g]
      simp [List.getD, hil]
    · obtain ⟨i, hil, rfl⟩ := List.mem_iff_getElem.1 hn
      exact (hp i hil).2

theorem val_open {n : Nat} {cs : List Value} {x : DataW H × List MemPlace} (hlen : cs.length = 4) (h : DataW.trod enc Try.prog w base spare held n 25 cs = some x) (hW : Wt 25 x.1) :
    ∃ (v : V) (a : Option Addr) (cap : Nat), cs = [.int .i64 v.kind, .int .i64 v.num, .string (S v.text), .slice a v.list.length cap] ∧ VBig v ∧ NumsAt w a v.list := by
  match cs, hlen with
  | [c0, c1, c2, c3], _ =>
    obtain ⟨ys, m, _, rfl, _, hyl, hf⟩ := DataW.trod_struct Try.underlying25 h
    have hyl : ys.length = 4 := hyl
    have f0 := hf 0 _ rfl
    change DataW.trod _ _ _ _ _ _ _ 3 (([c0, c1, c2, c3].drop 0).take (Try.prog.cellsOf 3)) = _ at f0
    rw [cells_intT] at f0
    simp only [List.drop_zero, List.drop_succ_cons, List.take_succ_cons, List.take_zero] at f0
    rw [List.getElem?_eq_getElem (by omega)] at f0
    obtain ⟨z0, e0, b0⟩ := int_open f0
    have f1 := hf 1 _ rfl
    change DataW.trod _ _ _ _ _ _ _ 2 (([c0, c1, c2, c3].drop 1).take (Try.prog.cellsOf 2)) = _ at f1
    rw [cells_i64T] at f1
    simp only [List.drop_zero, List.drop_succ_cons, List.take_succ_cons, List.take_zero] at f1
    rw [List.getElem?_eq_getElem (by omega)] at f1
    obtain ⟨z1, e1, b1⟩ := i64_open f1
    have f2 := hf 2 _ rfl
    change DataW.trod _ _ _ _ _ _ _ 9 (([c0, c1, c2, c3].drop 2).take (Try.prog.cellsOf 9)) = _ at f2
    rw [cells_strT] at f2
    simp only [List.drop_zero, List.drop_succ_cons, List.take_succ_cons, List.take_zero] at f2
    rw [List.getElem?_eq_getElem (by omega)] at f2
    have w2 := hW.field (j := 2) Try.underlying25 rfl (by rw [List.getElem?_map, List.getElem?_eq_getElem (by omega)]; rfl)
    obtain ⟨s2, e2, b2⟩ := str_open f2 w2
    have f3 := hf 3 _ rfl
    change DataW.trod _ _ _ _ _ _ _ 23 (([c0, c1, c2, c3].drop 3).take (Try.prog.cellsOf 23)) = _ at f3
    rw [cells_numsT] at f3
    simp only [List.drop_zero, List.drop_succ_cons, List.take_succ_cons, List.take_zero] at f3
    rw [List.getElem?_eq_getElem (by omega)] at f3
    have w3 := hW.field (j := 3) Try.underlying25 rfl (by rw [List.getElem?_map, List.getElem?_eq_getElem (by omega)]; rfl)
    obtain ⟨l3, a3, k3, e3, n3, g3, r3⟩ := nums_open f3 w3
    simp only [List.cons.injEq, and_true] at e0 e1 e2 e3
    subst e0 e1 e2 e3
    exact ⟨⟨z0, z1, s2, l3⟩, a3, k3, rfl, ⟨⟨⟨by simp only; omega, by simp only; omega⟩, b1, r3⟩, b2, n3⟩, g3⟩

theorem vals_open {n : Nat} {cs : List Value} {x : DataW H × List MemPlace} (h : DataW.trod enc Try.prog w base spare held n 31 cs = some x) (hW : Wt 31 x.1) :
    ∃ (l : List V) (a : Option Addr) (cap : Nat), cs = [.slice a l.length cap] ∧ l.length ≤ 281474976710656 ∧ ValsAt w a l ∧ ∀ v ∈ l, VBig v := by
  rcases slice_elems Try.underlying31 cells_valT h hW with hcs | ⟨p, len, cap, m, D, Pl, _, hcs, hl, hi⟩
  · exact ⟨[], none, 0, hcs, by simp, fun i hi => absurd hi (by simp), fun a ha => by simp at ha⟩
  · obtain ⟨l, hll, hp⟩ := choose_list (α := V) (n := len) (p := fun i v => (∃ a cap, w.cell? ((p.add (i * 4)).add 0) = some (.int .i64 v.kind) ∧ w.cell? ((p.add (i * 4)).add 1) = some (.int .i64 v.num) ∧ w.cell? ((p.add (i * 4)).add 2) = some (.string (S v.text)) ∧ w.cell? ((p.add (i * 4)).add 3) = some (.slice a v.list.length cap) ∧ NumsAt w a v.list) ∧ VBig v) (fun i hil => by
      obtain ⟨cs', h1, h2, h3⟩ := hi i hil
      obtain ⟨hcl, hat⟩ := cells_at h1
      obtain ⟨v, a, cap, rfl, hv, hn⟩ := val_open hcl h2 h3
      exact ⟨v, ⟨a, cap, hat 0 (by omega), hat 1 (by omega), hat 2 (by omega), hat 3 (by omega), hn⟩, hv⟩)
    refine ⟨l, some p, cap, by rw [hll]; exact hcs, by rw [hll]; exact len_of hl bytes_valT, fun i hil => ?_, fun a ha => ?_⟩
    · obtain ⟨⟨a, c, g0, g1, g2, g3, hn⟩, _⟩ := hp i hil
      obtain ⟨⟨_, _, g00, _⟩, _⟩ := hp 0 (by omega)
      obtain ⟨b, off, spot⟩ := p
      have hspot : spot = none := by simpa [Addr.add] using World.cell?_spot g00
      subst hspot
      rw [add_add] at g0 g1 g2 g3
      exact ⟨b, off, rfl, ⟨a, c, g0, g1, g2, g3, hn⟩, World.block_lt_of_cell? w _ g0⟩
    · obtain ⟨i, hil, rfl⟩ := List.mem_iff_getElem.1 ha
      exact (hp i hil).2

theorem mail_open {n : Nat} {cs : List Value} {x : DataW H × List MemPlace} (hlen : cs.length = 4) (h : DataW.trod enc Try.prog w base spare held n 33 cs = some x) (hW : Wt 33 x.1) :
    ∃ (m : MailP) (ka : Option Addr) (kc : Nat) (fa : Option Addr) (fc : Nat), cs = [.int .i64 m.id, .string (S m.chan), .slice ka m.key.length kc, .slice fa m.fields.length fc] ∧ MBig m ∧ ValsAt w ka m.key ∧ ValsAt w fa m.fields := by
  match cs, hlen with
  | [c0, c1, c2, c3], _ =>
    obtain ⟨ys, m, _, rfl, _, hyl, hf⟩ := DataW.trod_struct Try.underlying33 h
    have hyl : ys.length = 4 := hyl
    have f0 := hf 0 _ rfl
    change DataW.trod _ _ _ _ _ _ _ 2 (([c0, c1, c2, c3].drop 0).take (Try.prog.cellsOf 2)) = _ at f0
    rw [cells_i64T] at f0
    simp only [List.drop_zero, List.drop_succ_cons, List.take_succ_cons, List.take_zero] at f0
    rw [List.getElem?_eq_getElem (by omega)] at f0
    obtain ⟨z0, e0, b0⟩ := i64_open f0
    have f1 := hf 1 _ rfl
    change DataW.trod _ _ _ _ _ _ _ 9 (([c0, c1, c2, c3].drop 1).take (Try.prog.cellsOf 9)) = _ at f1
    rw [cells_strT] at f1
    simp only [List.drop_zero, List.drop_succ_cons, List.take_succ_cons, List.take_zero] at f1
    rw [List.getElem?_eq_getElem (by omega)] at f1
    have w1 := hW.field (j := 1) Try.underlying33 rfl (by rw [List.getElem?_map, List.getElem?_eq_getElem (by omega)]; rfl)
    obtain ⟨s1, e1, b1⟩ := str_open f1 w1
    have f2 := hf 2 _ rfl
    change DataW.trod _ _ _ _ _ _ _ 31 (([c0, c1, c2, c3].drop 2).take (Try.prog.cellsOf 31)) = _ at f2
    rw [cells_valsT] at f2
    simp only [List.drop_zero, List.drop_succ_cons, List.take_succ_cons, List.take_zero] at f2
    rw [List.getElem?_eq_getElem (by omega)] at f2
    have w2 := hW.field (j := 2) Try.underlying33 rfl (by rw [List.getElem?_map, List.getElem?_eq_getElem (by omega)]; rfl)
    obtain ⟨l2, a2, k2, e2, n2, g2, r2⟩ := vals_open f2 w2
    have f3 := hf 3 _ rfl
    change DataW.trod _ _ _ _ _ _ _ 31 (([c0, c1, c2, c3].drop 3).take (Try.prog.cellsOf 31)) = _ at f3
    rw [cells_valsT] at f3
    simp only [List.drop_zero, List.drop_succ_cons, List.take_succ_cons, List.take_zero] at f3
    rw [List.getElem?_eq_getElem (by omega)] at f3
    have w3 := hW.field (j := 3) Try.underlying33 rfl (by rw [List.getElem?_map, List.getElem?_eq_getElem (by omega)]; rfl)
    obtain ⟨l3, a3, k3, e3, n3, g3, r3⟩ := vals_open f3 w3
    simp only [List.cons.injEq, and_true] at e0 e1 e2 e3
    subst e0 e1 e2 e3
    exact ⟨⟨z0, s1, l2, l3⟩, a2, k2, a3, k3, rfl, ⟨b0, r2, r3, b1, n2, n3⟩, g2, g3⟩

theorem mails_open {n : Nat} {cs : List Value} {x : DataW H × List MemPlace} (h : DataW.trod enc Try.prog w base spare held n 39 cs = some x) (hW : Wt 39 x.1) :
    ∃ (l : List MailP) (a : Option Addr) (cap : Nat), cs = [.slice a l.length cap] ∧ l.length ≤ 281474976710656 ∧ MailsAt w a l ∧ ∀ v ∈ l, MBig v := by
  rcases slice_elems Try.underlying39 cells_mailT h hW with hcs | ⟨p, len, cap, m, D, Pl, _, hcs, hl, hi⟩
  · exact ⟨[], none, 0, hcs, by simp, fun i hi => absurd hi (by simp), fun a ha => by simp at ha⟩
  · obtain ⟨l, hll, hp⟩ := choose_list (α := MailP) (n := len) (p := fun i v => (∃ ka kc fa fc, w.cell? ((p.add (i * 4)).add 0) = some (.int .i64 v.id) ∧ w.cell? ((p.add (i * 4)).add 1) = some (.string (S v.chan)) ∧ w.cell? ((p.add (i * 4)).add 2) = some (.slice ka v.key.length kc) ∧ w.cell? ((p.add (i * 4)).add 3) = some (.slice fa v.fields.length fc) ∧ ValsAt w ka v.key ∧ ValsAt w fa v.fields) ∧ MBig v) (fun i hil => by
      obtain ⟨cs', h1, h2, h3⟩ := hi i hil
      obtain ⟨hcl, hat⟩ := cells_at h1
      obtain ⟨v, ka, kc, fa, fc, rfl, hv, hn1, hn2⟩ := mail_open hcl h2 h3
      exact ⟨v, ⟨ka, kc, fa, fc, hat 0 (by omega), hat 1 (by omega), hat 2 (by omega), hat 3 (by omega), hn1, hn2⟩, hv⟩)
    refine ⟨l, some p, cap, by rw [hll]; exact hcs, by rw [hll]; exact len_of hl bytes_mailT, fun i hil => ?_, fun a ha => ?_⟩
    · obtain ⟨⟨ka, kc, fa, fc, g0, g1, g2, g3, hn1, hn2⟩, _⟩ := hp i hil
      obtain ⟨⟨_, _, _, _, g00, _⟩, _⟩ := hp 0 (by omega)
      obtain ⟨b, off, spot⟩ := p
      have hspot : spot = none := by simpa [Addr.add] using World.cell?_spot g00
      subst hspot
      rw [add_add] at g0 g1 g2 g3
      exact ⟨b, off, ka, kc, fa, fc, rfl, ⟨g0, g1, g2, g3, hn1, hn2⟩, World.block_lt_of_cell? w _ g0⟩
    · obtain ⟨i, hil, rfl⟩ := List.mem_iff_getElem.1 ha
      exact (hp i hil).2

/-- An artifact no piece of which is greater than any machine bears. -/
structure IBig (x : ItemP) : Prop where
  id : Num64 x.id
  since : Num64 x.since
  typ : x.typ.length ≤ 140737488355328
  state : x.state.length ≤ 140737488355328
  attrs : ∀ v ∈ x.attrs, VBig v
  counts : ∀ n ∈ x.counts, Num64 n
  box : ∀ m ∈ x.box, MBig m
  alen : x.attrs.length ≤ 281474976710656
  clen : x.counts.length ≤ 281474976710656
  blen : x.box.length ≤ 281474976710656

theorem item_open {n : Nat} {cs : List Value} {x : DataW H × List MemPlace} (hlen : cs.length = 7) (h : DataW.trod enc Try.prog w base spare held n 41 cs = some x) (hW : Wt 41 x.1) :
    ∃ (x : ItemP) (aa : Option Addr) (ac : Nat) (ca : Option Addr) (cc : Nat) (ba : Option Addr) (bc : Nat), cs = [.int .i64 x.id, .string (S x.typ), .string (S x.state), .int .i64 x.since, .slice aa x.attrs.length ac, .slice ca x.counts.length cc, .slice ba x.box.length bc] ∧ IBig x ∧ ValsAt w aa x.attrs ∧ NumsAt w ca x.counts ∧ MailsAt w ba x.box := by
  match cs, hlen with
  | [c0, c1, c2, c3, c4, c5, c6], _ =>
    obtain ⟨ys, m, _, rfl, _, hyl, hf⟩ := DataW.trod_struct Try.underlying41 h
    have hyl : ys.length = 7 := hyl
    have f0 := hf 0 _ rfl
    change DataW.trod _ _ _ _ _ _ _ 2 (([c0, c1, c2, c3, c4, c5, c6].drop 0).take (Try.prog.cellsOf 2)) = _ at f0
    rw [cells_i64T] at f0
    simp only [List.drop_zero, List.drop_succ_cons, List.take_succ_cons, List.take_zero] at f0
    rw [List.getElem?_eq_getElem (by omega)] at f0
    obtain ⟨z0, e0, b0⟩ := i64_open f0
    have f1 := hf 1 _ rfl
    change DataW.trod _ _ _ _ _ _ _ 9 (([c0, c1, c2, c3, c4, c5, c6].drop 1).take (Try.prog.cellsOf 9)) = _ at f1
    rw [cells_strT] at f1
    simp only [List.drop_zero, List.drop_succ_cons, List.take_succ_cons, List.take_zero] at f1
    rw [List.getElem?_eq_getElem (by omega)] at f1
    have w1 := hW.field (j := 1) Try.underlying41 rfl (by rw [List.getElem?_map, List.getElem?_eq_getElem (by omega)]; rfl)
    obtain ⟨s1, e1, b1⟩ := str_open f1 w1
    have f2 := hf 2 _ rfl
    change DataW.trod _ _ _ _ _ _ _ 9 (([c0, c1, c2, c3, c4, c5, c6].drop 2).take (Try.prog.cellsOf 9)) = _ at f2
    rw [cells_strT] at f2
    simp only [List.drop_zero, List.drop_succ_cons, List.take_succ_cons, List.take_zero] at f2
    rw [List.getElem?_eq_getElem (by omega)] at f2
    have w2 := hW.field (j := 2) Try.underlying41 rfl (by rw [List.getElem?_map, List.getElem?_eq_getElem (by omega)]; rfl)
    obtain ⟨s2, e2, b2⟩ := str_open f2 w2
    have f3 := hf 3 _ rfl
    change DataW.trod _ _ _ _ _ _ _ 2 (([c0, c1, c2, c3, c4, c5, c6].drop 3).take (Try.prog.cellsOf 2)) = _ at f3
    rw [cells_i64T] at f3
    simp only [List.drop_zero, List.drop_succ_cons, List.take_succ_cons, List.take_zero] at f3
    rw [List.getElem?_eq_getElem (by omega)] at f3
    obtain ⟨z3, e3, b3⟩ := i64_open f3
    have f4 := hf 4 _ rfl
    change DataW.trod _ _ _ _ _ _ _ 31 (([c0, c1, c2, c3, c4, c5, c6].drop 4).take (Try.prog.cellsOf 31)) = _ at f4
    rw [cells_valsT] at f4
    simp only [List.drop_zero, List.drop_succ_cons, List.take_succ_cons, List.take_zero] at f4
    rw [List.getElem?_eq_getElem (by omega)] at f4
    have w4 := hW.field (j := 4) Try.underlying41 rfl (by rw [List.getElem?_map, List.getElem?_eq_getElem (by omega)]; rfl)
    obtain ⟨l4, a4, k4, e4, n4, g4, r4⟩ := vals_open f4 w4
    have f5 := hf 5 _ rfl
    change DataW.trod _ _ _ _ _ _ _ 38 (([c0, c1, c2, c3, c4, c5, c6].drop 5).take (Try.prog.cellsOf 38)) = _ at f5
    rw [cells_intsT] at f5
    simp only [List.drop_zero, List.drop_succ_cons, List.take_succ_cons, List.take_zero] at f5
    rw [List.getElem?_eq_getElem (by omega)] at f5
    have w5 := hW.field (j := 5) Try.underlying41 rfl (by rw [List.getElem?_map, List.getElem?_eq_getElem (by omega)]; rfl)
    obtain ⟨l5, a5, k5, e5, n5, g5, r5⟩ := ints_open f5 w5
    have f6 := hf 6 _ rfl
    change DataW.trod _ _ _ _ _ _ _ 39 (([c0, c1, c2, c3, c4, c5, c6].drop 6).take (Try.prog.cellsOf 39)) = _ at f6
    rw [cells_mailsT] at f6
    simp only [List.drop_zero, List.drop_succ_cons, List.take_succ_cons, List.take_zero] at f6
    rw [List.getElem?_eq_getElem (by omega)] at f6
    have w6 := hW.field (j := 6) Try.underlying41 rfl (by rw [List.getElem?_map, List.getElem?_eq_getElem (by omega)]; rfl)
    obtain ⟨l6, a6, k6, e6, n6, g6, r6⟩ := mails_open f6 w6
    simp only [List.cons.injEq, and_true] at e0 e1 e2 e3 e4 e5 e6
    subst e0 e1 e2 e3 e4 e5 e6
    exact ⟨⟨z0, s1, s2, z3, l4, l5, l6⟩, a4, k4, a5, k5, a6, k6, rfl, ⟨b0, b3, b1, b2, r4, r5, r6, n4, by simp only; omega, n6⟩, g4, g5, g6⟩

theorem dead_open {n : Nat} {cs : List Value} {x : DataW H × List MemPlace} (hlen : cs.length = 6) (h : DataW.trod enc Try.prog w base spare held n 51 cs = some x) (hW : Wt 51 x.1) :
    ∃ (x : DeadP) (ka : Option Addr) (kc : Nat) (fa : Option Addr) (fc : Nat), cs = [.int .i64 x.n, .int .i64 x.mail.id, .string (S x.mail.chan), .slice ka x.mail.key.length kc, .slice fa x.mail.fields.length fc, .int .i64 x.reason] ∧ Num64 x.n ∧ Num64 x.reason ∧ MBig x.mail ∧ ValsAt w ka x.mail.key ∧ ValsAt w fa x.mail.fields := by
  match cs, hlen with
  | [c0, c1, c2, c3, c4, c5], _ =>
    obtain ⟨ys, m, _, rfl, _, hyl, hf⟩ := DataW.trod_struct Try.underlying51 h
    have hyl : ys.length = 3 := hyl
    have f0 := hf 0 _ rfl
    change DataW.trod _ _ _ _ _ _ _ 2 (([c0, c1, c2, c3, c4, c5].drop 0).take (Try.prog.cellsOf 2)) = _ at f0
    rw [cells_i64T] at f0
    simp only [List.drop_zero, List.drop_succ_cons, List.take_succ_cons, List.take_zero] at f0
    rw [List.getElem?_eq_getElem (by omega)] at f0
    obtain ⟨z0, e0, b0⟩ := i64_open f0
    have f1 := hf 1 _ rfl
    change DataW.trod _ _ _ _ _ _ _ 33 (([c0, c1, c2, c3, c4, c5].drop 1).take (Try.prog.cellsOf 33)) = _ at f1
    rw [cells_mailT] at f1
    simp only [List.drop_zero, List.drop_succ_cons, List.take_succ_cons, List.take_zero] at f1
    rw [List.getElem?_eq_getElem (by omega)] at f1
    have w1 := hW.field (j := 1) Try.underlying51 rfl (by rw [List.getElem?_map, List.getElem?_eq_getElem (by omega)]; rfl)
    obtain ⟨m1, ka, kc, fa, fc, e1, b1, g1, g1b⟩ := mail_open rfl f1 w1
    have f2 := hf 2 _ rfl
    change DataW.trod _ _ _ _ _ _ _ 3 (([c0, c1, c2, c3, c4, c5].drop 5).take (Try.prog.cellsOf 3)) = _ at f2
    rw [cells_intT] at f2
    simp only [List.drop_zero, List.drop_succ_cons, List.take_succ_cons, List.take_zero] at f2
    rw [List.getElem?_eq_getElem (by omega)] at f2
    obtain ⟨z2, e2, b2⟩ := int_open f2
    simp only [List.cons.injEq, and_true] at e0 e1 e2
    obtain ⟨h10, h11, h12, h13⟩ := e1
    subst e0 h10 h11 h12 h13 e2
    exact ⟨⟨z0, m1, z2⟩, ka, kc, fa, fc, rfl, b0, b2, b1, g1, g1b⟩

theorem event_open {n : Nat} {cs : List Value} {x : DataW H × List MemPlace} (hlen : cs.length = 7) (h : DataW.trod enc Try.prog w base spare held n 57 cs = some x) (hW : Wt 57 x.1) :
    ∃ (y : EventP) (aa : Option Addr) (ac : Nat), cs = [.int .i64 y.n, .int .i64 y.tick, .string (S y.name), .int .i64 y.item, .string (S y.typ), .string (S y.state), .slice aa y.attrs.length ac] ∧ ((Num64 y.n ∧ Num64 y.tick ∧ Num64 y.item) ∧ (y.name.length ≤ 140737488355328 ∧ y.typ.length ≤ 140737488355328 ∧ y.state.length ≤ 140737488355328) ∧ (∀ v ∈ y.attrs, VBig v) ∧ y.attrs.length ≤ 281474976710656) ∧ ValsAt w aa y.attrs := by
  match cs, hlen with
  | [c0, c1, c2, c3, c4, c5, c6], _ =>
    obtain ⟨ys, m, _, rfl, _, hyl, hf⟩ := DataW.trod_struct Try.underlying57 h
    have hyl : ys.length = 7 := hyl
    have f0 := hf 0 _ rfl
    change DataW.trod _ _ _ _ _ _ _ 2 (([c0, c1, c2, c3, c4, c5, c6].drop 0).take (Try.prog.cellsOf 2)) = _ at f0
    rw [cells_i64T] at f0
    simp only [List.drop_zero, List.drop_succ_cons, List.take_succ_cons, List.take_zero] at f0
    rw [List.getElem?_eq_getElem (by omega)] at f0
    obtain ⟨z0, e0, b0⟩ := i64_open f0
    have f1 := hf 1 _ rfl
    change DataW.trod _ _ _ _ _ _ _ 2 (([c0, c1, c2, c3, c4, c5, c6].drop 1).take (Try.prog.cellsOf 2)) = _ at f1
    rw [cells_i64T] at f1
    simp only [List.drop_zero, List.drop_succ_cons, List.take_succ_cons, List.take_zero] at f1
    rw [List.getElem?_eq_getElem (by omega)] at f1
    obtain ⟨z1, e1, b1⟩ := i64_open f1
    have f2 := hf 2 _ rfl
    change DataW.trod _ _ _ _ _ _ _ 9 (([c0, c1, c2, c3, c4, c5, c6].drop 2).take (Try.prog.cellsOf 9)) = _ at f2
    rw [cells_strT] at f2
    simp only [List.drop_zero, List.drop_succ_cons, List.take_succ_cons, List.take_zero] at f2
    rw [List.getElem?_eq_getElem (by omega)] at f2
    have w2 := hW.field (j := 2) Try.underlying57 rfl (by rw [List.getElem?_map, List.getElem?_eq_getElem (by omega)]; rfl)
    obtain ⟨s2, e2, b2⟩ := str_open f2 w2
    have f3 := hf 3 _ rfl
    change DataW.trod _ _ _ _ _ _ _ 2 (([c0, c1, c2, c3, c4, c5, c6].drop 3).take (Try.prog.cellsOf 2)) = _ at f3
    rw [cells_i64T] at f3
    simp only [List.drop_zero, List.drop_succ_cons, List.take_succ_cons, List.take_zero] at f3
    rw [List.getElem?_eq_getElem (by omega)] at f3
    obtain ⟨z3, e3, b3⟩ := i64_open f3
    have f4 := hf 4 _ rfl
    change DataW.trod _ _ _ _ _ _ _ 9 (([c0, c1, c2, c3, c4, c5, c6].drop 4).take (Try.prog.cellsOf 9)) = _ at f4
    rw [cells_strT] at f4
    simp only [List.drop_zero, List.drop_succ_cons, List.take_succ_cons, List.take_zero] at f4
    rw [List.getElem?_eq_getElem (by omega)] at f4
    have w4 := hW.field (j := 4) Try.underlying57 rfl (by rw [List.getElem?_map, List.getElem?_eq_getElem (by omega)]; rfl)
    obtain ⟨s4, e4, b4⟩ := str_open f4 w4
    have f5 := hf 5 _ rfl
    change DataW.trod _ _ _ _ _ _ _ 9 (([c0, c1, c2, c3, c4, c5, c6].drop 5).take (Try.prog.cellsOf 9)) = _ at f5
    rw [cells_strT] at f5
    simp only [List.drop_zero, List.drop_succ_cons, List.take_succ_cons, List.take_zero] at f5
    rw [List.getElem?_eq_getElem (by omega)] at f5
    have w5 := hW.field (j := 5) Try.underlying57 rfl (by rw [List.getElem?_map, List.getElem?_eq_getElem (by omega)]; rfl)
    obtain ⟨s5, e5, b5⟩ := str_open f5 w5
    have f6 := hf 6 _ rfl
    change DataW.trod _ _ _ _ _ _ _ 31 (([c0, c1, c2, c3, c4, c5, c6].drop 6).take (Try.prog.cellsOf 31)) = _ at f6
    rw [cells_valsT] at f6
    simp only [List.drop_zero, List.drop_succ_cons, List.take_succ_cons, List.take_zero] at f6
    rw [List.getElem?_eq_getElem (by omega)] at f6
    have w6 := hW.field (j := 6) Try.underlying57 rfl (by rw [List.getElem?_map, List.getElem?_eq_getElem (by omega)]; rfl)
    obtain ⟨l6, a6, k6, e6, n6, g6, r6⟩ := vals_open f6 w6
    simp only [List.cons.injEq, and_true] at e0 e1 e2 e3 e4 e5 e6
    subst e0 e1 e2 e3 e4 e5 e6
    exact ⟨⟨z0, z1, s2, z3, s4, s5, l6⟩, a6, k6, rfl, ⟨⟨b0, b1, b3⟩, ⟨b2, b4, b5⟩, r6, n6⟩, g6⟩

theorem sub_open {n : Nat} {cs : List Value} {x : DataW H × List MemPlace} (hlen : cs.length = 3) (h : DataW.trod enc Try.prog w base spare held n 63 cs = some x) (hW : Wt 63 x.1) :
    ∃ z : SubP, cs = [.int .i64 z.id, .string (S z.role), .int .i64 z.past] ∧ Num64 z.id ∧ Num64 z.past ∧ z.role.length ≤ 140737488355328 := by
  match cs, hlen with
  | [c0, c1, c2], _ =>
    obtain ⟨ys, m, _, rfl, _, hyl, hf⟩ := DataW.trod_struct Try.underlying63 h
    have hyl : ys.length = 3 := hyl
    have f0 := hf 0 _ rfl
    change DataW.trod _ _ _ _ _ _ _ 2 (([c0, c1, c2].drop 0).take (Try.prog.cellsOf 2)) = _ at f0
    rw [cells_i64T] at f0
    simp only [List.drop_zero, List.drop_succ_cons, List.take_succ_cons, List.take_zero] at f0
    rw [List.getElem?_eq_getElem (by omega)] at f0
    obtain ⟨z0, e0, b0⟩ := i64_open f0
    have f1 := hf 1 _ rfl
    change DataW.trod _ _ _ _ _ _ _ 9 (([c0, c1, c2].drop 1).take (Try.prog.cellsOf 9)) = _ at f1
    rw [cells_strT] at f1
    simp only [List.drop_zero, List.drop_succ_cons, List.take_succ_cons, List.take_zero] at f1
    rw [List.getElem?_eq_getElem (by omega)] at f1
    have w1 := hW.field (j := 1) Try.underlying63 rfl (by rw [List.getElem?_map, List.getElem?_eq_getElem (by omega)]; rfl)
    obtain ⟨s1, e1, b1⟩ := str_open f1 w1
    have f2 := hf 2 _ rfl
    change DataW.trod _ _ _ _ _ _ _ 2 (([c0, c1, c2].drop 2).take (Try.prog.cellsOf 2)) = _ at f2
    rw [cells_i64T] at f2
    simp only [List.drop_zero, List.drop_succ_cons, List.take_succ_cons, List.take_zero] at f2
    rw [List.getElem?_eq_getElem (by omega)] at f2
    obtain ⟨z2, e2, b2⟩ := i64_open f2
    simp only [List.cons.injEq, and_true] at e0 e1 e2
    subst e0 e1 e2
    exact ⟨⟨z0, s1, z2⟩, rfl, b0, b2, b1⟩
end

end Go.Proofs.Ytkdhchdhgmaolaa.Cd

namespace Go.Proofs.Ytkdhchdhgmaolaa.Cd
open Go.RowKit
open Pk Va
set_option linter.unusedVariables false
set_option linter.unusedSimpArgs false

theorem cntsB_len : ∀ l : List Int, (cntsB l).length ≤ 10 * l.length
  | [] => by simp [cntsB]
  | n :: r => by
    have h1 := cntI_len n
    have h2 := cntsB_len r
    unfold cntsB
    rw [List.length_append, List.length_cons]; omega
theorem mailsB_len : ∀ (l : List MailP), (∀ m ∈ l, MBig m ∧ m.key.length ≤ 40 ∧ m.fields.length ≤ 40) → (mailsB l).length ≤ 15000000000000000 * l.length
  | [], _ => by simp [mailsB]
  | m :: r, h => by
    obtain ⟨h1, h2, h3⟩ := h m (by simp)
    have h4 := mailB_len m h1 h2 h3
    have h5 := mailsB_len r (fun x hx => h x (by simp [hx]))
    unfold mailsB
    rw [List.length_append, List.length_cons]
    omega
/-- What stands ahead of the counters; ahead of the messages. -/
def itemA (x : ItemP) : List UInt8 := numB x.id ++ numB x.since ++ txtB x.typ ++ txtB x.state ++ rowB x.attrs ++ cntI (x.counts.length : Int)
def itemC (x : ItemP) : List UInt8 := itemA x ++ cntsB x.counts ++ cntI (x.box.length : Int)
theorem itemB_eq (x : ItemP) (hc : x.counts.length ≤ 281474976710656) (hb : x.box.length ≤ 281474976710656) : itemB x = itemC x ++ mailsB x.box := by
  unfold itemB itemC itemA
  rw [cntI_len_eq _ hc, cntI_len_eq _ hb]
theorem itemA_len (x : ItemP) (h : IBig x) (ha : x.attrs.length ≤ 40) : (itemA x).length ≤ 8000000000000000 := by
  have l1 := numB_len x.id
  have l2 := numB_len x.since
  have l4 := txtB_len x.typ
  have l5 := txtB_len x.state
  have l6 := h.typ
  have l8 := h.state
  have l7 := rowB_len x.attrs h.attrs ha
  have l9 := cntI_len (x.counts.length : Int)
  unfold itemA
  simp only [List.length_append]
  omega
theorem itemC_len (x : ItemP) (h : IBig x) (ha : x.attrs.length ≤ 40) (hc : x.counts.length ≤ 40) : (itemC x).length ≤ 8000000000001000 := by
  have l1 := itemA_len x h ha
  have l2 := cntsB_len x.counts
  have l9 := cntI_len (x.box.length : Int)
  unfold itemC
  simp only [List.length_append]
  omega

end Go.Proofs.Ytkdhchdhgmaolaa.Cd

namespace Go.Proofs.Ytkdhchdhgmaolaa.Cd
open Go.RowKit
open Pk Va
set_option linter.unusedVariables false
set_option linter.unusedSimpArgs false

/-- Ahead of its counters' and messages' own. -/
def itemH (x : ItemP) : Bool := nameOk x.typ && nameOk x.state && rowOk x.attrs && decide (x.counts.length ≤ 16) && decide (x.box.length ≤ 4096)
theorem itemOk_eq (x : ItemP) : itemOk x = (itemH x && x.counts.all cntOk && x.box.all mailOk) := by
  unfold itemOk itemH
  cases nameOk x.typ <;> cases nameOk x.state <;> cases rowOk x.attrs <;> cases decide (x.counts.length ≤ 16) <;> cases decide (x.box.length ≤ 4096) <;> cases x.counts.all cntOk <;> cases x.box.all mailOk <;> rfl

end Go.Proofs.Ytkdhchdhgmaolaa.Cd

namespace Go.Proofs.Ytkdhchdhgmaolaa.Cd
open Go.RowKit
open Pk Va
set_option linter.unusedVariables false
set_option linter.unusedSimpArgs false

theorem mails_one (W : World) (m : MailP) (ka fa : Option Addr) (kc fc : Nat) (hka : ValsAt W ka m.key) (hfa : ValsAt W fa m.fields) :
    MailsAt (W.alloc (.cells #[.int .i64 m.id, .string (S m.chan), .slice ka m.key.length kc, .slice fa m.fields.length fc] 33)) (some ⟨W.heap.size, 0, none⟩) [m] := fun i hi => by
  have h0 : i = 0 := by simpa using hi
  subst h0
  have hb := heap_alloc_new W (.cells #[.int .i64 m.id, .string (S m.chan), .slice ka m.key.length kc, .slice fa m.fields.length fc] 33)
  have kk := (Below.refl W.heap.size W).alloc (Nat.le_refl _) (.cells #[.int .i64 m.id, .string (S m.chan), .slice ka m.key.length kc, .slice fa m.fields.length fc] 33)
  exact ⟨W.heap.size, 0, ka, kc, fa, fc, rfl, ⟨cell_of_row _ _ 0 _ _ (0, 0) hb, cell_of_row _ _ 1 _ _ (0, 0) hb, cell_of_row _ _ 2 _ _ (0, 0) hb, cell_of_row _ _ 3 _ _ (0, 0) hb, hka.below kk, hfa.below kk⟩, by simp⟩
structure EBig (y : EventP) : Prop where
  n : Num64 y.n
  tick : Num64 y.tick
  item : Num64 y.item
  name : y.name.length ≤ 140737488355328
  typ : y.typ.length ≤ 140737488355328
  state : y.state.length ≤ 140737488355328
  attrs : ∀ v ∈ y.attrs, VBig v
  alen : y.attrs.length ≤ 281474976710656
/-- A call's contract, among worlds that have grown out of W0. -/
theorem good_calls {P : Program} {f : FuncId} {args : Array Value} {W0 W : World} {R : Ending → Prop} (k : Good W0 W) (h : Calls P f args W fun e w' => R e ∧ Below W.heap.size W w') : Calls P f args W fun e w' => R e ∧ Good W0 w' :=
  h.mono fun _ _ g => ⟨g.1, k.step g.2⟩

end Go.Proofs.Ytkdhchdhgmaolaa.Cd

namespace Go.Proofs.Ytkdhchdhgmaolaa.Cd
open Go.RowKit
open Pk Va
set_option linter.unusedVariables false
set_option linter.unusedSimpArgs false

theorem IBig.in_ {x : ItemP} (h : IBig x) : IIn x := ⟨h.id, h.since, fun v hv => (h.attrs v hv).in_, h.counts, fun m hm => (h.box m hm).in_, h.alen, h.clen, h.blen⟩
theorem item_no (x : ItemP) (h : ¬ x.box.length ≤ 4096) : itemOk x = false := by
  have h2 : decide (x.box.length ≤ 4096) = false := decide_eq_false h
  unfold itemOk
  rw [h2]
  simp

section
variable {P : Program} {ops : Array Oper} {Q : Exit → Act → World → Prop} {md : Region.Mode} {S : World → Prop}
/-- An operation that its guard calls off may be taken first. -/
theorem takeU {oi : Oper} {fuel : Nat} {listed : Array Bool} {a : Act} {w : World} (i : Nat) (hr : (Region.ready md ops listed).contains i = true)
    (hf : Region.free md ops listed i = true) (hs : Region.noSelect ops = true) (hi : ops[i]? = some oi) (hw : Region.wanted oi (yielded ops a.tmps) = false)
    (hQ : ∀ c a w, Q (.panic c) (a.put oi.dst undef) w → Q (.panic c) a w) (hS : S w)
    (h : wpAnyH P md ops Q S fuel (listed.setIfInBounds i true) (a.put oi.dst undef) w) : wpAnyH P md ops Q S (fuel + 1) listed a w :=
  wpAnyH_take hi hs hf hr hQ (Or.inr ⟨hw, rfl⟩) hS h
/-- One that is wanted and yields its value wherever S holds. -/
theorem takeW {oi : Oper} {v : Value} {fuel : Nat} {listed : Array Bool} {a : Act} {w : World} (i : Nat) (hr : (Region.ready md ops listed).contains i = true)
    (hf : Region.free md ops listed i = true) (hs : Region.noSelect ops = true) (hi : ops[i]? = some oi) (hw : Region.wanted oi (yielded ops a.tmps) = true)
    (hQ : ∀ c a w, Q (.panic c) (a.put oi.dst v) w → Q (.panic c) a w) (hS : S w) (hy : ∀ w, S w → (execOp a.eval oi).run P w = .ok (.value v) w)
    (h : wpAnyH P md ops Q S fuel (listed.setIfInBounds i true) (a.put oi.dst v) w) : wpAnyH P md ops Q S (fuel + 1) listed a w :=
  wpAnyH_take hi hs hf hr hQ (Or.inl ⟨hw, hy⟩) hS h
end

end Go.Proofs.Ytkdhchdhgmaolaa.Cd
