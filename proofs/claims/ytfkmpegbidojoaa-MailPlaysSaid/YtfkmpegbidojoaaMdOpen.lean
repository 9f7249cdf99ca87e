/-
  What comes in, opened: values, messages, dead letters, and rows of them.
-/
import Derived.Test.YtfkmpegbidojoaaMdPure
import Derived.Deep.Slices
import Derived.ChangeArms
import Derived.Handed
namespace Go.Proofs.Ytfkmpegbidojoaa.Md
open Go.RowKit
open Va
set_option linter.unusedVariables false
set_option linter.unusedSimpArgs false

section
variable {H : Type} {enc : TypeId × Value → H} {w : World} {base : Nat} {spare : Nat → Bool} {held : Bool}

/-- No piece is heavier than any machine bears. -/
def Wt (t : TypeId) (d : DataW H) : Prop := ∀ n ∈ d.weights Try.prog t, n ≤ 140737488355328
theorem all_mem {e : TypeId} : ∀ {l : List (DataW H)} {d : DataW H}, d ∈ l → ∀ n ∈ d.weights Try.prog e, n ∈ DataW.weightsAll Try.prog e l
  | x :: r, d, hd, n, hn => by
    simp only [DataW.weightsAll, List.mem_append]
    rcases List.mem_cons.1 hd with rfl | hd
    · exact .inl hn
    · exact .inr (all_mem hd n hn)
theorem each_mem : ∀ {ts : List TypeId} {ds : List (DataW H)} {j : Nat} {t : TypeId} {d : DataW H}, ts[j]? = some t → ds[j]? = some d → ∀ n ∈ d.weights Try.prog t, n ∈ DataW.weightsEach Try.prog ts ds
  | t0 :: ts, d0 :: ds, 0, t, d, ht, hd, n, hn => by
    simp only [List.getElem?_cons_zero, Option.some.injEq] at ht hd
    subst ht; subst hd
    simp only [DataW.weightsEach, List.mem_append]
    exact Or.inl hn
  | t0 :: ts, d0 :: ds, j + 1, t, d, ht, hd, n, hn => by
    simp only [List.getElem?_cons_succ] at ht hd
    simp only [DataW.weightsEach, List.mem_append]
    exact Or.inr (each_mem ht hd n hn)
  | [], _, _, _, _, ht, _, _, _ => by simp at ht
  | _ :: _, [], _, _, _, _, hd, _, _ => by simp at hd
theorem Wt.field {t : TypeId} {fs : Array Field} {parts : List (DataW H)} (hu : Try.prog.underlying t = some (.struct fs)) (h : Wt t (.agg parts)) {j : Nat} {f : Field} {d : DataW H} (hf : fs[j]? = some f) (hd : parts[j]? = some d) : Wt f.type d := fun n hn => by
  refine h n ?_
  simp only [DataW.weights, hu]
  refine each_mem (j := j) ?_ hd n hn
  rw [List.getElem?_map, Array.getElem?_toList, hf]; rfl
theorem Wt.elems {t e : TypeId} {es sp : List (DataW H)} (hu : Try.prog.underlying t = some (.slice e)) (h : Wt t (.slice es sp)) : es.length * Try.prog.bytesOf e ≤ 140737488355328 ∧ ∀ d ∈ es, Wt e d := by
  constructor
  · have := h ((es.length + sp.length) * Try.prog.bytesOf e) (by simp [DataW.weights, hu])
    exact Nat.le_trans (Nat.mul_le_mul_right _ (by omega)) this
  · intro d hd n hn
    refine h n ?_
    simp only [DataW.weights, hu, List.mem_cons, List.mem_append]
    exact .inr (.inl (all_mem hd n hn))
theorem slice_elems {t e : TypeId} {k : Nat} {fuel : Nat} {cs : List Value} {x : DataW H × List MemPlace} (ht : Try.prog.underlying t = some (.slice e)) (hk : Try.prog.cellsOf e = k) (h : DataW.trod enc Try.prog w base spare held fuel t cs = some x) (hW : Wt t x.1) :
    cs = [.slice none 0 0] ∨ ∃ (a : Addr) (len cap n : Nat) (D : Nat → DataW H) (Pl : Nat → List MemPlace), fuel = n + 1 ∧ cs = [.slice (some a) len cap] ∧ len * Try.prog.bytesOf e ≤ 140737488355328 ∧
      ∀ i, i < len → ∃ cs', w.cells? base (a.add (i * k)) k = some cs' ∧ DataW.trod enc Try.prog w base spare held n e cs' = some (D i, Pl i) ∧ Wt e (D i) := by
  subst hk
  rcases DataW.trod_slice ht h with h0 | ⟨a, len, cap, elems, rest, n, hn, rfl, rfl, hb, hl, hm, hlen, hel, hsp, hns⟩
  · exact .inl h0.1
  right
  obtain ⟨w1, w2⟩ := hW.elems ht
  rw [List.length_map, hlen] at w1
  refine ⟨a, len, cap, n, fun i => (elems.getD i (.nil, [])).1, fun i => (elems.getD i (.nil, [])).2, hn, rfl, w1, fun i hi => ?_⟩
  have key := hel i hi
  rw [List.getElem?_eq_getElem (by omega)] at key
  obtain ⟨cs', h1, h2⟩ := Option.bind_eq_some_iff.1 key
  have hg : elems.getD i (.nil, []) = elems[i]'(by omega) := by simp [List.getD, List.getElem?_eq_getElem (show i < elems.length by omega)]
  refine ⟨cs', h1, ?_, ?_⟩
  · simp only [hg]; rw [h2]
  · simp only [hg]
    exact w2 _ (List.mem_map.2 ⟨_, List.getElem_mem _, rfl⟩)
theorem str_open {n : Nat} {cs : List Value} {x : DataW H × List MemPlace} (h : DataW.trod enc Try.prog w base spare held n 9 cs = some x) (hW : Wt 9 x.1) : ∃ s : List UInt8, cs = [.string (S s)] ∧ s.length ≤ 140737488355328 := by
  obtain ⟨s, rfl, rfl, _⟩ := DataW.trod_string Try.underlying9 h
  refine ⟨s.data.toList, by rw [S_list], ?_⟩
  exact hW s.data.toList.length (by simp [DataW.weights])
theorem int_open {n : Nat} {cs : List Value} {x : DataW H × List MemPlace} (h : DataW.trod enc Try.prog w base spare held n 3 cs = some x) : ∃ z : Int, cs = [.int .i64 z] ∧ Num64 z := by
  obtain ⟨z, rfl, _, hw⟩ := DataW.trod_int Try.underlying3 h
  refine ⟨z, rfl, ?_⟩
  simp [Lit.wf, IntKind.min, IntKind.max, IntKind.signed, IntKind.bits] at hw
  exact ⟨by omega, by omega⟩
theorem i64_open {n : Nat} {cs : List Value} {x : DataW H × List MemPlace} (h : DataW.trod enc Try.prog w base spare held n 2 cs = some x) : ∃ z : Int, cs = [.int .i64 z] ∧ Num64 z := by
  obtain ⟨z, rfl, _, hw⟩ := DataW.trod_int Try.underlying2 h
  refine ⟨z, rfl, ?_⟩
  simp [Lit.wf, IntKind.min, IntKind.max, IntKind.signed, IntKind.bits] at hw
  exact ⟨by omega, by omega⟩
theorem cells_strT : Try.prog.cellsOf 9 = 1 := by kernel_rfl
theorem cells_intT : Try.prog.cellsOf 3 = 1 := by kernel_rfl
theorem cells_i64T : Try.prog.cellsOf 2 = 1 := by kernel_rfl
theorem cells_valT : Try.prog.cellsOf 64 = 4 := by kernel_rfl
theorem cells_mailT : Try.prog.cellsOf 30 = 4 := by kernel_rfl
theorem cells_numsT : Try.prog.cellsOf 62 = 1 := by kernel_rfl
theorem cells_valsT : Try.prog.cellsOf 28 = 1 := by kernel_rfl
theorem cells_mailsT : Try.prog.cellsOf 38 = 1 := by kernel_rfl
theorem bytes_i64T : Try.prog.bytesOf 2 = 8 := by kernel_rfl
theorem bytes_intT : Try.prog.bytesOf 3 = 8 := by kernel_rfl
theorem bytes_valT : 1 ≤ Try.prog.bytesOf 64 := of_decide_eq_true (by kernel_rfl)
theorem bytes_mailT : 1 ≤ Try.prog.bytesOf 30 := of_decide_eq_true (by kernel_rfl)
theorem len_of {len b : Nat} (h : len * b ≤ 140737488355328) (hb : 1 ≤ b) : len ≤ 281474976710656 := by
  have : len * 1 ≤ len * b := Nat.mul_le_mul_left _ hb
  omega
theorem cells_at {a : Addr} {k : Nat} {cs : List Value} (h : w.cells? base a k = some cs) : cs.length = k ∧ ∀ j, j < k → w.cell? (a.add j) = cs[j]? := by
  obtain ⟨_, hl, hat⟩ := World.cells?_some h
  refine ⟨hl, fun j hj => ?_⟩
  rw [hat j hj, List.getElem?_eq_getElem (by omega)]
theorem add_add (b off i j : Nat) : ((⟨b, off, none⟩ : Addr).add i).add j = ⟨b, off + i + j, none⟩ := by
  unfold Addr.add
  by_cases hi : i = 0 <;> by_cases hj : j = 0 <;> simp [hi, hj]
theorem choose_list {α : Type} [Inhabited α] {n : Nat} {p : Nat → α → Prop} (h : ∀ i, i < n → ∃ x, p i x) : ∃ l : List α, l.length = n ∧ ∀ i, (hi : i < l.length) → p i l[i] := by
  obtain ⟨F, hF⟩ := Go.Deep.choose_lt h
  exact ⟨(List.range n).map F, by simp, fun i hi => by simp only [List.getElem_map, List.getElem_range]; exact hF i (by simpa using hi)⟩

instance : Inhabited V := ⟨⟨0, 0, [], []⟩⟩
instance : Inhabited MailP := ⟨⟨0, [], [], []⟩⟩

theorem nums_open {n : Nat} {cs : List Value} {x : DataW H × List MemPlace} (h : DataW.trod enc Try.prog w base spare held n 62 cs = some x) (hW : Wt 62 x.1) :
    ∃ (l : List Int) (a : Option Addr) (cap : Nat), cs = [.slice a l.length cap] ∧ l.length ≤ 17592186044416 ∧ NumsAt w a l ∧ ∀ n ∈ l, Num64 n := by
  rcases slice_elems Try.underlying62 cells_i64T h hW with hcs | ⟨p, len, cap, m, D, Pl, _, hcs, hl, hi⟩
  · exact ⟨[], none, 0, hcs, by simp, fun i hi => absurd hi (by simp), fun n hn => by simp at hn⟩
  · obtain ⟨l, hll, hp⟩ := choose_list (α := Int) (n := len) (p := fun i z => w.cell? ((p.add (i * 1)).add 0) = some (.int .i64 z) ∧ Num64 z) (fun i hil => by
      obtain ⟨cs', h1, h2, h3⟩ := hi i hil
      obtain ⟨z, rfl, hz⟩ := i64_open h2
      exact ⟨z, (cells_at h1).2 0 (by omega), hz⟩)
    rw [bytes_i64T] at hl
    refine ⟨l, some p, cap, by rw [hll]; exact hcs, by omega, fun i hil => ?_, fun n hn => ?_⟩
    · have g := (hp i hil).1
      have g0 := (hp 0 (by omega)).1
      obtain ⟨b, off, spot⟩ := p
      have hspot : spot = none := by simpa [Addr.add] using World.cell?_spot g0
      subst hspot
      rw [add_add, Nat.mul_one, Nat.add_zero] at g
      refine ⟨b, off, rfl, ?_, World.block_lt_of_cell? w _ g⟩
      rw [g]
      simp [List.getD, hil]
    · obtain ⟨i, hil, rfl⟩ := List.mem_iff_getElem.1 hn
      exact (hp i hil).2

theorem val_open {n : Nat} {cs : List Value} {x : DataW H × List MemPlace} (hlen : cs.length = 4) (h : DataW.trod enc Try.prog w base spare held n 64 cs = some x) (hW : Wt 64 x.1) :
    ∃ (v : V) (a : Option Addr) (cap : Nat), cs = [.int .i64 v.kind, .int .i64 v.num, .string (S v.text), .slice a v.list.length cap] ∧ VBig v ∧ NumsAt w a v.list := by
  match cs, hlen with
  | [c0, c1, c2, c3], _ =>
    obtain ⟨ys, m, _, rfl, _, hyl, hf⟩ := DataW.trod_struct Try.underlying64 h
    have hyl : ys.length = 4 := hyl
    have f0 := hf 0 _ rfl
    change DataW.trod _ _ _ _ _ _ _ 3 (([c0, c1, c2, c3].drop 0).take (Try.prog.cellsOf 3)) = _ at f0
    rw [cells_intT] at f0
    simp only [List.drop_zero, List.drop_succ_cons, List.take_succ_cons, List.take_zero] at f0
    rw [List.getElem?_eq_getElem (by omega)] at f0
    obtain ⟨z0, e0, b0⟩ := int_open f0
    have f1 := hf 1 _ rfl
    change DataW.trod _ _ _ _ _ _ _ 2 (([c0, c1, c2, c3].drop 1).take (Try.prog.cellsOf 2)) = _ at f1
    rw [cells_i64T] at f1
    simp only [List.drop_zero, List.drop_succ_cons, List.take_succ_cons, List.take_zero] at f1
    rw [List.getElem?_eq_getElem (by omega)] at f1
    obtain ⟨z1, e1, b1⟩ := i64_open f1
    have f2 := hf 2 _ rfl
    change DataW.trod _ _ _ _ _ _ _ 9 (([c0, c1, c2, c3].drop 2).take (Try.prog.cellsOf 9)) = _ at f2
    rw [cells_strT] at f2
    simp only [List.drop_zero, List.drop_succ_cons, List.take_succ_cons, List.take_zero] at f2
    rw [List.getElem?_eq_getElem (by omega)] at f2
    have w2 := hW.field (j := 2) Try.underlying64 rfl (by rw [List.getElem?_map, List.getElem?_eq_getElem (by omega)]; rfl)
    obtain ⟨s2, e2, b2⟩ := str_open f2 w2
    have f3 := hf 3 _ rfl
    change DataW.trod _ _ _ _ _ _ _ 62 (([c0, c1, c2, c3].drop 3).take (Try.prog.cellsOf 62)) = _ at f3
    rw [cells_numsT] at f3
    simp only [List.drop_zero, List.drop_succ_cons, List.take_succ_cons, List.take_zero] at f3
    rw [List.getElem?_eq_getElem (by omega)] at f3
    have w3 := hW.field (j := 3) Try.underlying64 rfl (by rw [List.getElem?_map, List.getElem?_eq_getElem (by omega)]; rfl)
    obtain ⟨l3, a3, k3, e3, n3, g3, r3⟩ := nums_open f3 w3
    simp only [List.cons.injEq, and_true] at e0 e1 e2 e3
    subst e0 e1 e2 e3
    exact ⟨⟨z0, z1, s2, l3⟩, a3, k3, rfl, ⟨⟨⟨by simp only; omega, by simp only; omega⟩, b1, r3⟩, b2, n3⟩, g3⟩

theorem vals_open {n : Nat} {cs : List Value} {x : DataW H × List MemPlace} (h : DataW.trod enc Try.prog w base spare held n 28 cs = some x) (hW : Wt 28 x.1) :
    ∃ (l : List V) (a : Option Addr) (cap : Nat), cs = [.slice a l.length cap] ∧ l.length ≤ 281474976710656 ∧ ValsAt w a l ∧ ∀ v ∈ l, VBig v := by
  rcases slice_elems Try.underlying28 cells_valT h hW with hcs | ⟨p, len, cap, m, D, Pl, _, hcs, hl, hi⟩
  · exact ⟨[], none, 0, hcs, by simp, fun i hi => absurd hi (by simp), fun a ha => by simp at ha⟩
  · obtain ⟨l, hll, hp⟩ := choose_list (α := V) (n := len) (p := fun i v => (∃ a cap, w.cell? ((p.add (i * 4)).add 0) = some (.int .i64 v.kind) ∧ w.cell? ((p.add (i * 4)).add 1) = some (.int .i64 v.num) ∧ w.cell? ((p.add (i * 4)).add 2) = some (.string (S v.text)) ∧ w.cell? ((p.add (i * 4)).add 3) = some (.slice a v.list.length cap) ∧ NumsAt w a v.list) ∧ VBig v) (fun i hil => by
      obtain ⟨cs', h1, h2, h3⟩ := hi i hil
      obtain ⟨hcl, hat⟩ := cells_at h1
      obtain ⟨v, a, cap, rfl, hv, hn⟩ := val_open hcl h2 h3
      exact ⟨v, ⟨a, cap, hat 0 (by omega), hat 1 (by omega), hat 2 (by omega), hat 3 (by omega), hn⟩, hv⟩)
    refine ⟨l, some p, cap, by rw [hll]; exact hcs, by rw [hll]; exact len_of hl bytes_valT, fun i hil => ?_, fun a ha => ?_⟩
    · obtain ⟨⟨a, c, g0, g1, g2, g3, hn⟩, _⟩ := hp i hil
      obtain ⟨⟨_, _, g00, _⟩, _⟩ := hp 0 (by omega)
      obtain ⟨b, off, spot⟩ := p
      have hspot : spot = none := by simpa [Addr.add] using World.cell?_spot g00
      subst hspot
      rw [add_add] at g0 g1 g2 g3
      exact ⟨b, off, rfl, ⟨a, c, g0, g1, g2, g3, hn⟩, World.block_lt_of_cell? w _ g0⟩
    · obtain ⟨i, hil, rfl⟩ := List.mem_iff_getElem.1 ha
      exact (hp i hil).2

theorem mail_open {n : Nat} {cs : List Value} {x : DataW H × List MemPlace} (hlen : cs.length = 4) (h : DataW.trod enc Try.prog w base spare held n 30 cs = some x) (hW : Wt 30 x.1) :
    ∃ (m : MailP) (ka : Option Addr) (kc : Nat) (fa : Option Addr) (fc : Nat), cs = [.int .i64 m.id, .string (S m.chan), .slice ka m.key.length kc, .slice fa m.fields.length fc] ∧ MBig m ∧ ValsAt w ka m.key ∧ ValsAt w fa m.fields := by
  match cs, hlen with
  | [c0, c1, c2, c3], _ =>
    obtain ⟨ys, m, _, rfl, _, hyl, hf⟩ := DataW.trod_struct Try.underlying30 h
    have hyl : ys.length = 4 := hyl
    have f0 := hf 0 _ rfl
    change DataW.trod _ _ _ _ _ _ _ 2 (([c0, c1, c2, c3].drop 0).take (Try.prog.cellsOf 2)) = _ at f0
    rw [cells_i64T] at f0
    simp only [List.drop_zero, List.drop_succ_cons, List.take_succ_cons, List.take_zero] at f0
    rw [List.getElem?_eq_getElem (by omega)] at f0
    obtain ⟨z0, e0, b0⟩ := i64_open f0
    have f1 := hf 1 _ rfl
    change DataW.trod _ _ _ _ _ _ _ 9 (([c0, c1, c2, c3].drop 1).take (Try.prog.cellsOf 9)) = _ at f1
    rw [cells_strT] at f1
    simp only [List.drop_zero, List.drop_succ_cons, List.take_succ_cons, List.take_zero] at f1
    rw [List.getElem?_eq_getElem (by omega)] at f1
    have w1 := hW.field (j := 1) Try.underlying30 rfl (by rw [List.getElem?_map, List.getElem?_eq_getElem (by omega)]; rfl)
    obtain ⟨s1, e1, b1⟩ := str_open f1 w1
    have f2 := hf 2 _ rfl
    change DataW.trod _ _ _ _ _ _ _ 28 (([c0, c1, c2, c3].drop 2).take (Try.prog.cellsOf 28)) = _ at f2
    rw [cells_valsT] at f2
    simp only [List.drop_zero, List.drop_succ_cons, List.take_succ_cons, List.take_zero] at f2
    rw [List.getElem?_eq_getElem (by omega)] at f2
    have w2 := hW.field (j := 2) Try.underlying30 rfl (by rw [List.getElem?_map, List.getElem?_eq_getElem (by omega)]; rfl)
    obtain ⟨l2, a2, k2, e2, n2, g2, r2⟩ := vals_open f2 w2
    have f3 := hf 3 _ rfl
    change DataW.trod _ _ _ _ _ _ _ 28 (([c0, c1, c2, c3].drop 3).take (Try.prog.cellsOf 28)) = _ at f3
    rw [cells_valsT] at f3
    simp only [List.drop_zero, List.drop_succ_cons, List.take_succ_cons, List.take_zero] at f3
    rw [List.getElem?_eq_getElem (by omega)] at f3
    have w3 := hW.field (j := 3) Try.underlying30 rfl (by rw [List.getElem?_map, List.getElem?_eq_getElem (by omega)]; rfl)
    obtain ⟨l3, a3, k3, e3, n3, g3, r3⟩ := vals_open f3 w3
    simp only [List.cons.injEq, and_true] at e0 e1 e2 e3
    subst e0 e1 e2 e3
    exact ⟨⟨z0, s1, l2, l3⟩, a2, k2, a3, k3, rfl, ⟨b0, r2, r3, b1, n2, n3⟩, g2, g3⟩

theorem mails_open {n : Nat} {cs : List Value} {x : DataW H × List MemPlace} (h : DataW.trod enc Try.prog w base spare held n 38 cs = some x) (hW : Wt 38 x.1) :
    ∃ (l : List MailP) (a : Option Addr) (cap : Nat), cs = [.slice a l.length cap] ∧ l.length ≤ 281474976710656 ∧ MailsAt w a l ∧ ∀ v ∈ l, MBig v := by
  rcases slice_elems Try.underlying38 cells_mailT h hW with hcs | ⟨p, len, cap, m, D, Pl, _, hcs, hl, hi⟩
  · exact ⟨[], none, 0, hcs, by simp, fun i hi => absurd hi (by simp), fun a ha => by simp at ha⟩
  · obtain ⟨l, hll, hp⟩ := choose_list (α := MailP) (n := len) (p := fun i v => (∃ ka kc fa fc, w.cell? ((p.add (i * 4)).add 0) = some (.int .i64 v.id) ∧ w.cell? ((p.add (i * 4)).add 1) = some (.string (S v.chan)) ∧ w.cell? ((p.add (i * 4)).add 2) = some (.slice ka v.key.length kc) ∧ w.cell? ((p.add (i * 4)).add 3) = some (.slice fa v.fields.length fc) ∧ ValsAt w ka v.key ∧ ValsAt w fa v.fields) ∧ MBig v) (fun i hil => by
      obtain ⟨cs', h1, h2, h3⟩ := hi i hil
      obtain ⟨hcl, hat⟩ := cells_at h1
      obtain ⟨v, ka, kc, fa, fc, rfl, hv, hn1, hn2⟩ := mail_open hcl h2 h3
      exact ⟨v, ⟨ka, kc, fa, fc, hat 0 (by omega), hat 1 (by omega), hat 2 (by omega), hat 3 (by omega), hn1, hn2⟩, hv⟩)
    refine ⟨l, some p, cap, by rw [hll]; exact hcs, by rw [hll]; exact len_of hl bytes_mailT, fun i hil => ?_, fun a ha => ?_⟩
    · obtain ⟨⟨ka, kc, fa, fc, g0, g1, g2, g3, hn1, hn2⟩, _⟩ := hp i hil
      obtain ⟨⟨_, _, _, _, g00, _⟩, _⟩ := hp 0 (by omega)
      obtain ⟨b, off, spot⟩ := p
      have hspot : spot = none := by simpa [Addr.add] using World.cell?_spot g00
      subst hspot
      rw [add_add] at g0 g1 g2 g3
      exact ⟨b, off, ka, kc, fa, fc, rfl, ⟨g0, g1, g2, g3, hn1, hn2⟩, World.block_lt_of_cell? w _ g0⟩
    · obtain ⟨i, hil, rfl⟩ := List.mem_iff_getElem.1 ha
      exact (hp i hil).2

theorem dead_open {n : Nat} {cs : List Value} {x : DataW H × List MemPlace} (hlen : cs.length = 6) (h : DataW.trod enc Try.prog w base spare held n 46 cs = some x) (hW : Wt 46 x.1) :
    ∃ (x : DeadP) (ka : Option Addr) (kc : Nat) (fa : Option Addr) (fc : Nat), cs = [.int .i64 x.n, .int .i64 x.mail.id, .string (S x.mail.chan), .slice ka x.mail.key.length kc, .slice fa x.mail.fields.length fc, .int .i64 x.reason] ∧ Num64 x.n ∧ Num64 x.reason ∧ MBig x.mail ∧ ValsAt w ka x.mail.key ∧ ValsAt w fa x.mail.fields := by
  match cs, hlen with
  | [c0, c1, c2, c3, c4, c5], _ =>
    obtain ⟨ys, m, _, rfl, _, hyl, hf⟩ := DataW.trod_struct Try.underlying46 h
    have hyl : ys.length = 3 := hyl
    have f0 := hf 0 _ rfl
    change DataW.trod _ _ _ _ _ _ _ 2 (([c0, c1, c2, c3, c4, c5].drop 0).take (Try.prog.cellsOf 2)) = _ at f0
    rw [cells_i64T] at f0
    simp only [List.drop_zero, List.drop_succ_cons, List.take_succ_cons, List.take_zero] at f0
    rw [List.getElem?_eq_getElem (by omega)] at f0
    obtain ⟨z0, e0, b0⟩ := i64_open f0
    have f1 := hf 1 _ rfl
    change DataW.trod _ _ _ _ _ _ _ 30 (([c0, c1, c2, c3, c4, c5].drop 1).take (Try.prog.cellsOf 30)) = _ at f1
    rw [cells_mailT] at f1
    simp only [List.drop_zero, List.drop_succ_cons, List.take_succ_cons, List.take_zero] at f1
    rw [List.getElem?_eq_getElem (by omega)] at f1
    have w1 := hW.field (j := 1) Try.underlying46 rfl (by rw [List.getElem?_map, List.getElem?_eq_getElem (by omega)]; rfl)
    obtain ⟨m1, ka, kc, fa, fc, e1, b1, g1, g1b⟩ := mail_open rfl f1 w1
    have f2 := hf 2 _ rfl
    change DataW.trod _ _ _ _ _ _ _ 3 (([c0, c1, c2, c3, c4, c5].drop 5).take (Try.prog.cellsOf 3)) = _ at f2
    rw [cells_intT] at f2
    simp only [List.drop_zero, List.drop_succ_cons, List.take_succ_cons, List.take_zero] at f2
    rw [List.getElem?_eq_getElem (by omega)] at f2
    obtain ⟨z2, e2, b2⟩ := int_open f2
    simp only [List.cons.injEq, and_true] at e0 e1 e2
    obtain ⟨h10, h11, h12, h13⟩ := e1
    subst e0 h10 h11 h12 h13 e2
    exact ⟨⟨z0, m1, z2⟩, ka, kc, fa, fc, rfl, b0, b2, b1, g1, g1b⟩

theorem slice_cap {t e : TypeId} {fuel : Nat} {a : Option Addr} {len cap : Nat} {x : DataW H × List MemPlace} (ht : Try.prog.underlying t = some (.slice e)) (h : DataW.trod enc Try.prog w base spare held fuel t [.slice a len cap] = some x) : len ≤ cap := by
  rcases DataW.trod_slice ht h with h0 | ⟨a', len', cap', elems, rest, n, hn, hcs, rfl, hb, hl, _⟩
  · have := h0.1
    simp only [List.cons.injEq, Value.slice.injEq, and_true] at this
    omega
  · simp only [List.cons.injEq, Value.slice.injEq, and_true] at hcs
    omega
instance : Inhabited DeadP := ⟨⟨0, ⟨0, [], [], []⟩, 0⟩⟩
theorem cells_deadT : Try.prog.cellsOf 46 = 6 := by kernel_rfl
theorem bytes_deadT : 1 ≤ Try.prog.bytesOf 46 := of_decide_eq_true (by kernel_rfl)
theorem deads_open {n : Nat} {cs : List Value} {x : DataW H × List MemPlace} (h : DataW.trod enc Try.prog w base spare held n 44 cs = some x) (hW : Wt 44 x.1) :
    ∃ (l : List DeadP) (a : Option Addr) (cap : Nat), cs = [.slice a l.length cap] ∧ (l.length ≤ 281474976710656 ∧ l.length ≤ cap) ∧ DeadsAt w a l ∧ ∀ v ∈ l, DBig v := by
  have hcap := fun (a : Option Addr) (ln cp : Nat) (e : cs = [.slice a ln cp]) => slice_cap (a := a) (len := ln) (cap := cp) Try.underlying44 (e ▸ h)
  rcases slice_elems Try.underlying44 cells_deadT h hW with hcs | ⟨p, len, cap, m, D, Pl, _, hcs, hl, hi⟩
  · exact ⟨[], none, 0, hcs, by simp, fun i hi => absurd hi (by simp), fun a ha => by simp at ha⟩
  · obtain ⟨l, hll, hp⟩ := choose_list (α := DeadP) (n := len) (p := fun i v => (∃ ka kc fa fc, w.cell? ((p.add (i * 6)).add 0) = some (.int .i64 v.n) ∧ w.cell? ((p.add (i * 6)).add 1) = some (.int .i64 v.mail.id) ∧ w.cell? ((p.add (i * 6)).add 2) = some (.string (S v.mail.chan)) ∧ w.cell? ((p.add (i * 6)).add 3) = some (.slice ka v.mail.key.length kc) ∧ w.cell? ((p.add (i * 6)).add 4) = some (.slice fa v.mail.fields.length fc) ∧ w.cell? ((p.add (i * 6)).add 5) = some (.int .i64 v.reason) ∧ ValsAt w ka v.mail.key ∧ ValsAt w fa v.mail.fields) ∧ DBig v) (fun i hil => by
      obtain ⟨cs', h1, h2, h3⟩ := hi i hil
      obtain ⟨hcl, hat⟩ := cells_at h1
      obtain ⟨v, ka, kc, fa, fc, rfl, hv1, hv2, hv3, hn1, hn2⟩ := dead_open hcl h2 h3
      exact ⟨v, ⟨ka, kc, fa, fc, hat 0 (by omega), hat 1 (by omega), hat 2 (by omega), hat 3 (by omega), hat 4 (by omega), hat 5 (by omega), hn1, hn2⟩, ⟨hv1, hv2, hv3⟩⟩)
    refine ⟨l, some p, cap, by rw [hll]; exact hcs, by rw [hll]; exact ⟨len_of hl bytes_deadT, hcap _ _ _ hcs⟩, fun i hil => ?_, fun a ha => ?_⟩
    · obtain ⟨⟨ka, kc, fa, fc, g0, g1, g2, g3, g4, g5, hn1, hn2⟩, _⟩ := hp i hil
      obtain ⟨⟨_, _, _, _, g00, _⟩, _⟩ := hp 0 (by omega)
      obtain ⟨b, off, spot⟩ := p
      have hspot : spot = none := by simpa [Addr.add] using World.cell?_spot g00
      subst hspot
      rw [add_add] at g0 g1 g2 g3 g4 g5
      exact ⟨b, off, ka, kc, fa, fc, rfl, ⟨g0, g1, g2, g3, g4, g5, hn1, hn2⟩, World.block_lt_of_cell? w _ g0⟩
    · obtain ⟨i, hil, rfl⟩ := List.mem_iff_getElem.1 ha
      exact (hp i hil).2
end

end Go.Proofs.Ytfkmpegbidojoaa.Md
