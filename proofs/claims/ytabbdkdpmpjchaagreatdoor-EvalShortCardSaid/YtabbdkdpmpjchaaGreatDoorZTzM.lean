/-
  Several texts in one: TyOpen, VlOpen, EvOpen, TyLaidB, EvLaidW.
-/
import Derived.Test.YtabbdkdpmpjchaaGreatDoorZTzC
import Derived.Test.YtabbdkdpmpjchaaGreatDoorZExChk
import Derived.Test.YtabbdkdpmpjchaaGreatDoorZTzWj
import Derived.Deep.Slices
import Derived.ChangeArms
import Derived.Handed
import Derived.Test.YtabbdkdpmpjchaaGreatDoorZTzF
import Derived.ProofKit
import Derived.OpenShut
import Derived.ShutString
import Derived.ChangeOld
import Derived.Lib.SmallJoins
import Derived.Test.YtabbdkdpmpjchaaGreatDoorZTzY
import Derived.Test.YtabbdkdpmpjchaaGreatDoorRows
import Derived.Test.YtabbdkdpmpjchaaGreatDoorZTzJ
import Derived.Test.YtabbdkdpmpjchaaGreatDoorZTzG
import Derived.Lib.LaidTab
import Derived.MakeChecks
import Derived.SizedLaws
import Derived.LaidLaws
namespace Go.Proofs.YtabbdkdpmpjchaaGreatDoor.Ty
open Go.RowKit
open Ex Lx
set_option linter.unusedVariables false
section
variable {H : Type} {enc : TypeId × Value → H} {w : World} {base : Nat} {spare : Nat → Bool} {held : Bool}
def Wt (t : TypeId) (d : DataW H) : Prop := ∀ n ∈ d.weights Tryz.prog t, n ≤ 140737488355328
theorem all_mem {e : TypeId} : ∀ {l : List (DataW H)} {d : DataW H}, d ∈ l → ∀ n ∈ d.weights Tryz.prog e, n ∈ DataW.weightsAll Tryz.prog e l
  | x :: r, d, hd, n, hn => by
    simp only [DataW.weightsAll, List.mem_append]
    rcases List.mem_cons.1 hd with rfl | hd
    · exact .inl hn
    · exact .inr (all_mem hd n hn)
theorem each_mem : ∀ {ts : List TypeId} {ds : List (DataW H)} {j : Nat} {t : TypeId} {d : DataW H}, ts[j]? = some t → ds[j]? = some d → ∀ n ∈ d.weights Tryz.prog t, n ∈ DataW.weightsEach Tryz.prog ts ds
  | t0 :: ts, d0 :: ds, 0, t, d, ht, hd, n, hn => by
    simp only [List.getElem?_cons_zero, Option.some.injEq] at ht hd
    subst ht; subst hd
    simp only [DataW.weightsEach, List.mem_append]
    exact Or.inl hn
  | t0 :: ts, d0 :: ds, j + 1, t, d, ht, hd, n, hn => by
    simp only [List.getElem?_cons_succ] at ht hd
    simp only [DataW.weightsEach, List.mem_append]
    exact Or.inr (each_mem ht hd n hn)
  | [], _, _, _, _, ht, _, _, _ => by simp at ht
  | _ :: _, [], _, _, _, _, hd, _, _ => by simp at hd
theorem Wt.field {t : TypeId} {fs : Array Field} {parts : List (DataW H)} (hu : Tryz.prog.underlying t = some (.struct fs)) (h : Wt t (.agg parts)) {j : Nat} {f : Field} {d : DataW H} (hf : fs[j]? = some f) (hd : parts[j]? = some d) : Wt f.type d := fun n hn => by
  refine h n ?_
  simp only [DataW.weights, hu]
  refine each_mem (j := j) ?_ hd n hn
  rw [List.getElem?_map, Array.getElem?_toList, hf]; rfl
theorem Wt.elems {t e : TypeId} {es sp : List (DataW H)} (hu : Tryz.prog.underlying t = some (.slice e)) (h : Wt t (.slice es sp)) : es.length * Tryz.prog.bytesOf e ≤ 140737488355328 ∧ ∀ d ∈ es, Wt e d := by
  constructor
  · have := h ((es.length + sp.length) * Tryz.prog.bytesOf e) (by simp [DataW.weights, hu])
    exact Nat.le_trans (Nat.mul_le_mul_right _ (by omega)) this
  · intro d hd n hn
    refine h n ?_
    simp only [DataW.weights, hu, List.mem_cons, List.mem_append]
    exact .inr (.inl (all_mem hd n hn))
theorem slice_elems {t e : TypeId} {k : Nat} {fuel : Nat} {cs : List Value} {x : DataW H × List MemPlace} (ht : Tryz.prog.underlying t = some (.slice e)) (hk : Tryz.prog.cellsOf e = k) (h : DataW.trod enc Tryz.prog w base spare held fuel t cs = some x) (hW : Wt t x.1) :
    cs = [.slice none 0 0] ∨ ∃ (a : Addr) (len cap n : Nat) (D : Nat → DataW H) (Pl : Nat → List MemPlace), fuel = n + 1 ∧ cs = [.slice (some a) len cap] ∧ len * Tryz.prog.bytesOf e ≤ 140737488355328 ∧
      ∀ i, i < len → ∃ cs', w.cells? base (a.add (i * k)) k = some cs' ∧ DataW.trod enc Tryz.prog w base spare held n e cs' = some (D i, Pl i) ∧ Wt e (D i) := by
  subst hk
  rcases DataW.trod_slice ht h with h0 | ⟨a, len, cap, elems, rest, n, hn, rfl, rfl, hb, hl, hm, hlen, hel, hsp, hns⟩
  · exact .inl h0.1
  right
  obtain ⟨w1, w2⟩ := hW.elems ht
  rw [List.length_map, hlen] at w1
  refine ⟨a, len, cap, n, fun i => (elems.getD i (.nil, [])).1, fun i => (elems.getD i (.nil, [])).2, hn, rfl, w1, fun i hi => ?_⟩
  have key := hel i hi
  rw [List.getElem?_eq_getElem (by omega)] at key
  obtain ⟨cs', h1, h2⟩ := Option.bind_eq_some_iff.1 key
  have hg : elems.getD i (.nil, []) = elems[i]'(by omega) := by simp [List.getD, List.getElem?_eq_getElem (show i < elems.length by omega)]
  refine ⟨cs', h1, ?_, ?_⟩
  · simp only [hg]; rw [h2]
  · simp only [hg]
    exact w2 _ (List.mem_map.2 ⟨_, List.getElem_mem _, rfl⟩)
theorem str_open {n : Nat} {cs : List Value} {x : DataW H × List MemPlace} (h : DataW.trod enc Tryz.prog w base spare held n 9 cs = some x) (hW : Wt 9 x.1) : ∃ s : List UInt8, cs = [.string (S s)] ∧ s.length ≤ 281474976710656 := by
  obtain ⟨s, rfl, rfl, _⟩ := DataW.trod_string Tryz.underlying9 h
  refine ⟨s.data.toList, by rw [S_list], ?_⟩
  have := hW s.data.toList.length (by simp [DataW.weights])
  omega
theorem int_open {n : Nat} {cs : List Value} {x : DataW H × List MemPlace} (h : DataW.trod enc Tryz.prog w base spare held n 3 cs = some x) : ∃ z : Int, cs = [.int .i64 z] := by
  obtain ⟨z, rfl, _⟩ := DataW.trod_int Tryz.underlying3 h
  exact ⟨z, rfl⟩
theorem i64_open {n : Nat} {cs : List Value} {x : DataW H × List MemPlace} (h : DataW.trod enc Tryz.prog w base spare held n 2 cs = some x) : ∃ z : Int, cs = [.int .i64 z] ∧ z ≤ 9223372036854775807 := by
  obtain ⟨z, rfl, _, hw⟩ := DataW.trod_int Tryz.underlying2 h
  refine ⟨z, rfl, ?_⟩
  simp [Lit.wf, IntKind.min, IntKind.max, IntKind.signed, IntKind.bits] at hw
  omega
theorem cells_strT : Tryz.prog.cellsOf 9 = 1 := by kernel_rfl
theorem cells_intT : Tryz.prog.cellsOf 3 = 1 := by kernel_rfl
theorem cells_i64T : Tryz.prog.cellsOf 2 = 1 := by kernel_rfl
theorem cells_attrT : Tryz.prog.cellsOf 49 = 3 := by kernel_rfl
theorem cells_exprT : Tryz.prog.cellsOf 24 = 4 := by kernel_rfl
theorem cells_attrsT : Tryz.prog.cellsOf 40 = 1 := by kernel_rfl
theorem cells_exprsT : Tryz.prog.cellsOf 22 = 1 := by kernel_rfl
theorem bytes_attrT : 1 ≤ Tryz.prog.bytesOf 49 := of_decide_eq_true (by kernel_rfl)
theorem bytes_exprT : 1 ≤ Tryz.prog.bytesOf 24 := of_decide_eq_true (by kernel_rfl)
theorem len_of {len b : Nat} (h : len * b ≤ 140737488355328) (hb : 1 ≤ b) : len ≤ 281474976710656 := by
  have : len * 1 ≤ len * b := Nat.mul_le_mul_left _ hb
  omega
theorem cells_at {a : Addr} {k : Nat} {cs : List Value} (h : w.cells? base a k = some cs) : cs.length = k ∧ ∀ j, j < k → w.cell? (a.add j) = cs[j]? := by
  obtain ⟨_, hl, hat⟩ := World.cells?_some h
  refine ⟨hl, fun j hj => ?_⟩
  rw [hat j hj, List.getElem?_eq_getElem (by omega)]
theorem add_add (b off i j : Nat) : ((⟨b, off, none⟩ : Addr).add i).add j = ⟨b, off + i + j, none⟩ := by
  unfold Addr.add
  by_cases hi : i = 0 <;> by_cases hj : j = 0 <;> simp [hi, hj]
theorem choose_list {α : Type} [Inhabited α] {n : Nat} {p : Nat → α → Prop} (h : ∀ i, i < n → ∃ x, p i x) : ∃ l : List α, l.length = n ∧ ∀ i, (hi : i < l.length) → p i l[i] := by
  obtain ⟨F, hF⟩ := Go.Deep.choose_lt h
  exact ⟨(List.range n).map F, by simp, fun i hi => by simp only [List.getElem_map, List.getElem_range]; exact hF i (by simpa using hi)⟩
theorem attr_open {n : Nat} {cs : List Value} {x : DataW H × List MemPlace} (hlen : cs.length = 3) (h : DataW.trod enc Tryz.prog w base spare held n 49 cs = some x) (hW : Wt 49 x.1) :
    ∃ a : AttrP, cs = [.string (S a.name), .int .i64 a.kind, .string (S a.enum)] ∧ a.enum.length ≤ 281474976710656 := by
  match cs, hlen with
  | [c0, c1, c2], _ =>
    obtain ⟨ys, m, _, rfl, _, hyl, hf⟩ := DataW.trod_struct Tryz.underlying49 h
    have hyl : ys.length = 3 := hyl
    have f0 := hf 0 _ rfl
    have f1 := hf 1 _ rfl
    have f2 := hf 2 _ rfl
    change DataW.trod _ _ _ _ _ _ _ 9 (([c0, c1, c2].drop 0).take (Tryz.prog.cellsOf 9)) = _ at f0
    change DataW.trod _ _ _ _ _ _ _ 3 (([c0, c1, c2].drop 1).take (Tryz.prog.cellsOf 3)) = _ at f1
    change DataW.trod _ _ _ _ _ _ _ 9 (([c0, c1, c2].drop 2).take (Tryz.prog.cellsOf 9)) = _ at f2
    rw [cells_strT] at f0 f2
    rw [cells_intT] at f1
    simp only [List.drop_zero, List.drop_succ_cons, List.take_succ_cons, List.take_zero] at f0 f1 f2
    rw [List.getElem?_eq_getElem (by omega)] at f0 f1 f2
    have w0 := hW.field (j := 0) Tryz.underlying49 rfl (by rw [List.getElem?_map, List.getElem?_eq_getElem (by omega)]; rfl)
    have w2 := hW.field (j := 2) Tryz.underlying49 rfl (by rw [List.getElem?_map, List.getElem?_eq_getElem (by omega)]; rfl)
    obtain ⟨s0, e0, l0⟩ := str_open f0 w0
    obtain ⟨z, e1⟩ := int_open f1
    obtain ⟨s2, e2, l2⟩ := str_open f2 w2
    simp only [List.cons.injEq, and_true] at e0 e1 e2
    subst e0 e1 e2
    exact ⟨⟨s0, z, s2⟩, rfl, l2⟩
theorem attrs_open {n : Nat} {cs : List Value} {x : DataW H × List MemPlace} (h : DataW.trod enc Tryz.prog w base spare held n 40 cs = some x) (hW : Wt 40 x.1) :
    ∃ (l : List AttrP) (a : Option Addr) (cap : Nat), cs = [.slice a l.length cap] ∧ l.length ≤ 281474976710656 ∧ AttrsAt w a l ∧ ∀ a ∈ l, a.enum.length ≤ 281474976710656 := by
  rcases slice_elems Tryz.underlying40 cells_attrT h hW with hcs | ⟨p, len, cap, m, D, Pl, _, hcs, hl, hi⟩
  · exact ⟨[], none, 0, hcs, by simp, fun i hi => absurd hi (by simp), fun a ha => by simp at ha⟩
  · obtain ⟨l, hll, hp⟩ := choose_list (α := AttrP) (n := len) (p := fun i a => (w.cell? ((p.add (i * 3)).add 0) = some (.string (S a.name)) ∧ w.cell? ((p.add (i * 3)).add 1) = some (.int .i64 a.kind) ∧ w.cell? ((p.add (i * 3)).add 2) = some (.string (S a.enum))) ∧ a.enum.length ≤ 281474976710656) (fun i hil => by
      obtain ⟨cs', h1, h2, h3⟩ := hi i hil
      obtain ⟨hcl, hat⟩ := cells_at h1
      obtain ⟨a, rfl, ha⟩ := attr_open hcl h2 h3
      exact ⟨a, ⟨hat 0 (by omega), hat 1 (by omega), hat 2 (by omega)⟩, ha⟩)
    refine ⟨l, some p, cap, by rw [hll]; exact hcs, by rw [hll]; exact len_of hl bytes_attrT, fun i hil => ?_, fun a ha => ?_⟩
    · obtain ⟨⟨g0, g1, g2⟩, _⟩ := hp i hil
      obtain ⟨⟨g00, _⟩, _⟩ := hp 0 (by omega)
      obtain ⟨b, off, spot⟩ := p
      have hspot : spot = none := by simpa [Addr.add] using World.cell?_spot g00
      subst hspot
      rw [add_add] at g0 g1 g2
      exact ⟨b, off, rfl, World.block_lt_of_cell? w _ g0, g0, g1, g2⟩
    · obtain ⟨i, hil, rfl⟩ := List.mem_iff_getElem.1 ha
      exact (hp i hil).2
structure XM where
  t : T
  p : Option Addr
  c : Nat
instance : Inhabited XM := ⟨⟨⟨0, 0, [], .nil⟩, none, 0⟩⟩
def rowM : List XM → F
  | [] => .nil
  | x :: r => .cons x.t.op x.t.num x.t.text x.t.args (rowM r)
theorem rowM_len : ∀ l, (rowM l).len = l.length
  | [] => rfl
  | x :: r => by show (rowM r).len + 1 = r.length + 1; rw [rowM_len r]
theorem rowM_at (b : Nat) : ∀ (l : List XM) (k : Nat), (∀ i, (hi : i < l.length) → w.cell? ⟨b, k + i * 4, none⟩ = some (.int .i64 l[i].t.op) ∧ w.cell? ⟨b, k + i * 4 + 1, none⟩ = some (.int .i64 l[i].t.num) ∧ w.cell? ⟨b, k + i * 4 + 2, none⟩ = some (.string (S l[i].t.text)) ∧ w.cell? ⟨b, k + i * 4 + 3, none⟩ = some (.slice l[i].p l[i].t.args.len l[i].c) ∧ FAt w (fun _ => True) l[i].t.args l[i].p) → FAt w (fun _ => True) (rowM l) (some ⟨b, k, none⟩)
  | [], _, _ => trivial
  | x :: r, k, h => by
    obtain ⟨h0, h1, h2, h3, h4⟩ := h 0 (by simp)
    simp only [Nat.zero_mul, Nat.add_zero, List.getElem_cons_zero] at h0 h1 h2 h3 h4
    refine ⟨b, k, x.p, x.c, rfl, trivial, World.block_lt_of_cell? w _ h0, h0, h1, h2, h3, h4, rowM_at b r (k + 4) fun i hi => ?_⟩
    have := h (i + 1) (by simp; omega)
    rw [show k + (i + 1) * 4 = k + 4 + i * 4 by omega] at this
    simpa using this
theorem rowM_fits : ∀ l : List XM, (∀ x ∈ l, x.t.row.fits ∧ x.t.row.nums) → (rowM l).fits ∧ (rowM l).nums
  | [], _ => ⟨trivial, trivial⟩
  | x :: r, h => by
    obtain ⟨⟨f1, f2, f3, _⟩, n1, n2, _⟩ := h x (by simp)
    obtain ⟨g1, g2⟩ := rowM_fits r (fun y hy => h y (by simp [hy]))
    exact ⟨⟨f1, f2, f3, g1⟩, n1, n2, g2⟩
theorem expr_open : ∀ (n : Nat) (cs : List Value) (x : DataW H × List MemPlace), cs.length = 4 → DataW.trod enc Tryz.prog w base spare held n 24 cs = some x → Wt 24 x.1 →
    ∃ (t : T) (p : Option Addr) (c : Nat), cs = [.int .i64 t.op, .int .i64 t.num, .string (S t.text), .slice p t.args.len c] ∧ (t.row.fits ∧ t.row.nums) ∧ FAt w (fun _ => True) t.args p := by
  intro n
  induction n using Nat.strongRecOn with
  | _ n ih =>
  intro cs x hlen h hW
  match cs, hlen with
  | [c0, c1, c2, c3], _ =>
    obtain ⟨ys, m, hnm, rfl, _, hyl, hf⟩ := DataW.trod_struct Tryz.underlying24 h
    have hyl : ys.length = 4 := hyl
    have f0 := hf 0 _ rfl
    have f1 := hf 1 _ rfl
    have f2 := hf 2 _ rfl
    have f3 := hf 3 _ rfl
    change DataW.trod _ _ _ _ _ _ _ 3 (([c0, c1, c2, c3].drop 0).take (Tryz.prog.cellsOf 3)) = _ at f0
    change DataW.trod _ _ _ _ _ _ _ 2 (([c0, c1, c2, c3].drop 1).take (Tryz.prog.cellsOf 2)) = _ at f1
    change DataW.trod _ _ _ _ _ _ _ 9 (([c0, c1, c2, c3].drop 2).take (Tryz.prog.cellsOf 9)) = _ at f2
    change DataW.trod _ _ _ _ _ _ _ 22 (([c0, c1, c2, c3].drop 3).take (Tryz.prog.cellsOf 22)) = _ at f3
    rw [cells_intT] at f0
    rw [cells_i64T] at f1
    rw [cells_strT] at f2
    rw [cells_exprsT] at f3
    simp only [List.drop_zero, List.drop_succ_cons, List.take_succ_cons, List.take_zero] at f0 f1 f2 f3
    rw [List.getElem?_eq_getElem (by omega)] at f0 f1 f2 f3
    have w2 := hW.field (j := 2) Tryz.underlying24 rfl (by rw [List.getElem?_map, List.getElem?_eq_getElem (by omega)]; rfl)
    have w3 := hW.field (j := 3) Tryz.underlying24 rfl (by rw [List.getElem?_map, List.getElem?_eq_getElem (by omega)]; rfl)
    obtain ⟨z0, e0⟩ := int_open f0
    obtain ⟨z1, e1, hz1⟩ := i64_open f1
    obtain ⟨s2, e2, l2⟩ := str_open f2 w2
    simp only [List.cons.injEq, and_true] at e0 e1 e2
    subst e0 e1 e2
    rcases slice_elems Tryz.underlying22 cells_exprT f3 w3 with hcs | ⟨p, len, cap, m', D, Pl, hm', hcs, hl, hi⟩
    · simp only [List.cons.injEq, and_true] at hcs
      subst hcs
      exact ⟨⟨z0, z1, s2, .nil⟩, none, 0, rfl, ⟨⟨l2, by simp [F.len], trivial, trivial⟩, hz1, trivial, trivial⟩, trivial⟩
    · simp only [List.cons.injEq, and_true] at hcs
      subst hcs
      obtain ⟨l, hll, hp⟩ := choose_list (α := XM) (n := len) (p := fun i x => (w.cell? ((p.add (i * 4)).add 0) = some (.int .i64 x.t.op) ∧ w.cell? ((p.add (i * 4)).add 1) = some (.int .i64 x.t.num) ∧ w.cell? ((p.add (i * 4)).add 2) = some (.string (S x.t.text)) ∧ w.cell? ((p.add (i * 4)).add 3) = some (.slice x.p x.t.args.len x.c) ∧ FAt w (fun _ => True) x.t.args x.p) ∧ x.t.row.fits ∧ x.t.row.nums) (fun i hil => by
        obtain ⟨cs', h1, h2, h3⟩ := hi i hil
        obtain ⟨hcl, hat⟩ := cells_at h1
        obtain ⟨t, q, c, rfl, hfn, hfa⟩ := ih m' (by omega) cs' _ hcl h2 h3
        exact ⟨⟨t, q, c⟩, ⟨hat 0 (by omega), hat 1 (by omega), hat 2 (by omega), hat 3 (by omega), hfa⟩, hfn⟩)
      have hrf := rowM_fits l (fun x hx => by
        obtain ⟨i, hil, rfl⟩ := List.mem_iff_getElem.1 hx
        exact (hp i hil).2)
      have hrl := rowM_len l
      rw [hll] at hrl
      refine ⟨⟨z0, z1, s2, rowM l⟩, some p, cap, by simp only [hrl], ⟨⟨l2, by rw [hrl]; exact len_of hl bytes_exprT, hrf.1, trivial⟩, hz1, hrf.2, trivial⟩, ?_⟩
      by_cases h0 : len = 0
      · have : l = [] := List.eq_nil_of_length_eq_zero (by omega)
        subst this
        trivial
      · obtain ⟨⟨g00, _⟩, _⟩ := hp 0 (by omega)
        obtain ⟨b, off, spot⟩ := p
        have hspot : spot = none := by simpa [Addr.add] using World.cell?_spot g00
        subst hspot
        refine rowM_at b l off fun i hil => ?_
        obtain ⟨⟨g0, g1, g2, g3, g4⟩, _⟩ := hp i hil
        rw [add_add] at g0 g1 g2 g3
        exact ⟨g0, g1, g2, g3, g4⟩
end
end Go.Proofs.YtabbdkdpmpjchaaGreatDoor.Ty

namespace Go.Proofs.YtabbdkdpmpjchaaGreatDoor.Va
open Go.ChangeShapes Go.WideShapes Go.ChangeAt Go.RowKit
set_option linter.unusedVariables false
theorem cells_i64 : Tryz.prog.cellsOf 2 = 1 := by kernel_rfl
theorem cells_int : Tryz.prog.cellsOf 3 = 1 := by kernel_rfl
theorem cells_str : Tryz.prog.cellsOf 9 = 1 := by kernel_rfl
theorem cells_nums : Tryz.prog.cellsOf 50 = 1 := by kernel_rfl
theorem cells_value : Tryz.prog.cellsOf 52 = 4 := by kernel_rfl
structure VArg (v : V) : Prop where
  ok : VOk v
  num : -9223372036854775808 ≤ v.num ∧ v.num ≤ 9223372036854775807
  nums : ∀ n ∈ v.list, -9223372036854775808 ≤ n ∧ n ≤ 9223372036854775807
instance : Inhabited V := ⟨⟨0, 0, [], []⟩⟩
section
variable {H : Type} {enc : TypeId × Value → H} {w : World} {base : Nat} {spare : Nat → Bool} {held : Bool}
theorem open_nums {n : Nat} {cs : List Value} {x : DataW H × List MemPlace} (h : DataW.trod enc Tryz.prog w base spare held n 50 cs = some x) :
    ∃ (l : List Int) (a : Option Addr) (cap : Nat), cs = [.slice a l.length cap] ∧ l.length ≤ 9223372036854775807 ∧ NumsAt w a l ∧ ∀ n ∈ l, -9223372036854775808 ≤ n ∧ n ≤ 9223372036854775807 := by
  rcases Go.Deep.open_slice Tryz.underlying50 h with ⟨hcs, _⟩ | ⟨p, len, cap, m, n', D, Pl, hcs, _, hl, hm, hmm, _, hi⟩
  · exact ⟨[], none, 0, hcs, by simp, fun i hi => absurd hi (by simp), fun n hn => by simp at hn⟩
  · have hlm : len ≤ m := by rw [hmm]; split <;> omega
    rw [cells_i64] at hi
    obtain ⟨F, hF⟩ := Go.Deep.choose_lt (α := Int) (n := len) (p := fun i z => w.cell? (p.add (i * 1)) = some (.int .i64 z) ∧ -9223372036854775808 ≤ z ∧ z ≤ 9223372036854775807) (fun i hil => by
      obtain ⟨cs', h1, h2⟩ := hi i (by omega)
      obtain ⟨_, _, hat⟩ := World.cells?_some h1
      obtain ⟨z, e0, _, w0⟩ := DataW.trod_int Tryz.underlying2 h2
      subst e0
      refine ⟨z, ?_, ?_⟩
      · have := hat 0 (by omega)
        simpa [Addr.add] using this
      · simp [Lit.wf, IntKind.min, IntKind.max, IntKind.signed, IntKind.bits] at w0; omega)
    refine ⟨(List.range len).map F, some p, cap, by simpa using hcs, by simp [maxLen] at hm ⊢; omega, ?_, ?_⟩
    · intro i hil
      have hil2 : i < len := by simpa using hil
      have h1 := (hF i hil2).1
      have h00 := (hF 0 (by omega)).1
      obtain ⟨b, off, spot⟩ := p
      have hspot : spot = none := by simpa [Addr.add] using World.cell?_spot h00
      subst hspot
      have hadd : (⟨b, off, none⟩ : Addr).add (i * 1) = ⟨b, off + i, none⟩ := by
        unfold Addr.add
        by_cases h0 : i = 0 <;> simp [h0]
      rw [hadd] at h1
      refine ⟨b, off, rfl, ?_, World.block_lt_of_cell? w _ h1⟩
      rw [h1]
      simp [List.getD, hil2]
    · intro n hn
      simp only [List.mem_map, List.mem_range] at hn
      obtain ⟨i, hil, rfl⟩ := hn
      exact (hF i hil).2
theorem fields_value {n0 n1 n2 n3 : Nat} {c0 c1 c2 c3 : Value} {x0 x1 x2 x3 : DataW H × List MemPlace} (e0 : DataW.trod enc Tryz.prog w base spare held n0 3 [c0] = some x0) (e1 : DataW.trod enc Tryz.prog w base spare held n1 2 [c1] = some x1)
    (e2 : DataW.trod enc Tryz.prog w base spare held n2 9 [c2] = some x2) (e3 : DataW.trod enc Tryz.prog w base spare held n3 50 [c3] = some x3) :
    ∃ (v : V) (a : Option Addr) (cap : Nat), c0 = .int .i64 v.kind ∧ c1 = .int .i64 v.num ∧ c2 = .string (S v.text) ∧ c3 = .slice a v.list.length cap ∧ VArg v ∧ NumsAt w a v.list := by
  obtain ⟨k, f0, _, _⟩ := DataW.trod_int Tryz.underlying3 e0
  obtain ⟨z, f1, _, w1⟩ := DataW.trod_int Tryz.underlying2 e1
  obtain ⟨s, f2, _, w2⟩ := DataW.trod_string Tryz.underlying9 e2
  obtain ⟨l, a, cap, f3, hl, hn, hr⟩ := open_nums e3
  simp only [List.cons.injEq, and_true] at f0 f1 f2 f3
  refine ⟨⟨k, z, s.data.toList, l⟩, a, cap, f0, f1, ?_, f3, ⟨⟨?_, hl⟩, ?_, hr⟩, hn⟩
  · rw [f2, S_list]
  · simp only; rw [list_size]; simp [maxLen] at w2; omega
  · simp [Lit.wf, IntKind.min, IntKind.max, IntKind.signed, IntKind.bits] at w1; simp only; omega
theorem four_of {cs : List Value} (h : cs.length = 4) : ∃ a b c d, cs = [a, b, c, d] := by
  match cs, h with
  | [a, b, c, d], _ => exact ⟨a, b, c, d, rfl⟩
theorem open_value {n : Nat} {cs : List Value} {x : DataW H × List MemPlace} (hlen : cs.length = 4) (h : DataW.trod enc Tryz.prog w base spare held n 52 cs = some x) :
    ∃ (v : V) (a : Option Addr) (cap : Nat), cs = [.int .i64 v.kind, .int .i64 v.num, .string (S v.text), .slice a v.list.length cap] ∧ VArg v ∧ NumsAt w a v.list := by
  obtain ⟨c0, c1, c2, c3, rfl⟩ := four_of hlen
  obtain ⟨ys, m, _, _, _, hyl, hf⟩ := DataW.trod_struct Tryz.underlying52 h
  have f0 := hf 0 _ rfl
  have f1 := hf 1 _ rfl
  have f2 := hf 2 _ rfl
  have f3 := hf 3 _ rfl
  change DataW.trod _ _ _ _ _ _ _ 3 (([c0, c1, c2, c3].drop 0).take (Tryz.prog.cellsOf 3)) = _ at f0
  change DataW.trod _ _ _ _ _ _ _ 2 (([c0, c1, c2, c3].drop 1).take (Tryz.prog.cellsOf 2)) = _ at f1
  change DataW.trod _ _ _ _ _ _ _ 9 (([c0, c1, c2, c3].drop 2).take (Tryz.prog.cellsOf 9)) = _ at f2
  change DataW.trod _ _ _ _ _ _ _ 50 (([c0, c1, c2, c3].drop 3).take (Tryz.prog.cellsOf 50)) = _ at f3
  rw [cells_int] at f0
  rw [cells_i64] at f1
  rw [cells_str] at f2
  rw [cells_nums] at f3
  simp only [List.drop_zero, List.drop_succ_cons, List.take_succ_cons, List.take_zero] at f0 f1 f2 f3
  have hyl : ys.length = 4 := hyl
  rw [List.getElem?_eq_getElem (by omega)] at f0 f1 f2 f3
  obtain ⟨v, a, cap, rfl, rfl, rfl, rfl, hv, hn⟩ := fields_value f0 f1 f2 f3
  exact ⟨v, a, cap, rfl, hv, hn⟩
end
end Go.Proofs.YtabbdkdpmpjchaaGreatDoor.Va

namespace Go.Proofs.YtabbdkdpmpjchaaGreatDoor.Ev
open Go.RowKit
open Ex Lx Va Ty
set_option linter.unusedVariables false
section
variable {H : Type} {enc : TypeId × Value → H} {w : World} {base : Nat} {spare : Nat → Bool} {held : Bool}
theorem nums_ltO {a : Option Addr} {l : List Int} (h : NumsAt w a l) : ∀ g off, a = some ⟨g, off, none⟩ → l ≠ [] → g < w.heap.size := fun g off e hl => by
  obtain ⟨g', off', e', _, hg⟩ := h 0 (List.length_pos_iff.2 hl)
  rw [e] at e'
  injection e' with e'
  injection e' with e' _ _
  omega
theorem numsC_open {n : Nat} {cs : List Value} {x : DataW H × List MemPlace} (h : DataW.trod enc Tryz.prog w base spare held n 50 cs = some x) :
    ∃ (l : List Int) (a : Option Addr) (cap : Nat), cs = [.slice a l.length cap] ∧ l.length ≤ 9223372036854775807 ∧ NumsAt w a l ∧ (∀ n ∈ l, B64 n) ∧ l.length ≤ cap := by
  obtain ⟨l, a, cap, hcs, hl, hn, hb⟩ := Va.open_nums h
  refine ⟨l, a, cap, hcs, hl, hn, hb, ?_⟩
  rcases Go.Deep.open_slice Tryz.underlying50 h with ⟨h0, _⟩ | ⟨p, len, cap', m, n', D, Pl, h0, _, hle, _⟩
  · rw [hcs] at h0
    injection h0 with h0 _
    injection h0 with _ h1 h2
    omega
  · rw [hcs] at h0
    injection h0 with h0 _
    injection h0 with _ h1 h2
    omega
theorem valC_open {n : Nat} {cs : List Value} {x : DataW H × List MemPlace} (hlen : cs.length = 4) (h : DataW.trod enc Tryz.prog w base spare held n 52 cs = some x) :
    ∃ (v : V) (a : Option Addr) (cap : Nat), cs = [.int .i64 v.kind, .int .i64 v.num, .string (S v.text), .slice a v.list.length cap] ∧ (VOk v ∧ B64 v.num ∧ ∀ n ∈ v.list, B64 n) ∧ NumsAt w a v.list ∧ v.list.length ≤ cap := by
  obtain ⟨v, a, cap, hcs, hv, hn⟩ := Va.open_value hlen h
  refine ⟨v, a, cap, hcs, ⟨hv.ok, hv.num, hv.nums⟩, hn, ?_⟩
  subst hcs
  obtain ⟨ys, m, _, _, _, hyl, hf⟩ := DataW.trod_struct Tryz.underlying52 h
  have f3 := hf 3 _ rfl
  change DataW.trod _ _ _ _ _ _ _ 50 (([Value.int .i64 v.kind, .int .i64 v.num, .string (S v.text), .slice a v.list.length cap].drop 3).take (Tryz.prog.cellsOf 50)) = _ at f3
  rw [Va.cells_nums] at f3
  simp only [List.drop_succ_cons, List.drop_zero, List.take_succ_cons, List.take_zero] at f3
  have hyl : ys.length = 4 := hyl
  rw [List.getElem?_eq_getElem (by omega)] at f3
  obtain ⟨l, a', cap', e, _, _, _, hc⟩ := numsC_open f3
  injection e with e _
  injection e with _ e1 e2
  omega
theorem bytes_valT : 1 ≤ Tryz.prog.bytesOf 52 := of_decide_eq_true (by kernel_rfl)
theorem valsC_open {n : Nat} {cs : List Value} {x : DataW H × List MemPlace} (h : DataW.trod enc Tryz.prog w base spare held n 53 cs = some x) (hW : Wt 53 x.1) :
    ∃ (l : List V) (a : Option Addr) (cap : Nat), cs = [.slice a l.length cap] ∧ l.length ≤ 281474976710656 ∧ VsAt (· < w.heap.size) w a l ∧ ∀ v ∈ l, VOk v ∧ B64 v.num ∧ ∀ n ∈ v.list, B64 n := by
  rcases slice_elems Tryz.underlying53 Va.cells_value h hW with hcs | ⟨p, len, cap, m, D, Pl, _, hcs, hl, hi⟩
  · exact ⟨[], none, 0, hcs, by simp, fun i hi => absurd hi (by simp), fun a ha => by simp at ha⟩
  · obtain ⟨l, hll, hp⟩ := choose_list (α := V) (n := len) (p := fun i v => (∃ a cap, w.cell? ((p.add (i * 4)).add 0) = some (.int .i64 v.kind) ∧ w.cell? ((p.add (i * 4)).add 1) = some (.int .i64 v.num) ∧ w.cell? ((p.add (i * 4)).add 2) = some (.string (S v.text)) ∧ w.cell? ((p.add (i * 4)).add 3) = some (.slice a v.list.length cap) ∧ NumsAt w a v.list ∧ v.list.length ≤ cap) ∧ VOk v ∧ B64 v.num ∧ ∀ n ∈ v.list, B64 n) (fun i hil => by
      obtain ⟨cs', h1, h2, h3⟩ := hi i hil
      obtain ⟨hcl, hat⟩ := cells_at h1
      obtain ⟨v, a, cap, rfl, hv, hn, hc⟩ := valC_open hcl h2
      exact ⟨v, ⟨a, cap, hat 0 (by omega), hat 1 (by omega), hat 2 (by omega), hat 3 (by omega), hn, hc⟩, hv⟩)
    refine ⟨l, some p, cap, by rw [hll]; exact hcs, by rw [hll]; exact len_of hl bytes_valT, fun i hil => ?_, fun a ha => ?_⟩
    · obtain ⟨⟨a, c, g0, g1, g2, g3, hn, hc⟩, _⟩ := hp i hil
      obtain ⟨⟨_, _, g00, _⟩, _⟩ := hp 0 (by omega)
      obtain ⟨b, off, spot⟩ := p
      have hspot : spot = none := by simpa [Addr.add] using World.cell?_spot g00
      subst hspot
      rw [add_add] at g0 g1 g2 g3
      exact ⟨b, off, rfl, ⟨a, c, g0, g1, g2, g3, hn, hc, nums_ltO hn⟩, World.block_lt_of_cell? w _ g0⟩
    · obtain ⟨i, hil, rfl⟩ := List.mem_iff_getElem.1 ha
      exact (hp i hil).2
theorem cells_valsT : Tryz.prog.cellsOf 53 = 1 := by kernel_rfl
theorem env_open {n : Nat} {cs : List Value} {x : DataW H × List MemPlace} (hlen : cs.length = 4) (h : DataW.trod enc Tryz.prog w base spare held n 55 cs = some x) (hW : Wt 55 x.1) :
    ∃ (v : En) (r : Rows), cs = (envC v r).toList ∧ EnAt w r.pa r.pv r.pn r.pf v ∧ EnBig v := by
  match cs, hlen with
  | [c0, c1, c2, c3], _ =>
    obtain ⟨ys, m, _, rfl, _, hyl, hf⟩ := DataW.trod_struct Tryz.underlying55 h
    have hyl : ys.length = 4 := hyl
    have f0 := hf 0 _ rfl
    have f1 := hf 1 _ rfl
    have f2 := hf 2 _ rfl
    have f3 := hf 3 _ rfl
    change DataW.trod _ _ _ _ _ _ _ 40 (([c0, c1, c2, c3].drop 0).take (Tryz.prog.cellsOf 40)) = _ at f0
    change DataW.trod _ _ _ _ _ _ _ 53 (([c0, c1, c2, c3].drop 1).take (Tryz.prog.cellsOf 53)) = _ at f1
    change DataW.trod _ _ _ _ _ _ _ 40 (([c0, c1, c2, c3].drop 2).take (Tryz.prog.cellsOf 40)) = _ at f2
    change DataW.trod _ _ _ _ _ _ _ 53 (([c0, c1, c2, c3].drop 3).take (Tryz.prog.cellsOf 53)) = _ at f3
    rw [cells_attrsT] at f0 f2
    rw [cells_valsT] at f1 f3
    simp only [List.drop_zero, List.drop_succ_cons, List.take_succ_cons, List.take_zero] at f0 f1 f2 f3
    rw [List.getElem?_eq_getElem (by omega)] at f0 f1 f2 f3
    have w0 := hW.field (j := 0) Tryz.underlying55 rfl (by rw [List.getElem?_map, List.getElem?_eq_getElem (by omega)]; rfl)
    have w1 := hW.field (j := 1) Tryz.underlying55 rfl (by rw [List.getElem?_map, List.getElem?_eq_getElem (by omega)]; rfl)
    have w2 := hW.field (j := 2) Tryz.underlying55 rfl (by rw [List.getElem?_map, List.getElem?_eq_getElem (by omega)]; rfl)
    have w3 := hW.field (j := 3) Tryz.underlying55 rfl (by rw [List.getElem?_map, List.getElem?_eq_getElem (by omega)]; rfl)
    obtain ⟨la, pa, ca, e0, n0, a0, _⟩ := attrs_open f0 w0
    obtain ⟨lv, pv, cv, e1, n1, a1, b1⟩ := valsC_open f1 w1
    obtain ⟨ln, pn, cn, e2, n2, a2, _⟩ := attrs_open f2 w2
    obtain ⟨lf, pf, cf, e3, n3, a3, b3⟩ := valsC_open f3 w3
    simp only [List.cons.injEq, and_true] at e0 e1 e2 e3
    subst e0 e1 e2 e3
    exact ⟨⟨la, lv, ln, lf⟩, ⟨pa, pv, pn, pf, ca, cv, cn, cf⟩, rfl, ⟨a0, a1, a2, a3⟩, ⟨n0, n1, n2, n3, b1, b3⟩⟩
end
end Go.Proofs.YtabbdkdpmpjchaaGreatDoor.Ev

namespace Go.Proofs.YtabbdkdpmpjchaaGreatDoor
open Go.RowKit
theorem ty_tail {P : Program} {W : World} {x : String × DataW Unit} {r : List (String × DataW Unit)} (h : laidMet P (x :: r) W) : laidMet P r W := by
  obtain ⟨ps, ⟨g, t, cs, fuel, p, q, _, _, _, _, hL, rfl⟩, hnd, hc⟩ := h
  exact ⟨q, hL, (List.nodup_append.1 hnd).2.1, fun b off hm => hc b off (List.mem_append.2 (.inr hm))⟩
theorem ty_tab_data : (Rows.laid_internal_strconv_uint64pow10 : DataW Unit) = Lib.tabData .u64 Lib.pow10Tab := by kernel_rfl
theorem ty_tab {W : World} {r : List (String × DataW Unit)} (h : laidMet Tryz.prog (("internal/strconv.uint64pow10", Rows.laid_internal_strconv_uint64pow10) :: r) W) : Va.Tab W := by
  rw [ty_tab_data] at h
  exact Lib.tabIs_of_head (g := 3) (t := 254) (e := 207) (n := 20) (by kernel_rfl) (by kernel_rfl) (by kernel_rfl) (by kernel_rfl) (by kernel_rfl) (by kernel_rfl) h
def conD {H : Type} (c : Ex.Con) : DataW H := .agg [.lit (.string c.word), .lit (.int .i64 c.op), .lit (.int .i64 c.level), .lit (.int .i64 c.operands), .lit (.bool c.turned)]
section
variable {H : Type} {enc : TypeId × Value → H} {w : World} {base : Nat} {sp : Nat → Bool} {held : Bool}
theorem lit_str {n : Nat} {cs : List Value} {x : DataW H × List MemPlace} {s : List UInt8} (h : DataW.trod enc Tryz.prog w base sp held n 9 cs = some x) (hx : x.1 = .lit (.string s)) : cs = [.string (S s)] := by
  obtain ⟨z, rfl, rfl, _⟩ := DataW.trod_string Tryz.underlying9 h
  simp only [DataW.lit.injEq, Lit.string.injEq] at hx
  rw [← hx, S_list]
theorem lit_int {n : Nat} {cs : List Value} {x : DataW H × List MemPlace} {s : Int} (h : DataW.trod enc Tryz.prog w base sp held n 3 cs = some x) (hx : x.1 = .lit (.int .i64 s)) : cs = [.int .i64 s] := by
  obtain ⟨z, rfl, rfl, _⟩ := DataW.trod_int Tryz.underlying3 h
  simp only [DataW.lit.injEq, Lit.int.injEq, true_and] at hx
  rw [hx]
theorem lit_bool {n : Nat} {cs : List Value} {x : DataW H × List MemPlace} {s : Bool} (h : DataW.trod enc Tryz.prog w base sp held n 4 cs = some x) (hx : x.1 = .lit (.bool s)) : cs = [.bool s] := by
  obtain ⟨z, rfl, rfl⟩ := DataW.trod_bool Tryz.underlying4 h
  simp only [DataW.lit.injEq, Lit.bool.injEq] at hx
  rw [hx]
theorem con_cells (c : Ex.Con) {n : Nat} {cs : List Value} {x : DataW H × List MemPlace} (hlen : cs.length = 5) (h : DataW.trod enc Tryz.prog w base sp held n 102 cs = some x) (hx : x.1 = conD c) : cs = c.cells := by
  match cs, hlen with
  | [c0, c1, c2, c3, c4], _ =>
    obtain ⟨ys, m, _, rfl, _, hyl, hf⟩ := DataW.trod_struct Tryz.underlying102 h
    have hyl : ys.length = 5 := hyl
    have f0 := hf 0 _ rfl
    have f1 := hf 1 _ rfl
    have f2 := hf 2 _ rfl
    have f3 := hf 3 _ rfl
    have f4 := hf 4 _ rfl
    change DataW.trod _ _ _ _ _ _ _ 9 (([c0, c1, c2, c3, c4].drop 0).take (Tryz.prog.cellsOf 9)) = _ at f0
    change DataW.trod _ _ _ _ _ _ _ 3 (([c0, c1, c2, c3, c4].drop 1).take (Tryz.prog.cellsOf 3)) = _ at f1
    change DataW.trod _ _ _ _ _ _ _ 3 (([c0, c1, c2, c3, c4].drop 2).take (Tryz.prog.cellsOf 3)) = _ at f2
    change DataW.trod _ _ _ _ _ _ _ 3 (([c0, c1, c2, c3, c4].drop 3).take (Tryz.prog.cellsOf 3)) = _ at f3
    change DataW.trod _ _ _ _ _ _ _ 4 (([c0, c1, c2, c3, c4].drop 4).take (Tryz.prog.cellsOf 4)) = _ at f4
    rw [show Tryz.prog.cellsOf 9 = 1 by kernel_rfl] at f0
    rw [show Tryz.prog.cellsOf 3 = 1 by kernel_rfl] at f1 f2 f3
    rw [show Tryz.prog.cellsOf 4 = 1 by kernel_rfl] at f4
    simp only [List.drop_zero, List.drop_succ_cons, List.take_succ_cons, List.take_zero] at f0 f1 f2 f3 f4
    rw [List.getElem?_eq_getElem (by omega)] at f0 f1 f2 f3 f4
    have hxs : ys.map (·.1) = [.lit (.string c.word), .lit (.int .i64 c.op), .lit (.int .i64 c.level), .lit (.int .i64 c.operands), .lit (.bool c.turned)] := by
      simpa [conD] using hx
    have g : ∀ j, (hj : j < ys.length) → some (ys[j]).1 = ([.lit (.string c.word), .lit (.int .i64 c.op), .lit (.int .i64 c.level), .lit (.int .i64 c.operands), .lit (.bool c.turned)] : List (DataW H))[j]? := fun j hj => by
      rw [← hxs, List.getElem?_map, List.getElem?_eq_getElem hj]; rfl
    have e0 := lit_str f0 (Option.some.inj (g 0 (by omega)))
    have e1 := lit_int f1 (Option.some.inj (g 1 (by omega)))
    have e2 := lit_int f2 (Option.some.inj (g 2 (by omega)))
    have e3 := lit_int f3 (Option.some.inj (g 3 (by omega)))
    have e4 := lit_bool f4 (Option.some.inj (g 4 (by omega)))
    simp only [List.cons.injEq, and_true] at e0 e1 e2 e3 e4
    subst e0 e1 e2 e3 e4
    rfl
theorem chunks : ∀ (l : List Ex.Con) (cs : List Value), cs.length = l.length * 5 → (∀ i, (h : i < l.length) → (cs.drop (i * 5)).take 5 = l[i].cells) → cs = l.flatMap Ex.Con.cells
  | [], cs, h, _ => by simpa using h
  | c :: r, cs, h, hc => by
    have h0 := hc 0 (by simp)
    simp only [Nat.zero_mul, List.drop_zero, List.getElem_cons_zero] at h0
    have hr := chunks r (cs.drop 5) (by simp at h ⊢; omega) (fun i hi => by
      have := hc (i + 1) (by simp; omega)
      rw [List.drop_drop, show 5 + i * 5 = (i + 1) * 5 by omega]
      simpa using this)
    rw [List.flatMap_cons, ← hr, ← h0, List.take_append_drop]
theorem con_array {fuel : Nat} {cs : List Value} {p : List MemPlace} (h : DataW.trod enc Tryz.prog w base sp held fuel 144 cs = some (.agg (Ex.conL.map conD), p)) : cs = Ex.conC := by
  have ht : Tryz.prog.underlying 144 = some (.array 18 102) := by kernel_rfl
  have hce : Tryz.prog.cellsOf 102 = 5 := by kernel_rfl
  have hct : Tryz.prog.cellsOf 144 = 90 := by kernel_rfl
  cases fuel with
  | zero => simp [DataW.trod] at h
  | succ fuel =>
    simp only [DataW.trod, ht, hce, hct] at h
    split at h
    · rename_i hl
      obtain ⟨xs, hm, hx⟩ := Option.map_eq_some_iff.1 h
      have hxs : xs.map (·.1) = Ex.conL.map (conD (H := H)) := by
        have := congrArg Prod.fst hx
        simpa using this
      have hxl : xs.length = 18 := by simpa using Lib.mapM_length hm
      refine chunks Ex.conL cs (by have h18 : Ex.conL.length = 18 := rfl; rw [h18]; simpa using hl) fun i hi => ?_
      have hi18 : i < 18 := hi
      obtain ⟨b, hb, hf⟩ := Lib.mapM_at hm i i (by simp [hi18])
      refine con_cells Ex.conL[i] (by simp at hl ⊢; omega) hf ?_
      have h2 : (xs.map (·.1))[i]? = some b.1 := by simp [hb]
      rw [hxs, List.getElem?_map, List.getElem?_eq_getElem hi] at h2
      exact (Option.some.inj h2).symm
    · cases h
end
theorem ty_con_data : (Rows.laid_switchyard_expr_constructs : DataW Unit) = .agg (Ex.conL.map conD) := by kernel_rfl
theorem ty_cons {W : World} {r : List (String × DataW Unit)} (h : laidMet Tryz.prog (("switchyard/expr.constructs", Rows.laid_switchyard_expr_constructs) :: r) W) : Ex.ConsAt W := by
  rw [ty_con_data] at h
  obtain ⟨ps, ⟨g', t', cs, fuel, p, q, hg', ht', hvar, hd, _, _⟩, _⟩ := h
  have hgn : Tryz.prog.globalNamed "switchyard/expr.constructs" = some 0 := by kernel_rfl
  have htn : (Tryz.prog.globals[0]?).map (·.type) = some 144 := by kernel_rfl
  obtain rfl := Option.some.inj (hgn.symm.trans hg')
  obtain rfl := Option.some.inj (htn.symm.trans ht')
  have hcs := con_array hd
  have hcell : ∀ j v, Ex.conC[j]? = some v → W.cell? ⟨0, j, none⟩ = some v := fun j v hv => by
    have h0 := World.var?_cell hgn hvar j
    rw [h0, ← Array.getElem?_toList]
    have e : cs.toList = Ex.conC := hcs
    rw [e]
    exact hv
  refine ⟨fun j v hv => by rw [Nat.zero_add]; exact hcell j v hv, World.block_lt_of_cell? W _ (hcell 0 (.string (S [124, 124])) rfl)⟩
end Go.Proofs.YtabbdkdpmpjchaaGreatDoor

namespace Go.Proofs.YtabbdkdpmpjchaaGreatDoor
open Go.RowKit
theorem laid_evalShort (W : World) (h : laidMetH Tryz.prog Rows.evalShortRow.laid W) : Va.Tab W ∧ Ex.ConsAt W := by
  rw [MakeChecks.laidMetH_plain _ _ _ (by kernel_rfl)] at h
  exact ⟨ty_tab (ty_tail (ty_tail h)), ty_cons (ty_tail (ty_tail (ty_tail h)))⟩
end Go.Proofs.YtabbdkdpmpjchaaGreatDoor
