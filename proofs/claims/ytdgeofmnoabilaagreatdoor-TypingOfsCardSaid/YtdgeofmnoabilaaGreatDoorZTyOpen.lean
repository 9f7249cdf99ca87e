/-
  What comes in: scopes and trees, opened.
-/
import Derived.Test.YtdgeofmnoabilaaGreatDoorZTzD
import Derived.Test.YtdgeofmnoabilaaGreatDoorZExChk
import Derived.Test.YtdgeofmnoabilaaGreatDoorZExWrI
import Derived.Deep.Slices
import Derived.ChangeArms
import Derived.Handed
namespace Go.Proofs.YtdgeofmnoabilaaGreatDoor.Ty
open Go.RowKit
open Ex Lx
set_option linter.unusedVariables false

section
variable {H : Type} {enc : TypeId × Value → H} {w : World} {base : Nat} {spare : Nat → Bool} {held : Bool}

/-- No piece is heavier than any machine bears. -/
def Wt (t : TypeId) (d : DataW H) : Prop := ∀ n ∈ d.weights Tryz.prog t, n ≤ 140737488355328
theorem all_mem {e : TypeId} : ∀ {l : List (DataW H)} {d : DataW H}, d ∈ l → ∀ n ∈ d.weights Tryz.prog e, n ∈ DataW.weightsAll Tryz.prog e l
  | x :: r, d, hd, n, hn => by
    simp only [DataW.weightsAll, List.mem_append]
    rcases List.mem_cons.1 hd with rfl | hd
    · exact .inl hn
    · exact .inr (all_mem hd n hn)
theorem each_mem : ∀ {ts : List TypeId} {ds : List (DataW H)} {j : Nat} {t : TypeId} {d : DataW H}, ts[j]? = some t → ds[j]? = some d → ∀ n ∈ d.weights Tryz.prog t, n ∈ DataW.weightsEach Tryz.prog ts ds
  | t0 :: ts, d0 :: ds, 0, t, d, ht, hd, n, hn => by
    simp only [List.getElem?_cons_zero, Option.some.injEq] at ht hd
    subst ht; subst hd
    simp only [DataW.weightsEach, List.mem_append]
    exact Or.inl hn
  | t0 :: ts, d0 :: ds, j + 1, t, d, ht, hd, n, hn => by
    simp only [List.getElem?_cons_succ] at ht hd
    simp only [DataW.weightsEach, List.mem_append]
    exact Or.inr (each_mem ht hd n hn)
  | [], _, _, _, _, ht, _, _, _ => by simp at ht
  | _ :: _, [], _, _, _, _, hd, _, _ => by simp at hd
theorem Wt.field {t : TypeId} {fs : Array Field} {parts : List (DataW H)} (hu : Tryz.prog.underlying t = some (.struct fs)) (h : Wt t (.agg parts)) {j : Nat} {f : Field} {d : DataW H} (hf : fs[j]? = some f) (hd : parts[j]? = some d) : Wt f.type d := fun n hn => by
  refine h n ?_
  simp only [DataW.weights, hu]
  refine each_mem (j := j) ?_ hd n hn
  rw [List.getElem?_map, Array.getElem?_toList, hf]; rfl
theorem Wt.elems {t e : TypeId} {es sp : List (DataW H)} (hu : Tryz.prog.underlying t = some (.slice e)) (h : Wt t (.slice es sp)) : es.length * Tryz.prog.bytesOf e ≤ 140737488355328 ∧ ∀ d ∈ es, Wt e d := by
  constructor
  · have := h ((es.length + sp.length) * Tryz.prog.bytesOf e) (by simp [DataW.weights, hu])
    exact Nat.le_trans (Nat.mul_le_mul_right _ (by omega)) this
  · intro d hd n hn
    refine h n ?_
    simp only [DataW.weights, hu, List.mem_cons, List.mem_append]
    exact .inr (.inl (all_mem hd n hn))
theorem slice_elems {t e : TypeId} {k : Nat} {fuel : Nat} {cs : List Value} {x : DataW H × List MemPlace} (ht : Tryz.prog.underlying t = some (.slice e)) (hk : Tryz.prog.cellsOf e = k) (h : DataW.trod enc Tryz.prog w base spare held fuel t cs = some x) (hW : Wt t x.1) :
    cs = [.slice none 0 0] ∨ ∃ (a : Addr) (len cap n : Nat) (D : Nat → DataW H) (Pl : Nat → List MemPlace), fuel = n + 1 ∧ cs = [.slice (some a) len cap] ∧ len * Tryz.prog.bytesOf e ≤ 140737488355328 ∧
      ∀ i, i < len → ∃ cs', w.cells? base (a.add (i * k)) k = some cs' ∧ DataW.trod enc Tryz.prog w base spare held n e cs' = some (D i, Pl i) ∧ Wt e (D i) := by
  subst hk
  rcases DataW.trod_slice ht h with h0 | ⟨a, len, cap, elems, rest, n, hn, rfl, rfl, hb, hl, hm, hlen, hel, hsp, hns⟩
  · exact .inl h0.1
  right
  obtain ⟨w1, w2⟩ := hW.elems ht
  rw [List.length_map, hlen] at w1
  refine ⟨a, len, cap, n, fun i => (elems.getD i (.nil, [])).1, fun i => (elems.getD i (.nil, [])).2, hn, rfl, w1, fun i hi => ?_⟩
  have key := hel i hi
  rw [List.getElem?_eq_getElem (by omega)] at key
  obtain ⟨cs', h1, h2⟩ := Option.bind_eq_some_iff.1 key
  have hg : elems.getD i (.nil, []) = elems[i]'(by omega) := by simp [List.getD, List.getElem?_eq_getElem (show i < elems.length by omega)]
  refine ⟨cs', h1, ?_, ?_⟩
  · simp only [hg]; rw [h2]
  · simp only [hg]
    exact w2 _ (List.mem_map.2 ⟨_, List.getElem_mem _, rfl⟩)
theorem str_open {n : Nat} {cs : List Value} {x : DataW H × List MemPlace} (h : DataW.trod enc Tryz.prog w base spare held n 9 cs = some x) (hW : Wt 9 x.1) : ∃ s : List UInt8, cs = [.string (S s)] ∧ s.length ≤ 281474976710656 := by
  obtain ⟨s, rfl, rfl, _⟩ := DataW.trod_string Tryz.underlying9 h
  refine ⟨s.data.toList, by rw [S_list], ?_⟩
  have := hW s.data.toList.length (by simp [DataW.weights])
  omega
theorem int_open {n : Nat} {cs : List Value} {x : DataW H × List MemPlace} (h : DataW.trod enc Tryz.prog w base spare held n 3 cs = some x) : ∃ z : Int, cs = [.int .i64 z] := by
  obtain ⟨z, rfl, _⟩ := DataW.trod_int Tryz.underlying3 h
  exact ⟨z, rfl⟩
theorem i64_open {n : Nat} {cs : List Value} {x : DataW H × List MemPlace} (h : DataW.trod enc Tryz.prog w base spare held n 2 cs = some x) : ∃ z : Int, cs = [.int .i64 z] ∧ z ≤ 9223372036854775807 := by
  obtain ⟨z, rfl, _, hw⟩ := DataW.trod_int Tryz.underlying2 h
  refine ⟨z, rfl, ?_⟩
  simp [Lit.wf, IntKind.min, IntKind.max, IntKind.signed, IntKind.bits] at hw
  omega
theorem cells_strT : Tryz.prog.cellsOf 9 = 1 := by kernel_rfl
theorem cells_intT : Tryz.prog.cellsOf 3 = 1 := by kernel_rfl
theorem cells_i64T : Tryz.prog.cellsOf 2 = 1 := by kernel_rfl
theorem cells_attrT : Tryz.prog.cellsOf 42 = 3 := by kernel_rfl
theorem cells_enumT : Tryz.prog.cellsOf 73 = 2 := by kernel_rfl
theorem cells_exprT : Tryz.prog.cellsOf 28 = 4 := by kernel_rfl
theorem cells_strsT : Tryz.prog.cellsOf 71 = 1 := by kernel_rfl
theorem cells_attrsT : Tryz.prog.cellsOf 23 = 1 := by kernel_rfl
theorem cells_enumsT : Tryz.prog.cellsOf 22 = 1 := by kernel_rfl
theorem cells_exprsT : Tryz.prog.cellsOf 26 = 1 := by kernel_rfl
theorem bytes_strT : 1 ≤ Tryz.prog.bytesOf 9 := of_decide_eq_true (by kernel_rfl)
theorem bytes_attrT : 1 ≤ Tryz.prog.bytesOf 42 := of_decide_eq_true (by kernel_rfl)
theorem bytes_enumT : 1 ≤ Tryz.prog.bytesOf 73 := of_decide_eq_true (by kernel_rfl)
theorem bytes_exprT : 1 ≤ Tryz.prog.bytesOf 28 := of_decide_eq_true (by kernel_rfl)
theorem len_of {len b : Nat} (h : len * b ≤ 140737488355328) (hb : 1 ≤ b) : len ≤ 281474976710656 := by
  have : len * 1 ≤ len * b := Nat.mul_le_mul_left _ hb
  omega
theorem cells_at {a : Addr} {k : Nat} {cs : List Value} (h : w.cells? base a k = some cs) : cs.length = k ∧ ∀ j, j < k → w.cell? (a.add j) = cs[j]? := by
  obtain ⟨_, hl, hat⟩ := World.cells?_some h
  refine ⟨hl, fun j hj => ?_⟩
  rw [hat j hj, List.getElem?_eq_getElem (by omega)]
theorem add_add (b off i j : Nat) : ((⟨b, off, none⟩ : Addr).add i).add j = ⟨b, off + i + j, none⟩ := by
  unfold Addr.add
  by_cases hi : i = 0 <;> by_cases hj : j = 0 <;> simp [hi, hj]
theorem choose_list {α : Type} [Inhabited α] {n : Nat} {p : Nat → α → Prop} (h : ∀ i, i < n → ∃ x, p i x) : ∃ l : List α, l.length = n ∧ ∀ i, (hi : i < l.length) → p i l[i] := by
  obtain ⟨F, hF⟩ := Go.Deep.choose_lt h
  exact ⟨(List.range n).map F, by simp, fun i hi => by simp only [List.getElem_map, List.getElem_range]; exact hF i (by simpa using hi)⟩

theorem strs_open {n : Nat} {cs : List Value} {x : DataW H × List MemPlace} (h : DataW.trod enc Tryz.prog w base spare held n 71 cs = some x) (hW : Wt 71 x.1) :
    ∃ (l : List (List UInt8)) (a : Option Addr) (cap : Nat), cs = [.slice a l.length cap] ∧ l.length ≤ 281474976710656 ∧ StrsAt w a l := by
  rcases slice_elems Tryz.underlying71 cells_strT h hW with hcs | ⟨p, len, cap, m, D, Pl, _, hcs, hl, hi⟩
  · exact ⟨[], none, 0, hcs, by simp, fun i hi => absurd hi (by simp)⟩
  · obtain ⟨l, hll, hp⟩ := choose_list (α := List UInt8) (n := len) (p := fun i s => w.cell? ((p.add (i * 1)).add 0) = some (.string (S s))) (fun i hil => by
      obtain ⟨cs', h1, h2, h3⟩ := hi i hil
      obtain ⟨s, rfl, _⟩ := str_open h2 h3
      exact ⟨s, (cells_at h1).2 0 (by omega)⟩)
    refine ⟨l, some p, cap, by rw [hll]; exact hcs, by rw [hll]; exact len_of hl bytes_strT, fun i hil => ?_⟩
    have g := hp i hil
    have g0 := hp 0 (by omega)
    obtain ⟨b, off, spot⟩ := p
    have hspot : spot = none := by simpa [Addr.add] using World.cell?_spot g0
    subst hspot
    rw [add_add] at g
    rw [Nat.mul_one, Nat.add_zero] at g
    exact ⟨b, off, rfl, World.block_lt_of_cell? w _ g, g⟩
theorem attr_open {n : Nat} {cs : List Value} {x : DataW H × List MemPlace} (hlen : cs.length = 3) (h : DataW.trod enc Tryz.prog w base spare held n 42 cs = some x) (hW : Wt 42 x.1) :
    ∃ a : AttrP, cs = [.string (S a.name), .int .i64 a.kind, .string (S a.enum)] ∧ a.enum.length ≤ 281474976710656 := by
  match cs, hlen with
  | [c0, c1, c2], _ =>
    obtain ⟨ys, m, _, rfl, _, hyl, hf⟩ := DataW.trod_struct Tryz.underlying42 h
    have hyl : ys.length = 3 := hyl
    have f0 := hf 0 _ rfl
    have f1 := hf 1 _ rfl
    have f2 := hf 2 _ rfl
    change DataW.trod _ _ _ _ _ _ _ 9 (([c0, c1, c2].drop 0).take (Tryz.prog.cellsOf 9)) = _ at f0
    change DataW.trod _ _ _ _ _ _ _ 3 (([c0, c1, c2].drop 1).take (Tryz.prog.cellsOf 3)) = _ at f1
    change DataW.trod _ _ _ _ _ _ _ 9 (([c0, c1, c2].drop 2).take (Tryz.prog.cellsOf 9)) = _ at f2
    rw [cells_strT] at f0 f2
    rw [cells_intT] at f1
    simp only [List.drop_zero, List.drop_succ_cons, List.take_succ_cons, List.take_zero] at f0 f1 f2
    rw [List.getElem?_eq_getElem (by omega)] at f0 f1 f2
    have w0 := hW.field (j := 0) Tryz.underlying42 rfl (by rw [List.getElem?_map, List.getElem?_eq_getElem (by omega)]; rfl)
    have w2 := hW.field (j := 2) Tryz.underlying42 rfl (by rw [List.getElem?_map, List.getElem?_eq_getElem (by omega)]; rfl)
    obtain ⟨s0, e0, l0⟩ := str_open f0 w0
    obtain ⟨z, e1⟩ := int_open f1
    obtain ⟨s2, e2, l2⟩ := str_open f2 w2
    simp only [List.cons.injEq, and_true] at e0 e1 e2
    subst e0 e1 e2
    exact ⟨⟨s0, z, s2⟩, rfl, l2⟩
theorem attrs_open {n : Nat} {cs : List Value} {x : DataW H × List MemPlace} (h : DataW.trod enc Tryz.prog w base spare held n 23 cs = some x) (hW : Wt 23 x.1) :
    ∃ (l : List AttrP) (a : Option Addr) (cap : Nat), cs = [.slice a l.length cap] ∧ l.length ≤ 281474976710656 ∧ AttrsAt w a l ∧ ∀ a ∈ l, a.enum.length ≤ 281474976710656 := by
  rcases slice_elems Tryz.underlying23 cells_attrT h hW with hcs | ⟨p, len, cap, m, D, Pl, _, hcs, hl, hi⟩
  · exact ⟨[], none, 0, hcs, by simp, fun i hi => absurd hi (by simp), fun a ha => by simp at ha⟩
  · obtain ⟨l, hll, hp⟩ := choose_list (α := AttrP) (n := len) (p := fun i a => (w.cell? ((p.add (i * 3)).add 0) = some (.string (S a.name)) ∧ w.cell? ((p.add (i * 3)).add 1) = some (.int .i64 a.kind) ∧ w.cell? ((p.add (i * 3)).add 2) = some (.string (S a.enum))) ∧ a.enum.length ≤ 281474976710656) (fun i hil => by
      obtain ⟨cs', h1, h2, h3⟩ := hi i hil
      obtain ⟨hcl, hat⟩ := cells_at h1
      obtain ⟨a, rfl, ha⟩ := attr_open hcl h2 h3
      exact ⟨a, ⟨hat 0 (by omega), hat 1 (by omega), hat 2 (by omega)⟩, ha⟩)
    refine ⟨l, some p, cap, by rw [hll]; exact hcs, by rw [hll]; exact len_of hl bytes_attrT, fun i hil => ?_, fun a ha => ?_⟩
    · obtain ⟨⟨g0, g1, g2⟩, _⟩ := hp i hil
      obtain ⟨⟨g00, _⟩, _⟩ := hp 0 (by omega)
      obtain ⟨b, off, spot⟩ := p
      have hspot : spot = none := by simpa [Addr.add] using World.cell?_spot g00
      subst hspot
      rw [add_add] at g0 g1 g2
      exact ⟨b, off, rfl, World.block_lt_of_cell? w _ g0, g0, g1, g2⟩
    · obtain ⟨i, hil, rfl⟩ := List.mem_iff_getElem.1 ha
      exact (hp i hil).2
theorem enum_open {n : Nat} {cs : List Value} {x : DataW H × List MemPlace} (hlen : cs.length = 2) (h : DataW.trod enc Tryz.prog w base spare held n 73 cs = some x) (hW : Wt 73 x.1) :
    ∃ (e : EnumP) (q : Option Addr) (c : Nat), cs = [.string (S e.name), .slice q e.syms.length c] ∧ e.syms.length ≤ 281474976710656 ∧ StrsAt w q e.syms := by
  match cs, hlen with
  | [c0, c1], _ =>
    obtain ⟨ys, m, _, rfl, _, hyl, hf⟩ := DataW.trod_struct Tryz.underlying73 h
    have hyl : ys.length = 2 := hyl
    have f0 := hf 0 _ rfl
    have f1 := hf 1 _ rfl
    change DataW.trod _ _ _ _ _ _ _ 9 (([c0, c1].drop 0).take (Tryz.prog.cellsOf 9)) = _ at f0
    change DataW.trod _ _ _ _ _ _ _ 71 (([c0, c1].drop 1).take (Tryz.prog.cellsOf 71)) = _ at f1
    rw [cells_strT] at f0
    rw [cells_strsT] at f1
    simp only [List.drop_zero, List.drop_succ_cons, List.take_succ_cons, List.take_zero] at f0 f1
    rw [List.getElem?_eq_getElem (by omega)] at f0 f1
    have w0 := hW.field (j := 0) Tryz.underlying73 rfl (by rw [List.getElem?_map, List.getElem?_eq_getElem (by omega)]; rfl)
    have w1 := hW.field (j := 1) Tryz.underlying73 rfl (by rw [List.getElem?_map, List.getElem?_eq_getElem (by omega)]; rfl)
    obtain ⟨s0, e0, l0⟩ := str_open f0 w0
    obtain ⟨l, q, c, e1, l1, h1⟩ := strs_open f1 w1
    simp only [List.cons.injEq, and_true] at e0 e1
    subst e0 e1
    exact ⟨⟨s0, l⟩, q, c, rfl, l1, h1⟩
theorem enums_open {n : Nat} {cs : List Value} {x : DataW H × List MemPlace} (h : DataW.trod enc Tryz.prog w base spare held n 22 cs = some x) (hW : Wt 22 x.1) :
    ∃ (l : List EnumP) (a : Option Addr) (cap : Nat), cs = [.slice a l.length cap] ∧ l.length ≤ 281474976710656 ∧ EnumsAt w a l ∧ ∀ e ∈ l, e.syms.length ≤ 281474976710656 := by
  rcases slice_elems Tryz.underlying22 cells_enumT h hW with hcs | ⟨p, len, cap, m, D, Pl, _, hcs, hl, hi⟩
  · exact ⟨[], none, 0, hcs, by simp, fun i hi => absurd hi (by simp), fun a ha => by simp at ha⟩
  · obtain ⟨l, hll, hp⟩ := choose_list (α := EnumP) (n := len) (p := fun i a => (w.cell? ((p.add (i * 2)).add 0) = some (.string (S a.name)) ∧ ∃ q c, w.cell? ((p.add (i * 2)).add 1) = some (.slice q a.syms.length c) ∧ StrsAt w q a.syms) ∧ a.syms.length ≤ 281474976710656) (fun i hil => by
      obtain ⟨cs', h1, h2, h3⟩ := hi i hil
      obtain ⟨hcl, hat⟩ := cells_at h1
      obtain ⟨a, q, c, rfl, ha, hs⟩ := enum_open hcl h2 h3
      exact ⟨a, ⟨hat 0 (by omega), q, c, hat 1 (by omega), hs⟩, ha⟩)
    refine ⟨l, some p, cap, by rw [hll]; exact hcs, by rw [hll]; exact len_of hl bytes_enumT, fun i hil => ?_, fun a ha => ?_⟩
    · obtain ⟨⟨g0, q, c, g1, g2⟩, _⟩ := hp i hil
      obtain ⟨⟨g00, _⟩, _⟩ := hp 0 (by omega)
      obtain ⟨b, off, spot⟩ := p
      have hspot : spot = none := by simpa [Addr.add] using World.cell?_spot g00
      subst hspot
      rw [add_add] at g0 g1
      exact ⟨b, off, q, c, rfl, World.block_lt_of_cell? w _ g0, g0, g1, g2⟩
    · obtain ⟨i, hil, rfl⟩ := List.mem_iff_getElem.1 ha
      exact (hp i hil).2
/-- A row of trees, of its members. -/
structure XM where
  t : T
  p : Option Addr
  c : Nat
instance : Inhabited XM := ⟨⟨⟨0, 0, [], .nil⟩, none, 0⟩⟩
def rowM : List XM → F
  | [] => .nil
  | x :: r => .cons x.t.op x.t.num x.t.text x.t.args (rowM r)
theorem rowM_len : ∀ l, (rowM l).len = l.length
  | [] => rfl
  | x :: r => by show (rowM r).len + 1 = r.length + 1; rw [rowM_len r]
theorem rowM_at (b : Nat) : ∀ (l : List XM) (k : Nat), (∀ i, (hi : i < l.length) → w.cell? ⟨b, k + i * 4, none⟩ = some (.int .i64 l[i].t.op) ∧ w.cell? ⟨b, k + i * 4 + 1, none⟩ = some (.int .i64 l[i].t.num) ∧ w.cell? ⟨b, k + i * 4 + 2, none⟩ = some (.string (S l[i].t.text)) ∧ w.cell? ⟨b, k + i * 4 + 3, none⟩ = some (.slice l[i].p l[i].t.args.len l[i].c) ∧ FAt w (fun _ => True) l[i].t.args l[i].p) → FAt w (fun _ => True) (rowM l) (some ⟨b, k, none⟩)
  | [], _, _ => trivial
  | x :: r, k, h => by
    obtain ⟨h0, h1, h2, h3, h4⟩ := h 0 (by simp)
    simp only [Nat.zero_mul, Nat.add_zero, List.getElem_cons_zero] at h0 h1 h2 h3 h4
    refine ⟨b, k, x.p, x.c, rfl, trivial, World.block_lt_of_cell? w _ h0, h0, h1, h2, h3, h4, rowM_at b r (k + 4) fun i hi => ?_⟩
    have := h (i + 1) (by simp; omega)
    rw [show k + (i + 1) * 4 = k + 4 + i * 4 by omega] at this
    simpa using this
theorem rowM_fits : ∀ l : List XM, (∀ x ∈ l, x.t.row.fits ∧ x.t.row.nums) → (rowM l).fits ∧ (rowM l).nums
  | [], _ => ⟨trivial, trivial⟩
  | x :: r, h => by
    obtain ⟨⟨f1, f2, f3, _⟩, n1, n2, _⟩ := h x (by simp)
    obtain ⟨g1, g2⟩ := rowM_fits r (fun y hy => h y (by simp [hy]))
    exact ⟨⟨f1, f2, f3, g1⟩, n1, n2, g2⟩
/-- A tree that comes in. -/
theorem expr_open : ∀ (n : Nat) (cs : List Value) (x : DataW H × List MemPlace), cs.length = 4 → DataW.trod enc Tryz.prog w base spare held n 28 cs = some x → Wt 28 x.1 →
    ∃ (t : T) (p : Option Addr) (c : Nat), cs = [.int .i64 t.op, .int .i64 t.num, .string (S t.text), .slice p t.args.len c] ∧ (t.row.fits ∧ t.row.nums) ∧ FAt w (fun _ => True) t.args p := by
  intro n
  induction n using Nat.strongRecOn with
  | _ n ih =>
  intro cs x hlen h hW
  match cs, hlen with
  | [c0, c1, c2, c3], _ =>
    obtain ⟨ys, m, hnm, rfl, _, hyl, hf⟩ := DataW.trod_struct Tryz.underlying28 h
    have hyl : ys.length = 4 := hyl
    have f0 := hf 0 _ rfl
    have f1 := hf 1 _ rfl
    have f2 := hf 2 _ rfl
    have f3 := hf 3 _ rfl
    change DataW.trod _ _ _ _ _ _ _ 3 (([c0, c1, c2, c3].drop 0).take (Tryz.prog.cellsOf 3)) = _ at f0
    change DataW.trod _ _ _ _ _ _ _ 2 (([c0, c1, c2, c3].drop 1).take (Tryz.prog.cellsOf 2)) = _ at f1
    change DataW.trod _ _ _ _ _ _ _ 9 (([c0, c1, c2, c3].drop 2).take (Tryz.prog.cellsOf 9)) = _ at f2
    change DataW.trod _ _ _ _ _ _ _ 26 (([c0, c1, c2, c3].drop 3).take (Tryz.prog.cellsOf 26)) = _ at f3
    rw [cells_intT] at f0
    rw [cells_i64T] at f1
    rw [cells_strT] at f2
    rw [cells_exprsT] at f3
    simp only [List.drop_zero, List.drop_succ_cons, List.take_succ_cons, List.take_zero] at f0 f1 f2 f3
    rw [List.getElem?_eq_getElem (by omega)] at f0 f1 f2 f3
    have w2 := hW.field (j := 2) Tryz.underlying28 rfl (by rw [List.getElem?_map, List.getElem?_eq_getElem (by omega)]; rfl)
    have w3 := hW.field (j := 3) Tryz.underlying28 rfl (by rw [List.getElem?_map, List.getElem?_eq_getElem (by omega)]; rfl)
    obtain ⟨z0, e0⟩ := int_open f0
    obtain ⟨z1, e1, hz1⟩ := i64_open f1
    obtain ⟨s2, e2, l2⟩ := str_open f2 w2
    simp only [List.cons.injEq, and_true] at e0 e1 e2
    subst e0 e1 e2
    rcases slice_elems Tryz.underlying26 cells_exprT f3 w3 with hcs | ⟨p, len, cap, m', D, Pl, hm', hcs, hl, hi⟩
    · simp only [List.cons.injEq, and_true] at hcs
      subst hcs
      exact ⟨⟨z0, z1, s2, .nil⟩, none, 0, rfl, ⟨⟨l2, by simp [F.len], trivial, trivial⟩, hz1, trivial, trivial⟩, trivial⟩
    · simp only [List.cons.injEq, and_true] at hcs
      subst hcs
      obtain ⟨l, hll, hp⟩ := choose_list (α := XM) (n := len) (p := fun i x => (w.cell? ((p.add (i * 4)).add 0) = some (.int .i64 x.t.op) ∧ w.cell? ((p.add (i * 4)).add 1) = some (.int .i64 x.t.num) ∧ w.cell? ((p.add (i * 4)).add 2) = some (.string (S x.t.text)) ∧ w.cell? ((p.add (i * 4)).add 3) = some (.slice x.p x.t.args.len x.c) ∧ FAt w (fun _ => True) x.t.args x.p) ∧ x.t.row.fits ∧ x.t.row.nums) (fun i hil => by
        obtain ⟨cs', h1, h2, h3⟩ := hi i hil
        obtain ⟨hcl, hat⟩ := cells_at h1
        obtain ⟨t, q, c, rfl, hfn, hfa⟩ := ih m' (by omega) cs' _ hcl h2 h3
        exact ⟨⟨t, q, c⟩, ⟨hat 0 (by omega), hat 1 (by omega), hat 2 (by omega), hat 3 (by omega), hfa⟩, hfn⟩)
      have hrf := rowM_fits l (fun x hx => by
        obtain ⟨i, hil, rfl⟩ := List.mem_iff_getElem.1 hx
        exact (hp i hil).2)
      have hrl := rowM_len l
      rw [hll] at hrl
      refine ⟨⟨z0, z1, s2, rowM l⟩, some p, cap, by simp only [hrl], ⟨⟨l2, by rw [hrl]; exact len_of hl bytes_exprT, hrf.1, trivial⟩, hz1, hrf.2, trivial⟩, ?_⟩
      by_cases h0 : len = 0
      · have : l = [] := List.eq_nil_of_length_eq_zero (by omega)
        subst this
        trivial
      · obtain ⟨⟨g00, _⟩, _⟩ := hp 0 (by omega)
        obtain ⟨b, off, spot⟩ := p
        have hspot : spot = none := by simpa [Addr.add] using World.cell?_spot g00
        subst hspot
        refine rowM_at b l off fun i hil => ?_
        obtain ⟨⟨g0, g1, g2, g3, g4⟩, _⟩ := hp i hil
        rw [add_add] at g0 g1 g2 g3
        exact ⟨g0, g1, g2, g3, g4⟩
end

end Go.Proofs.YtdgeofmnoabilaaGreatDoor.Ty
