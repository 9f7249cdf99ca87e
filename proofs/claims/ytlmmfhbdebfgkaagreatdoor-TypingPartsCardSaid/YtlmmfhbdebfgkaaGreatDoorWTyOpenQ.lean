/-
  TyOpen, LxLaidB, TyLaidB, ExLaid.
-/
import Derived.Test.YtlmmfhbdebfgkaaGreatDoorWExResQ
import Derived.Test.YtlmmfhbdebfgkaaGreatDoorWExChkQ
import Derived.Test.YtlmmfhbdebfgkaaGreatDoorWExWrHQ
import Derived.Test.YtlmmfhbdebfgkaaGreatDoorRows
import Derived.Test.YtlmmfhbdebfgkaaGreatDoorWLxBlankQ
import Derived.Test.YtlmmfhbdebfgkaaGreatDoorWVlNameQ
import Derived.Test.YtlmmfhbdebfgkaaGreatDoorWVlQuoteQ
import Derived.Deep.Slices
import Derived.ChangeArms
import Derived.Handed
import Derived.Lib.LaidTab
import Derived.MakeChecks
import Derived.Stop.LaidErr
import Derived.Shelf.Vars
import Derived.SizedLaws
import Derived.LaidLaws
set_option linter.unusedVariables false
set_option linter.unusedSimpArgs false
namespace Go.Proofs.YtlmmfhbdebfgkaaGreatDoor.Ty
open Go.RowKit
open Ex Lx
section
variable {H : Type} {enc : TypeId × Value → H} {w : World} {base : Nat} {spare : Nat → Bool} {held : Bool}
def Wt (t : TypeId) (d : DataW H) : Prop := ∀ n ∈ d.weights Tryz.prog t, n ≤ 140737488355328
theorem all_mem {e : TypeId} : ∀ {l : List (DataW H)} {d : DataW H}, d ∈ l → ∀ n ∈ d.weights Tryz.prog e, n ∈ DataW.weightsAll Tryz.prog e l
  | x :: r, d, hd, n, hn => by
    simp only [DataW.weightsAll, List.mem_append]
    rcases List.mem_cons.1 hd with rfl | hd
    · exact .inl hn
    · exact .inr (all_mem hd n hn)
theorem each_mem : ∀ {ts : List TypeId} {ds : List (DataW H)} {j : Nat} {t : TypeId} {d : DataW H}, ts[j]? = some t → ds[j]? = some d → ∀ n ∈ d.weights Tryz.prog t, n ∈ DataW.weightsEach Tryz.prog ts ds
  | t0 :: ts, d0 :: ds, 0, t, d, ht, hd, n, hn => by
    simp only [List.getElem?_cons_zero, Option.some.injEq] at ht hd
    subst ht; subst hd
    simp only [DataW.weightsEach, List.mem_append]
    exact Or.inl hn
  | t0 :: ts, d0 :: ds, j + 1, t, d, ht, hd, n, hn => by
    simp only [List.getElem?_cons_succ] at ht hd
    simp only [DataW.weightsEach, List.mem_append]
    exact Or.inr (each_mem ht hd n hn)
  | [], _, _, _, _, ht, _, _, _ => by simp at ht
  | _ :: _, [], _, _, _, _, hd, _, _ => by simp at hd
theorem Wt.field {t : TypeId} {fs : Array Field} {parts : List (DataW H)} (hu : Tryz.prog.underlying t = some (.struct fs)) (h : Wt t (.agg parts)) {j : Nat} {f : Field} {d : DataW H} (hf : fs[j]? = some f) (hd : parts[j]? = some d) : Wt f.type d := fun n hn => by
  refine h n ?_
  simp only [DataW.weights, hu]
  refine each_mem (j := j) ?_ hd n hn
  rw [List.getElem?_map, Array.getElem?_toList, hf]; rfl
theorem Wt.elems {t e : TypeId} {es sp : List (DataW H)} (hu : Tryz.prog.underlying t = some (.slice e)) (h : Wt t (.slice es sp)) : es.length * Tryz.prog.bytesOf e ≤ 140737488355328 ∧ ∀ d ∈ es, Wt e d := by
  constructor
  · have := h ((es.length + sp.length) * Tryz.prog.bytesOf e) (by simp [DataW.weights, hu])
    exact Nat.le_trans (Nat.mul_le_mul_right _ (by omega)) this
  · intro d hd n hn
    refine h n ?_
    simp only [DataW.weights, hu, List.mem_cons, List.mem_append]
    exact .inr (.inl (all_mem hd n hn))
theorem slice_elems {t e : TypeId} {k : Nat} {fuel : Nat} {cs : List Value} {x : DataW H × List MemPlace} (ht : Tryz.prog.underlying t = some (.slice e)) (hk : Tryz.prog.cellsOf e = k) (h : DataW.trod enc Tryz.prog w base spare held fuel t cs = some x) (hW : Wt t x.1) :
    cs = [.slice none 0 0] ∨ ∃ (a : Addr) (len cap n : Nat) (D : Nat → DataW H) (Pl : Nat → List MemPlace), fuel = n + 1 ∧ cs = [.slice (some a) len cap] ∧ len * Tryz.prog.bytesOf e ≤ 140737488355328 ∧
      ∀ i, i < len → ∃ cs', w.cells? base (a.add (i * k)) k = some cs' ∧ DataW.trod enc Tryz.prog w base spare held n e cs' = some (D i, Pl i) ∧ Wt e (D i) := by
  subst hk
  rcases DataW.trod_slice ht h with h0 | ⟨a, len, cap, elems, rest, n, hn, rfl, rfl, hb, hl, hm, hlen, hel, hsp, hns⟩
  · exact .inl h0.1
  right
  obtain ⟨w1, w2⟩ := hW.elems ht
  rw [List.length_map, hlen] at w1
  refine ⟨a, len, cap, n, fun i => (elems.getD i (.nil, [])).1, fun i => (elems.getD i (.nil, [])).2, hn, rfl, w1, fun i hi => ?_⟩
  have key := hel i hi
  rw [List.getElem?_eq_getElem (by omega)] at key
  obtain ⟨cs', h1, h2⟩ := Option.bind_eq_some_iff.1 key
  have hg : elems.getD i (.nil, []) = elems[i]'(by omega) := by simp [List.getD, List.getElem?_eq_getElem (show i < elems.length by omega)]
  refine ⟨cs', h1, ?_, ?_⟩
  · simp only [hg]; rw [h2]
  · simp only [hg]
    exact w2 _ (List.mem_map.2 ⟨_, List.getElem_mem _, rfl⟩)
theorem str_open {n : Nat} {cs : List Value} {x : DataW H × List MemPlace} (h : DataW.trod enc Tryz.prog w base spare held n 9 cs = some x) (hW : Wt 9 x.1) : ∃ s : List UInt8, cs = [.string (S s)] ∧ s.length ≤ 281474976710656 := by
  obtain ⟨s, rfl, rfl, _⟩ := DataW.trod_string Tryz.underlying9 h
  refine ⟨s.data.toList, by rw [S_list], ?_⟩
  have := hW s.data.toList.length (by simp [DataW.weights])
  omega
theorem int_open {n : Nat} {cs : List Value} {x : DataW H × List MemPlace} (h : DataW.trod enc Tryz.prog w base spare held n 3 cs = some x) : ∃ z : Int, cs = [.int .i64 z] := by
  obtain ⟨z, rfl, _⟩ := DataW.trod_int Tryz.underlying3 h
  exact ⟨z, rfl⟩
theorem cells_strT : Tryz.prog.cellsOf 9 = 1 := by kernel_rfl
theorem cells_intT : Tryz.prog.cellsOf 3 = 1 := by kernel_rfl
theorem cells_attrT : Tryz.prog.cellsOf 49 = 3 := by kernel_rfl
theorem cells_enumT : Tryz.prog.cellsOf 81 = 2 := by kernel_rfl
theorem cells_strsT : Tryz.prog.cellsOf 35 = 1 := by kernel_rfl
theorem bytes_strT : 1 ≤ Tryz.prog.bytesOf 9 := of_decide_eq_true (by kernel_rfl)
theorem bytes_attrT : 1 ≤ Tryz.prog.bytesOf 49 := of_decide_eq_true (by kernel_rfl)
theorem bytes_enumT : 1 ≤ Tryz.prog.bytesOf 81 := of_decide_eq_true (by kernel_rfl)
theorem len_of {len b : Nat} (h : len * b ≤ 140737488355328) (hb : 1 ≤ b) : len ≤ 281474976710656 := by
  have : len * 1 ≤ len * b := Nat.mul_le_mul_left _ hb
  omega
theorem cells_at {a : Addr} {k : Nat} {cs : List Value} (h : w.cells? base a k = some cs) : cs.length = k ∧ ∀ j, j < k → w.cell? (a.add j) = cs[j]? := by
  obtain ⟨_, hl, hat⟩ := World.cells?_some h
  refine ⟨hl, fun j hj => ?_⟩
  rw [hat j hj, List.getElem?_eq_getElem (by omega)]
theorem add_add (b off i j : Nat) : ((⟨b, off, none⟩ : Addr).add i).add j = ⟨b, off + i + j, none⟩ := by
  unfold Addr.add
  by_cases hi : i = 0 <;> by_cases hj : j = 0 <;> simp [hi, hj]
theorem choose_list {α : Type} [Inhabited α] {n : Nat} {p : Nat → α → Prop} (h : ∀ i, i < n → ∃ x, p i x) : ∃ l : List α, l.length = n ∧ ∀ i, (hi : i < l.length) → p i l[i] := by
  obtain ⟨F, hF⟩ := Go.Deep.choose_lt h
  exact ⟨(List.range n).map F, by simp, fun i hi => by simp only [List.getElem_map, List.getElem_range]; exact hF i (by simpa using hi)⟩
theorem strs_open {n : Nat} {cs : List Value} {x : DataW H × List MemPlace} (h : DataW.trod enc Tryz.prog w base spare held n 35 cs = some x) (hW : Wt 35 x.1) :
    ∃ (l : List (List UInt8)) (a : Option Addr) (cap : Nat), cs = [.slice a l.length cap] ∧ l.length ≤ 281474976710656 ∧ StrsAt w a l := by
  rcases slice_elems Tryz.underlying35 cells_strT h hW with hcs | ⟨p, len, cap, m, D, Pl, _, hcs, hl, hi⟩
  · exact ⟨[], none, 0, hcs, by simp, fun i hi => absurd hi (by simp)⟩
  · obtain ⟨l, hll, hp⟩ := choose_list (α := List UInt8) (n := len) (p := fun i s => w.cell? ((p.add (i * 1)).add 0) = some (.string (S s))) (fun i hil => by
      obtain ⟨cs', h1, h2, h3⟩ := hi i hil
      obtain ⟨s, rfl, _⟩ := str_open h2 h3
      exact ⟨s, (cells_at h1).2 0 (by omega)⟩)
    refine ⟨l, some p, cap, by rw [hll]; exact hcs, by rw [hll]; exact len_of hl bytes_strT, fun i hil => ?_⟩
    have g := hp i hil
    have g0 := hp 0 (by omega)
    obtain ⟨b, off, spot⟩ := p
    have hspot : spot = none := by simpa [Addr.add] using World.cell?_spot g0
    subst hspot
    rw [add_add] at g
    rw [Nat.mul_one, Nat.add_zero] at g
    exact ⟨b, off, rfl, World.block_lt_of_cell? w _ g, g⟩
theorem attr_open {n : Nat} {cs : List Value} {x : DataW H × List MemPlace} (hlen : cs.length = 3) (h : DataW.trod enc Tryz.prog w base spare held n 49 cs = some x) (hW : Wt 49 x.1) :
    ∃ a : AttrP, cs = [.string (S a.name), .int .i64 a.kind, .string (S a.enum)] ∧ a.enum.length ≤ 281474976710656 := by
  match cs, hlen with
  | [c0, c1, c2], _ =>
    obtain ⟨ys, m, _, rfl, _, hyl, hf⟩ := DataW.trod_struct Tryz.underlying49 h
    have hyl : ys.length = 3 := hyl
    have f0 := hf 0 _ rfl
    have f1 := hf 1 _ rfl
    have f2 := hf 2 _ rfl
    change DataW.trod _ _ _ _ _ _ _ 9 (([c0, c1, c2].drop 0).take (Tryz.prog.cellsOf 9)) = _ at f0
    change DataW.trod _ _ _ _ _ _ _ 3 (([c0, c1, c2].drop 1).take (Tryz.prog.cellsOf 3)) = _ at f1
    change DataW.trod _ _ _ _ _ _ _ 9 (([c0, c1, c2].drop 2).take (Tryz.prog.cellsOf 9)) = _ at f2
    rw [cells_strT] at f0 f2
    rw [cells_intT] at f1
    simp only [List.drop_zero, List.drop_succ_cons, List.take_succ_cons, List.take_zero] at f0 f1 f2
    rw [List.getElem?_eq_getElem (by omega)] at f0 f1 f2
    have w0 := hW.field (j := 0) Tryz.underlying49 rfl (by rw [List.getElem?_map, List.getElem?_eq_getElem (by omega)]; rfl)
    have w2 := hW.field (j := 2) Tryz.underlying49 rfl (by rw [List.getElem?_map, List.getElem?_eq_getElem (by omega)]; rfl)
    obtain ⟨s0, e0, l0⟩ := str_open f0 w0
    obtain ⟨z, e1⟩ := int_open f1
    obtain ⟨s2, e2, l2⟩ := str_open f2 w2
    simp only [List.cons.injEq, and_true] at e0 e1 e2
    subst e0 e1 e2
    exact ⟨⟨s0, z, s2⟩, rfl, l2⟩
theorem attrs_open {n : Nat} {cs : List Value} {x : DataW H × List MemPlace} (h : DataW.trod enc Tryz.prog w base spare held n 40 cs = some x) (hW : Wt 40 x.1) :
    ∃ (l : List AttrP) (a : Option Addr) (cap : Nat), cs = [.slice a l.length cap] ∧ l.length ≤ 281474976710656 ∧ AttrsAt w a l ∧ ∀ a ∈ l, a.enum.length ≤ 281474976710656 := by
  rcases slice_elems Tryz.underlying40 cells_attrT h hW with hcs | ⟨p, len, cap, m, D, Pl, _, hcs, hl, hi⟩
  · exact ⟨[], none, 0, hcs, by simp, fun i hi => absurd hi (by simp), fun a ha => by simp at ha⟩
  · obtain ⟨l, hll, hp⟩ := choose_list (α := AttrP) (n := len) (p := fun i a => (w.cell? ((p.add (i * 3)).add 0) = some (.string (S a.name)) ∧ w.cell? ((p.add (i * 3)).add 1) = some (.int .i64 a.kind) ∧ w.cell? ((p.add (i * 3)).add 2) = some (.string (S a.enum))) ∧ a.enum.length ≤ 281474976710656) (fun i hil => by
      obtain ⟨cs', h1, h2, h3⟩ := hi i hil
      obtain ⟨hcl, hat⟩ := cells_at h1
      obtain ⟨a, rfl, ha⟩ := attr_open hcl h2 h3
      exact ⟨a, ⟨hat 0 (by omega), hat 1 (by omega), hat 2 (by omega)⟩, ha⟩)
    refine ⟨l, some p, cap, by rw [hll]; exact hcs, by rw [hll]; exact len_of hl bytes_attrT, fun i hil => ?_, fun a ha => ?_⟩
    · obtain ⟨⟨g0, g1, g2⟩, _⟩ := hp i hil
      obtain ⟨⟨g00, _⟩, _⟩ := hp 0 (by omega)
      obtain ⟨b, off, spot⟩ := p
      have hspot : spot = none := by simpa [Addr.add] using World.cell?_spot g00
      subst hspot
      rw [add_add] at g0 g1 g2
      exact ⟨b, off, rfl, World.block_lt_of_cell? w _ g0, g0, g1, g2⟩
    · obtain ⟨i, hil, rfl⟩ := List.mem_iff_getElem.1 ha
      exact (hp i hil).2
theorem enum_open {n : Nat} {cs : List Value} {x : DataW H × List MemPlace} (hlen : cs.length = 2) (h : DataW.trod enc Tryz.prog w base spare held n 81 cs = some x) (hW : Wt 81 x.1) :
    ∃ (e : EnumP) (q : Option Addr) (c : Nat), cs = [.string (S e.name), .slice q e.syms.length c] ∧ e.syms.length ≤ 281474976710656 ∧ StrsAt w q e.syms := by
  match cs, hlen with
  | [c0, c1], _ =>
    obtain ⟨ys, m, _, rfl, _, hyl, hf⟩ := DataW.trod_struct Tryz.underlying81 h
    have hyl : ys.length = 2 := hyl
    have f0 := hf 0 _ rfl
    have f1 := hf 1 _ rfl
    change DataW.trod _ _ _ _ _ _ _ 9 (([c0, c1].drop 0).take (Tryz.prog.cellsOf 9)) = _ at f0
    change DataW.trod _ _ _ _ _ _ _ 35 (([c0, c1].drop 1).take (Tryz.prog.cellsOf 35)) = _ at f1
    rw [cells_strT] at f0
    rw [cells_strsT] at f1
    simp only [List.drop_zero, List.drop_succ_cons, List.take_succ_cons, List.take_zero] at f0 f1
    rw [List.getElem?_eq_getElem (by omega)] at f0 f1
    have w0 := hW.field (j := 0) Tryz.underlying81 rfl (by rw [List.getElem?_map, List.getElem?_eq_getElem (by omega)]; rfl)
    have w1 := hW.field (j := 1) Tryz.underlying81 rfl (by rw [List.getElem?_map, List.getElem?_eq_getElem (by omega)]; rfl)
    obtain ⟨s0, e0, l0⟩ := str_open f0 w0
    obtain ⟨l, q, c, e1, l1, h1⟩ := strs_open f1 w1
    simp only [List.cons.injEq, and_true] at e0 e1
    subst e0 e1
    exact ⟨⟨s0, l⟩, q, c, rfl, l1, h1⟩
theorem enums_open {n : Nat} {cs : List Value} {x : DataW H × List MemPlace} (h : DataW.trod enc Tryz.prog w base spare held n 39 cs = some x) (hW : Wt 39 x.1) :
    ∃ (l : List EnumP) (a : Option Addr) (cap : Nat), cs = [.slice a l.length cap] ∧ l.length ≤ 281474976710656 ∧ EnumsAt w a l ∧ ∀ e ∈ l, e.syms.length ≤ 281474976710656 := by
  rcases slice_elems Tryz.underlying39 cells_enumT h hW with hcs | ⟨p, len, cap, m, D, Pl, _, hcs, hl, hi⟩
  · exact ⟨[], none, 0, hcs, by simp, fun i hi => absurd hi (by simp), fun a ha => by simp at ha⟩
  · obtain ⟨l, hll, hp⟩ := choose_list (α := EnumP) (n := len) (p := fun i a => (w.cell? ((p.add (i * 2)).add 0) = some (.string (S a.name)) ∧ ∃ q c, w.cell? ((p.add (i * 2)).add 1) = some (.slice q a.syms.length c) ∧ StrsAt w q a.syms) ∧ a.syms.length ≤ 281474976710656) (fun i hil => by
      obtain ⟨cs', h1, h2, h3⟩ := hi i hil
      obtain ⟨hcl, hat⟩ := cells_at h1
      obtain ⟨a, q, c, rfl, ha, hs⟩ := enum_open hcl h2 h3
      exact ⟨a, ⟨hat 0 (by omega), q, c, hat 1 (by omega), hs⟩, ha⟩)
    refine ⟨l, some p, cap, by rw [hll]; exact hcs, by rw [hll]; exact len_of hl bytes_enumT, fun i hil => ?_, fun a ha => ?_⟩
    · obtain ⟨⟨g0, q, c, g1, g2⟩, _⟩ := hp i hil
      obtain ⟨⟨g00, _⟩, _⟩ := hp 0 (by omega)
      obtain ⟨b, off, spot⟩ := p
      have hspot : spot = none := by simpa [Addr.add] using World.cell?_spot g00
      subst hspot
      rw [add_add] at g0 g1
      exact ⟨b, off, q, c, rfl, World.block_lt_of_cell? w _ g0, g0, g1, g2⟩
    · obtain ⟨i, hil, rfl⟩ := List.mem_iff_getElem.1 ha
      exact (hp i hil).2
structure XM where
  t : T
  p : Option Addr
  c : Nat
instance : Inhabited XM := ⟨⟨⟨0, 0, [], .nil⟩, none, 0⟩⟩
end
end Go.Proofs.YtlmmfhbdebfgkaaGreatDoor.Ty
namespace Go.Proofs.YtlmmfhbdebfgkaaGreatDoor
open Go.RowKit
theorem lx_tail {P : Program} {W : World} {x : String × DataW Unit} {r : List (String × DataW Unit)} (h : laidMet P (x :: r) W) : laidMet P r W := by
  obtain ⟨ps, ⟨g, t, cs, fuel, p, q, _, _, _, _, hL, rfl⟩, hnd, hc⟩ := h
  exact ⟨q, hL, (List.nodup_append.1 hnd).2.1, fun b off hm => hc b off (List.mem_append.2 (.inr hm))⟩
theorem lx_tab_data : (Rows.laid_internal_strconv_uint64pow10 : DataW Unit) = Lib.tabData .u64 Lib.pow10Tab := by kernel_rfl
theorem lx_tab {W : World} {r : List (String × DataW Unit)} (h : laidMet Tryz.prog (("internal/strconv.uint64pow10", Rows.laid_internal_strconv_uint64pow10) :: r) W) : Va.Tab W := by
  rw [lx_tab_data] at h
  exact Lib.tabIs_of_head (g := 3) (t := 251) (e := 204) (n := 20) (by kernel_rfl) (by kernel_rfl) (by kernel_rfl) (by kernel_rfl) (by kernel_rfl) (by kernel_rfl) h
theorem lx_star : "*" ++ "errors.errorString" = "*errors.errorString" := by decide
theorem lx_row (u : TypeId) (h : Tryz.prog.typeName? 3 u = some "*errors.errorString") : u = 268 :=
  typeName_ptr_named (nm := "errors.errorString") (by rw [lx_star]; kernel_rfl) (by kernel_rfl) (by decide) u (by rw [lx_star]; exact h)
theorem lx_err {W : World} {r : List (String × DataW Unit)} {n : String} {text : List UInt8} {g : Nat} (hg : Tryz.prog.globalNamed n = some g) (ht : (Tryz.prog.globals[g]?).map (·.type) = some 101)
    (h : laidMet Tryz.prog ((n, .iface "*errors.errorString" (.ptr (.agg [.lit (.string text)]))) :: r) W) : Lx.ErrAt W g := by
  obtain ⟨a, s, hv, _⟩ := laid_sentinel (tp := 268) (te := 270) (ts := 9) h hg ht Tryz.underlying101 lx_row Tryz.underlying268 Tryz.underlying270 rfl rfl Tryz.underlying9 (by kernel_rfl) (by kernel_rfl)
  have h0 := World.var?_cell hg hv 0
  simp only [List.getElem?_toArray, List.getElem?_cons_zero] at h0
  exact ⟨_, h0, .inr ⟨_, _, rfl⟩, World.block_lt_of_cell? W _ h0⟩
theorem cells_of_strs {H : Type} {enc : TypeId × Value → H} {P : Program} {w : World} {base : Nat} {sp : Nat → Bool} {held : Bool} {fuel : Nat} {t e : TypeId} {n : Nat} {cs : List Value} {zs : List (List UInt8)} {p : List MemPlace}
    (ht : P.underlying t = some (.array n e)) (he : P.underlying e = some .string) (hce : P.cellsOf e = 1) (hct : P.cellsOf t = n)
    (h : DataW.trod enc P w base sp held fuel t cs = some (.agg (zs.map fun z => .lit (.string z)), p)) : cs = zs.map fun z => Value.string (S z) := by
  cases fuel with
  | zero => simp [DataW.trod] at h
  | succ fuel =>
    simp only [DataW.trod, ht, hce, hct, Nat.mul_one] at h
    split at h
    · rename_i hl
      obtain ⟨xs, hm, hx⟩ := Option.map_eq_some_iff.1 h
      have hxs : xs.map (·.1) = zs.map fun z => (DataW.lit (.string z) : DataW H) := by
        have := congrArg Prod.fst hx
        simpa using this
      have hxl : xs.length = n := by simpa using Lib.mapM_length hm
      have hzl : zs.length = n := by
        have := congrArg List.length hxs
        simp at this
        omega
      apply List.ext_getElem?
      intro i
      by_cases hi : i < n
      · obtain ⟨b, hb, hf⟩ := Lib.mapM_at hm i i (by simp [hi])
        obtain ⟨z, hc, rfl, _⟩ := DataW.trod_string he hf
        have h1 : cs[i]? = some (.string z) := by
          have := congrArg (·[0]?) hc
          simpa [List.getElem?_take, List.getElem?_drop] using this
        have h2 : (xs.map (·.1))[i]? = some (DataW.lit (.string z.data.toList) : DataW H) := by simp [hb]
        rw [hxs] at h2
        simp only [List.getElem?_map, Option.map_eq_some_iff, DataW.lit.injEq, Lit.string.injEq] at h2
        obtain ⟨z', hz', rfl⟩ := h2
        simp [h1, hz', S_list]
      · rw [List.getElem?_eq_none (by omega), List.getElem?_eq_none (by simp; omega)]
    · cases h
theorem lx_signs_data : (Rows.laid_switchyard_lex_signs : DataW Unit) = .agg (Lx.signs.map fun z => .lit (.string z)) := by kernel_rfl
theorem lx_signs {W : World} {r : List (String × DataW Unit)} (h : laidMet Tryz.prog (("switchyard/lex.signs", Rows.laid_switchyard_lex_signs) :: r) W) : Lx.SignsAt W := by
  rw [lx_signs_data] at h
  obtain ⟨ps, ⟨g', t', cs, fuel, p, q, hg', ht', hvar, hd, _, _⟩, _⟩ := h
  have hgn : Tryz.prog.globalNamed "switchyard/lex.signs" = some 1 := by kernel_rfl
  have htn : (Tryz.prog.globals[1]?).map (·.type) = some 186 := by kernel_rfl
  obtain rfl := Option.some.inj (hgn.symm.trans hg')
  obtain rfl := Option.some.inj (htn.symm.trans ht')
  have hcs := cells_of_strs (n := 27) (by kernel_rfl) Tryz.underlying9 (by kernel_rfl) (by kernel_rfl) hd
  have hcell : ∀ j v, Lx.signsC[j]? = some v → W.cell? ⟨1, j, none⟩ = some v := fun j v hv => by
    have h0 := World.var?_cell hgn hvar j
    rw [h0, ← Array.getElem?_toList]
    have e : cs.toList = Lx.signsC := hcs
    rw [e]
    exact hv
  refine ⟨fun j v hv => by rw [Nat.zero_add]; exact hcell j v hv, World.block_lt_of_cell? W _ (hcell 0 _ (Lx.signs_get 0 (by decide)))⟩
theorem lx_max {W : World} (h : W.ShapedOpen Tryz.prog) : Lx.IntVar W 2 := by
  obtain ⟨m, hm⟩ := cell_of_shapedOpen_int (g := 2) (t := 3) (zero := #[.int .i64 0]) (k := .i64) h (by decide +kernel) (by kernel_rfl) rfl (by kernel_rfl) (by kernel_rfl) Tryz.underlying3
  exact ⟨m, hm, World.block_lt_of_cell? W _ hm⟩
theorem returns_and_shaped {H : Type} {enc : TypeId × Value → H} {a : Assume} {C : Checked} {os : Os} {f : FuncId} {fn : Func} {s : ChangeSpec} {conds : List PathCond} {apart fresh handsOn again : Bool} {X : World → Array Value → Prop}
    (hX : ∀ (w w' : World) (args : Array Value), w.heap = w'.heap → X w args → X w' args)
    (own : ownKnob C.prog.godebug = none) (started : os.Started) (noInit : C.prog.inits.idxOf? f = none) (hfn : C.prog.funcs[f]? = some fn)
    (witness : ∃ (w : World) (tape : Tape) (i : Input), w.os = os ∧ (w.forCall tape i).Shaped C.prog ∧ i.vars = [] ∧ Input.okWide C.prog (w.forCall tape i) .any w.heap.size f i ∧
      ((s.pre enc C.prog fn conds apart (w.forCall tape i).memory i.args ∧ X (w.forCall tape i).memory i.args) ∧ sizedMet enc C.prog fn (OpenSpec.ofChange s) apart (w.forCall tape i).memory i.args) ∧ a.holds C.prog (lone (Frame.enter C.prog f i.args .normal) [] (w.forCall tape i)))
    (contract : ∀ (W : World) (base : Nat) (args : Array Value) (ds gs : List (DataW H)) (before : List MemPlace),
      (∀ (j : Nat) t v, fn.params[j]? = some t → args[j]? = some v → Value.okWide C.prog W .any base t v) →
      DataW.Whole enc C.prog fn.params.toList s.vars apart W args.toList ds gs before →
      conds.all (PathCond.test C.prog ⟨fn.params.toList, ds, s.plain.varTypes C.prog, gs⟩) = true →
      (DataW.weightsEach C.prog (fn.params.toList ++ s.plain.varTypes C.prog) (ds ++ gs)).all (· ≤ reachBytes) = true → X W args → W.ShapedOpen C.prog →
      Calls C.prog f args W fun e W' => ∃ v, e = .returned v ∧ s.post enc C.prog fn apart fresh handsOn again W args v W') :
    ReturnsInHanded a C os f .any (fun w args => (s.pre enc C.prog fn conds apart w args ∧ X w args) ∧ sizedMet enc C.prog fn (OpenSpec.ofChange s) apart w args) (s.post enc C.prog fn apart fresh handsOn again) := by
  refine returnsInHanded_of_calls own started noInit witness ?_
  intro w tape i _ hsh _ hok hpre hholds
  obtain ⟨_, _, _, fn', hfn', _, _, _, _, hval⟩ := hok
  have e : fn' = fn := Option.some.inj (hfn'.symm.trans hfn)
  subst e
  obtain ⟨⟨⟨ds, gs, before, hw, hc⟩, hx⟩, hz⟩ := hpre
  have hw' := DataW.Whole.of_heap (w' := w.forCall tape i) (by rfl) hw
  refine (contract (w.forCall tape i) w.heap.size i.args ds gs before hval hw' hc (hz.weights hw) (hX _ _ _ (by rfl) hx) hsh).mono fun e W' ⟨v, he, hp⟩ => ?_
  subst he
  exact ChangeSpec.post_blind hp
theorem lx_laid {W : World} {x y z : String × DataW Unit} {r : List (String × DataW Unit)} (h : laidMet Tryz.prog (x :: y :: ("internal/strconv.uint64pow10", Rows.laid_internal_strconv_uint64pow10) :: z :: ("strconv.ErrRange", Rows.laid_strconv_ErrRange) :: ("strconv.ErrSyntax", Rows.laid_strconv_ErrSyntax) :: ("switchyard/lex.signs", Rows.laid_switchyard_lex_signs) :: r) W)
    (hs : W.ShapedOpen Tryz.prog) : Lx.Laid W :=
  ⟨lx_err (by kernel_rfl) (by kernel_rfl) (lx_tail (lx_tail (lx_tail (lx_tail h)))), lx_err (by kernel_rfl) (by kernel_rfl) (lx_tail (lx_tail (lx_tail (lx_tail (lx_tail h))))), lx_tab (lx_tail (lx_tail h)), lx_signs (lx_tail (lx_tail (lx_tail (lx_tail (lx_tail (lx_tail h)))))), lx_max hs⟩
end Go.Proofs.YtlmmfhbdebfgkaaGreatDoor
namespace Go.Proofs.YtlmmfhbdebfgkaaGreatDoor
open Go.RowKit
theorem ty_tail {P : Program} {W : World} {x : String × DataW Unit} {r : List (String × DataW Unit)} (h : laidMet P (x :: r) W) : laidMet P r W := by
  obtain ⟨ps, ⟨g, t, cs, fuel, p, q, _, _, _, _, hL, rfl⟩, hnd, hc⟩ := h
  exact ⟨q, hL, (List.nodup_append.1 hnd).2.1, fun b off hm => hc b off (List.mem_append.2 (.inr hm))⟩
def conD {H : Type} (c : Ex.Con) : DataW H := .agg [.lit (.string c.word), .lit (.int .i64 c.op), .lit (.int .i64 c.level), .lit (.int .i64 c.operands), .lit (.bool c.turned)]
section
variable {H : Type} {enc : TypeId × Value → H} {w : World} {base : Nat} {sp : Nat → Bool} {held : Bool}
theorem lit_str {n : Nat} {cs : List Value} {x : DataW H × List MemPlace} {s : List UInt8} (h : DataW.trod enc Tryz.prog w base sp held n 9 cs = some x) (hx : x.1 = .lit (.string s)) : cs = [.string (S s)] := by
  obtain ⟨z, rfl, rfl, _⟩ := DataW.trod_string Tryz.underlying9 h
  simp only [DataW.lit.injEq, Lit.string.injEq] at hx
  rw [← hx, S_list]
theorem lit_int {n : Nat} {cs : List Value} {x : DataW H × List MemPlace} {s : Int} (h : DataW.trod enc Tryz.prog w base sp held n 3 cs = some x) (hx : x.1 = .lit (.int .i64 s)) : cs = [.int .i64 s] := by
  obtain ⟨z, rfl, rfl, _⟩ := DataW.trod_int Tryz.underlying3 h
  simp only [DataW.lit.injEq, Lit.int.injEq, true_and] at hx
  rw [hx]
theorem lit_bool {n : Nat} {cs : List Value} {x : DataW H × List MemPlace} {s : Bool} (h : DataW.trod enc Tryz.prog w base sp held n 4 cs = some x) (hx : x.1 = .lit (.bool s)) : cs = [.bool s] := by
  obtain ⟨z, rfl, rfl⟩ := DataW.trod_bool Tryz.underlying4 h
  simp only [DataW.lit.injEq, Lit.bool.injEq] at hx
  rw [hx]
theorem con_cells (c : Ex.Con) {n : Nat} {cs : List Value} {x : DataW H × List MemPlace} (hlen : cs.length = 5) (h : DataW.trod enc Tryz.prog w base sp held n 96 cs = some x) (hx : x.1 = conD c) : cs = c.cells := by
  match cs, hlen with
  | [c0, c1, c2, c3, c4], _ =>
    obtain ⟨ys, m, _, rfl, _, hyl, hf⟩ := DataW.trod_struct Tryz.underlying96 h
    have hyl : ys.length = 5 := hyl
    have f0 := hf 0 _ rfl
    have f1 := hf 1 _ rfl
    have f2 := hf 2 _ rfl
    have f3 := hf 3 _ rfl
    have f4 := hf 4 _ rfl
    change DataW.trod _ _ _ _ _ _ _ 9 (([c0, c1, c2, c3, c4].drop 0).take (Tryz.prog.cellsOf 9)) = _ at f0
    change DataW.trod _ _ _ _ _ _ _ 3 (([c0, c1, c2, c3, c4].drop 1).take (Tryz.prog.cellsOf 3)) = _ at f1
    change DataW.trod _ _ _ _ _ _ _ 3 (([c0, c1, c2, c3, c4].drop 2).take (Tryz.prog.cellsOf 3)) = _ at f2
    change DataW.trod _ _ _ _ _ _ _ 3 (([c0, c1, c2, c3, c4].drop 3).take (Tryz.prog.cellsOf 3)) = _ at f3
    change DataW.trod _ _ _ _ _ _ _ 4 (([c0, c1, c2, c3, c4].drop 4).take (Tryz.prog.cellsOf 4)) = _ at f4
    rw [show Tryz.prog.cellsOf 9 = 1 by kernel_rfl] at f0
    rw [show Tryz.prog.cellsOf 3 = 1 by kernel_rfl] at f1 f2 f3
    rw [show Tryz.prog.cellsOf 4 = 1 by kernel_rfl] at f4
    simp only [List.drop_zero, List.drop_succ_cons, List.take_succ_cons, List.take_zero] at f0 f1 f2 f3 f4
    rw [List.getElem?_eq_getElem (by omega)] at f0 f1 f2 f3 f4
    have hxs : ys.map (·.1) = [.lit (.string c.word), .lit (.int .i64 c.op), .lit (.int .i64 c.level), .lit (.int .i64 c.operands), .lit (.bool c.turned)] := by
      simpa [conD] using hx
    have g : ∀ j, (hj : j < ys.length) → some (ys[j]).1 = ([.lit (.string c.word), .lit (.int .i64 c.op), .lit (.int .i64 c.level), .lit (.int .i64 c.operands), .lit (.bool c.turned)] : List (DataW H))[j]? := fun j hj => by
      rw [← hxs, List.getElem?_map, List.getElem?_eq_getElem hj]; rfl
    have e0 := lit_str f0 (Option.some.inj (g 0 (by omega)))
    have e1 := lit_int f1 (Option.some.inj (g 1 (by omega)))
    have e2 := lit_int f2 (Option.some.inj (g 2 (by omega)))
    have e3 := lit_int f3 (Option.some.inj (g 3 (by omega)))
    have e4 := lit_bool f4 (Option.some.inj (g 4 (by omega)))
    simp only [List.cons.injEq, and_true] at e0 e1 e2 e3 e4
    subst e0 e1 e2 e3 e4
    rfl
theorem chunks : ∀ (l : List Ex.Con) (cs : List Value), cs.length = l.length * 5 → (∀ i, (h : i < l.length) → (cs.drop (i * 5)).take 5 = l[i].cells) → cs = l.flatMap Ex.Con.cells
  | [], cs, h, _ => by simpa using h
  | c :: r, cs, h, hc => by
    have h0 := hc 0 (by simp)
    simp only [Nat.zero_mul, List.drop_zero, List.getElem_cons_zero] at h0
    have hr := chunks r (cs.drop 5) (by simp at h ⊢; omega) (fun i hi => by
      have := hc (i + 1) (by simp; omega)
      rw [List.drop_drop, show 5 + i * 5 = (i + 1) * 5 by omega]
      simpa using this)
    rw [List.flatMap_cons, ← hr, ← h0, List.take_append_drop]
theorem con_array {fuel : Nat} {cs : List Value} {p : List MemPlace} (h : DataW.trod enc Tryz.prog w base sp held fuel 135 cs = some (.agg (Ex.conL.map conD), p)) : cs = Ex.conC := by
  have ht : Tryz.prog.underlying 135 = some (.array 18 96) := by kernel_rfl
  have hce : Tryz.prog.cellsOf 96 = 5 := by kernel_rfl
  have hct : Tryz.prog.cellsOf 135 = 90 := by kernel_rfl
  cases fuel with
  | zero => simp [DataW.trod] at h
  | succ fuel =>
    simp only [DataW.trod, ht, hce, hct] at h
    split at h
    · rename_i hl
      obtain ⟨xs, hm, hx⟩ := Option.map_eq_some_iff.1 h
      have hxs : xs.map (·.1) = Ex.conL.map (conD (H := H)) := by
        have := congrArg Prod.fst hx
        simpa using this
      have hxl : xs.length = 18 := by simpa using Lib.mapM_length hm
      refine chunks Ex.conL cs (by have h18 : Ex.conL.length = 18 := rfl; rw [h18]; simpa using hl) fun i hi => ?_
      have hi18 : i < 18 := hi
      obtain ⟨b, hb, hf⟩ := Lib.mapM_at hm i i (by simp [hi18])
      refine con_cells Ex.conL[i] (by simp at hl ⊢; omega) hf ?_
      have h2 : (xs.map (·.1))[i]? = some b.1 := by simp [hb]
      rw [hxs, List.getElem?_map, List.getElem?_eq_getElem hi] at h2
      exact (Option.some.inj h2).symm
    · cases h
end
theorem ty_con_data : (Rows.laid_switchyard_expr_constructs : DataW Unit) = .agg (Ex.conL.map conD) := by kernel_rfl
theorem ty_cons {W : World} {r : List (String × DataW Unit)} (h : laidMet Tryz.prog (("switchyard/expr.constructs", Rows.laid_switchyard_expr_constructs) :: r) W) : Ex.ConsAt W := by
  rw [ty_con_data] at h
  obtain ⟨ps, ⟨g', t', cs, fuel, p, q, hg', ht', hvar, hd, _, _⟩, _⟩ := h
  have hgn : Tryz.prog.globalNamed "switchyard/expr.constructs" = some 0 := by kernel_rfl
  have htn : (Tryz.prog.globals[0]?).map (·.type) = some 135 := by kernel_rfl
  obtain rfl := Option.some.inj (hgn.symm.trans hg')
  obtain rfl := Option.some.inj (htn.symm.trans ht')
  have hcs := con_array hd
  have hcell : ∀ j v, Ex.conC[j]? = some v → W.cell? ⟨0, j, none⟩ = some v := fun j v hv => by
    have h0 := World.var?_cell hgn hvar j
    rw [h0, ← Array.getElem?_toList]
    have e : cs.toList = Ex.conC := hcs
    rw [e]
    exact hv
  refine ⟨fun j v hv => by rw [Nat.zero_add]; exact hcell j v hv, World.block_lt_of_cell? W _ (hcell 0 (.string (S [124, 124])) rfl)⟩
end Go.Proofs.YtlmmfhbdebfgkaaGreatDoor
namespace Go.Proofs.YtlmmfhbdebfgkaaGreatDoor
open Go.RowKit
theorem laid_typingParts (W : World) (h : laidMetH Tryz.prog Rows.typingPartsRow.laid W) (hs : W.ShapedOpen Tryz.prog) : Lx.Laid W ∧ Ex.ConsAt W := by
  rw [MakeChecks.laidMetH_plain _ _ _ (by kernel_rfl)] at h
  exact ⟨lx_laid h hs, ty_cons (ty_tail (ty_tail (ty_tail (ty_tail (ty_tail (ty_tail (ty_tail h)))))))⟩
end Go.Proofs.YtlmmfhbdebfgkaaGreatDoor
