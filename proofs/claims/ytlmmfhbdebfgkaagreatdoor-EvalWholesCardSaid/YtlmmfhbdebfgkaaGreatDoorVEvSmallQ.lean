/-
  EvSmall, TyOpen, VlOpen, TyLaidB, EvLaidZ.
-/
import Derived.Test.YtlmmfhbdebfgkaaGreatDoorVEvOfPQ
import Derived.Test.YtlmmfhbdebfgkaaGreatDoorVExResQ
import Derived.Test.YtlmmfhbdebfgkaaGreatDoorVExChkQ
import Derived.Test.YtlmmfhbdebfgkaaGreatDoorVExWrHQ
import Derived.Test.YtlmmfhbdebfgkaaGreatDoorVVaPrintBQ
import Derived.Test.YtlmmfhbdebfgkaaGreatDoorRows
import Derived.Test.YtlmmfhbdebfgkaaGreatDoorVExNamedQ
import Derived.Test.YtlmmfhbdebfgkaaGreatDoorVVlQuoteQ
import Derived.Deep.Slices
import Derived.ChangeArms
import Derived.Handed
import Derived.ProofKit
import Derived.OpenShut
import Derived.ShutString
import Derived.ChangeOld
import Derived.Lib.SmallJoins
import Derived.Lib.LaidTab
import Derived.MakeChecks
import Derived.SizedLaws
import Derived.LaidLaws
set_option linter.unusedVariables false
set_option linter.unusedSimpArgs false
namespace Go.Proofs.YtlmmfhbdebfgkaaGreatDoor.Ev
open Go.RowKit
open Ex Lx Va Ty
structure EnBig (v : En) : Prop where
  attrs : v.attrs.length ≤ 281474976710656
  vals : v.vals.length ≤ 281474976710656
  names : v.names.length ≤ 281474976710656
  fields : v.fields.length ≤ 281474976710656
  ok : ∀ x ∈ v.vals, VOk x ∧ B64 x.num ∧ ∀ n ∈ x.list, B64 n
  okf : ∀ x ∈ v.fields, VOk x ∧ B64 x.num ∧ ∀ n ∈ x.list, B64 n
end Go.Proofs.YtlmmfhbdebfgkaaGreatDoor.Ev
namespace Go.Proofs.YtlmmfhbdebfgkaaGreatDoor.Ty
open Go.RowKit
open Ex Lx
section
variable {H : Type} {enc : TypeId × Value → H} {w : World} {base : Nat} {spare : Nat → Bool} {held : Bool}
structure XM where
  t : T
  p : Option Addr
  c : Nat
instance : Inhabited XM := ⟨⟨⟨0, 0, [], .nil⟩, none, 0⟩⟩
end
end Go.Proofs.YtlmmfhbdebfgkaaGreatDoor.Ty
namespace Go.Proofs.YtlmmfhbdebfgkaaGreatDoor.Va
open Go.ChangeShapes Go.WideShapes Go.ChangeAt Go.RowKit
structure VArg (v : V) : Prop where
  ok : VOk v
  num : -9223372036854775808 ≤ v.num ∧ v.num ≤ 9223372036854775807
  nums : ∀ n ∈ v.list, -9223372036854775808 ≤ n ∧ n ≤ 9223372036854775807
instance : Inhabited V := ⟨⟨0, 0, [], []⟩⟩
section
variable {H : Type} {enc : TypeId × Value → H} {w : World} {base : Nat} {spare : Nat → Bool} {held : Bool}
end
end Go.Proofs.YtlmmfhbdebfgkaaGreatDoor.Va
namespace Go.Proofs.YtlmmfhbdebfgkaaGreatDoor
open Go.RowKit
theorem ty_tail {P : Program} {W : World} {x : String × DataW Unit} {r : List (String × DataW Unit)} (h : laidMet P (x :: r) W) : laidMet P r W := by
  obtain ⟨ps, ⟨g, t, cs, fuel, p, q, _, _, _, _, hL, rfl⟩, hnd, hc⟩ := h
  exact ⟨q, hL, (List.nodup_append.1 hnd).2.1, fun b off hm => hc b off (List.mem_append.2 (.inr hm))⟩
theorem ty_tab_data : (Rows.laid_internal_strconv_uint64pow10 : DataW Unit) = Lib.tabData .u64 Lib.pow10Tab := by kernel_rfl
theorem ty_tab {W : World} {r : List (String × DataW Unit)} (h : laidMet Tryz.prog (("internal/strconv.uint64pow10", Rows.laid_internal_strconv_uint64pow10) :: r) W) : Va.Tab W := by
  rw [ty_tab_data] at h
  exact Lib.tabIs_of_head (g := 3) (t := 251) (e := 204) (n := 20) (by kernel_rfl) (by kernel_rfl) (by kernel_rfl) (by kernel_rfl) (by kernel_rfl) (by kernel_rfl) h
def conD {H : Type} (c : Ex.Con) : DataW H := .agg [.lit (.string c.word), .lit (.int .i64 c.op), .lit (.int .i64 c.level), .lit (.int .i64 c.operands), .lit (.bool c.turned)]
section
variable {H : Type} {enc : TypeId × Value → H} {w : World} {base : Nat} {sp : Nat → Bool} {held : Bool}
theorem lit_str {n : Nat} {cs : List Value} {x : DataW H × List MemPlace} {s : List UInt8} (h : DataW.trod enc Tryz.prog w base sp held n 9 cs = some x) (hx : x.1 = .lit (.string s)) : cs = [.string (S s)] := by
  obtain ⟨z, rfl, rfl, _⟩ := DataW.trod_string Tryz.underlying9 h
  simp only [DataW.lit.injEq, Lit.string.injEq] at hx
  rw [← hx, S_list]
theorem lit_int {n : Nat} {cs : List Value} {x : DataW H × List MemPlace} {s : Int} (h : DataW.trod enc Tryz.prog w base sp held n 3 cs = some x) (hx : x.1 = .lit (.int .i64 s)) : cs = [.int .i64 s] := by
  obtain ⟨z, rfl, rfl, _⟩ := DataW.trod_int Tryz.underlying3 h
  simp only [DataW.lit.injEq, Lit.int.injEq, true_and] at hx
  rw [hx]
theorem lit_bool {n : Nat} {cs : List Value} {x : DataW H × List MemPlace} {s : Bool} (h : DataW.trod enc Tryz.prog w base sp held n 4 cs = some x) (hx : x.1 = .lit (.bool s)) : cs = [.bool s] := by
  obtain ⟨z, rfl, rfl⟩ := DataW.trod_bool Tryz.underlying4 h
  simp only [DataW.lit.injEq, Lit.bool.injEq] at hx
  rw [hx]
theorem con_cells (c : Ex.Con) {n : Nat} {cs : List Value} {x : DataW H × List MemPlace} (hlen : cs.length = 5) (h : DataW.trod enc Tryz.prog w base sp held n 96 cs = some x) (hx : x.1 = conD c) : cs = c.cells := by
  match cs, hlen with
  | [c0, c1, c2, c3, c4], _ =>
    obtain ⟨ys, m, _, rfl, _, hyl, hf⟩ := DataW.trod_struct Tryz.underlying96 h
    have hyl : ys.length = 5 := hyl
    have f0 := hf 0 _ rfl
    have f1 := hf 1 _ rfl
    have f2 := hf 2 _ rfl
    have f3 := hf 3 _ rfl
    have f4 := hf 4 _ rfl
    change DataW.trod _ _ _ _ _ _ _ 9 (([c0, c1, c2, c3, c4].drop 0).take (Tryz.prog.cellsOf 9)) = _ at f0
    change DataW.trod _ _ _ _ _ _ _ 3 (([c0, c1, c2, c3, c4].drop 1).take (Tryz.prog.cellsOf 3)) = _ at f1
    change DataW.trod _ _ _ _ _ _ _ 3 (([c0, c1, c2, c3, c4].drop 2).take (Tryz.prog.cellsOf 3)) = _ at f2
    change DataW.trod _ _ _ _ _ _ _ 3 (([c0, c1, c2, c3, c4].drop 3).take (Tryz.prog.cellsOf 3)) = _ at f3
    change DataW.trod _ _ _ _ _ _ _ 4 (([c0, c1, c2, c3, c4].drop 4).take (Tryz.prog.cellsOf 4)) = _ at f4
    rw [show Tryz.prog.cellsOf 9 = 1 by kernel_rfl] at f0
    rw [show Tryz.prog.cellsOf 3 = 1 by kernel_rfl] at f1 f2 f3
    rw [show Tryz.prog.cellsOf 4 = 1 by kernel_rfl] at f4
    simp only [List.drop_zero, List.drop_succ_cons, List.take_succ_cons, List.take_zero] at f0 f1 f2 f3 f4
    rw [List.getElem?_eq_getElem (by omega)] at f0 f1 f2 f3 f4
    have hxs : ys.map (·.1) = [.lit (.string c.word), .lit (.int .i64 c.op), .lit (.int .i64 c.level), .lit (.int .i64 c.operands), .lit (.bool c.turned)] := by
      simpa [conD] using hx
    have g : ∀ j, (hj : j < ys.length) → some (ys[j]).1 = ([.lit (.string c.word), .lit (.int .i64 c.op), .lit (.int .i64 c.level), .lit (.int .i64 c.operands), .lit (.bool c.turned)] : List (DataW H))[j]? := fun j hj => by
      rw [← hxs, List.getElem?_map, List.getElem?_eq_getElem hj]; rfl
    have e0 := lit_str f0 (Option.some.inj (g 0 (by omega)))
    have e1 := lit_int f1 (Option.some.inj (g 1 (by omega)))
    have e2 := lit_int f2 (Option.some.inj (g 2 (by omega)))
    have e3 := lit_int f3 (Option.some.inj (g 3 (by omega)))
    have e4 := lit_bool f4 (Option.some.inj (g 4 (by omega)))
    simp only [List.cons.injEq, and_true] at e0 e1 e2 e3 e4
    subst e0 e1 e2 e3 e4
    rfl
theorem chunks : ∀ (l : List Ex.Con) (cs : List Value), cs.length = l.length * 5 → (∀ i, (h : i < l.length) → (cs.drop (i * 5)).take 5 = l[i].cells) → cs = l.flatMap Ex.Con.cells
  | [], cs, h, _ => by simpa using h
  | c :: r, cs, h, hc => by
    have h0 := hc 0 (by simp)
    simp only [Nat.zero_mul, List.drop_zero, List.getElem_cons_zero] at h0
    have hr := chunks r (cs.drop 5) (by simp at h ⊢; omega) (fun i hi => by
      have := hc (i + 1) (by simp; omega)
      rw [List.drop_drop, show 5 + i * 5 = (i + 1) * 5 by omega]
      simpa using this)
    rw [List.flatMap_cons, ← hr, ← h0, List.take_append_drop]
theorem con_array {fuel : Nat} {cs : List Value} {p : List MemPlace} (h : DataW.trod enc Tryz.prog w base sp held fuel 135 cs = some (.agg (Ex.conL.map conD), p)) : cs = Ex.conC := by
  have ht : Tryz.prog.underlying 135 = some (.array 18 96) := by kernel_rfl
  have hce : Tryz.prog.cellsOf 96 = 5 := by kernel_rfl
  have hct : Tryz.prog.cellsOf 135 = 90 := by kernel_rfl
  cases fuel with
  | zero => simp [DataW.trod] at h
  | succ fuel =>
    simp only [DataW.trod, ht, hce, hct] at h
    split at h
    · rename_i hl
      obtain ⟨xs, hm, hx⟩ := Option.map_eq_some_iff.1 h
      have hxs : xs.map (·.1) = Ex.conL.map (conD (H := H)) := by
        have := congrArg Prod.fst hx
        simpa using this
      have hxl : xs.length = 18 := by simpa using Lib.mapM_length hm
      refine chunks Ex.conL cs (by have h18 : Ex.conL.length = 18 := rfl; rw [h18]; simpa using hl) fun i hi => ?_
      have hi18 : i < 18 := hi
      obtain ⟨b, hb, hf⟩ := Lib.mapM_at hm i i (by simp [hi18])
      refine con_cells Ex.conL[i] (by simp at hl ⊢; omega) hf ?_
      have h2 : (xs.map (·.1))[i]? = some b.1 := by simp [hb]
      rw [hxs, List.getElem?_map, List.getElem?_eq_getElem hi] at h2
      exact (Option.some.inj h2).symm
    · cases h
end
theorem ty_con_data : (Rows.laid_switchyard_expr_constructs : DataW Unit) = .agg (Ex.conL.map conD) := by kernel_rfl
theorem ty_cons {W : World} {r : List (String × DataW Unit)} (h : laidMet Tryz.prog (("switchyard/expr.constructs", Rows.laid_switchyard_expr_constructs) :: r) W) : Ex.ConsAt W := by
  rw [ty_con_data] at h
  obtain ⟨ps, ⟨g', t', cs, fuel, p, q, hg', ht', hvar, hd, _, _⟩, _⟩ := h
  have hgn : Tryz.prog.globalNamed "switchyard/expr.constructs" = some 0 := by kernel_rfl
  have htn : (Tryz.prog.globals[0]?).map (·.type) = some 135 := by kernel_rfl
  obtain rfl := Option.some.inj (hgn.symm.trans hg')
  obtain rfl := Option.some.inj (htn.symm.trans ht')
  have hcs := con_array hd
  have hcell : ∀ j v, Ex.conC[j]? = some v → W.cell? ⟨0, j, none⟩ = some v := fun j v hv => by
    have h0 := World.var?_cell hgn hvar j
    rw [h0, ← Array.getElem?_toList]
    have e : cs.toList = Ex.conC := hcs
    rw [e]
    exact hv
  refine ⟨fun j v hv => by rw [Nat.zero_add]; exact hcell j v hv, World.block_lt_of_cell? W _ (hcell 0 (.string (S [124, 124])) rfl)⟩
end Go.Proofs.YtlmmfhbdebfgkaaGreatDoor
namespace Go.Proofs.YtlmmfhbdebfgkaaGreatDoor
open Go.RowKit
theorem laid_evalWholes (W : World) (h : laidMetH Tryz.prog Rows.evalWholesRow.laid W) : Va.Tab W ∧ Ex.ConsAt W := by
  rw [MakeChecks.laidMetH_plain _ _ _ (by kernel_rfl)] at h
  exact ⟨ty_tab (ty_tail (ty_tail h)), ty_cons (ty_tail (ty_tail (ty_tail h)))⟩
end Go.Proofs.YtlmmfhbdebfgkaaGreatDoor
