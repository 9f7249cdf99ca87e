/-
  'DeadOwn' returns true for every input, and leaves its arguments as they were. No condition.
-/
import Derived.Test.YtfkmpegbidojoaaRows
import Derived.Test.YtfkmpegbidojoaaMdDOwnW
import Derived.Test.YtfkmpegbidojoaaMdOpen
import Derived.ProofKit
import Derived.OpenShut
import Derived.ShutString
import Derived.ChangeOld
import Derived.Below
import Derived.SizedLaws
import Derived.Lib.SmallJoins
namespace Go.Proofs.Ytfkmpegbidojoaa.deadOwn
open Go.ChangeShapes Go.WideShapes Go.ChangeAt Go.RowKit
open Go.ChangeMaps (open_string shut_string)
open Md
set_option linter.unusedVariables false
set_option linter.unusedSimpArgs false

theorem own : ownKnob Try.prog.godebug = none := by kernel_rfl
theorem laidOut : laidOutB Try.prog = true := by kernel_rfl

set_option maxRecDepth 100000 in
theorem lifted (os : Os) (started : os.Started) (H : Type) (enc : TypeId × Value → H) :
    ReturnsInHanded {} Try.checked os 5 .any (Rows.deadOwnSpec.pre6 enc Try.prog Try.f5 Rows.deadOwnRow.domain false) (Rows.deadOwnSpec.post enc Try.prog Try.f5 false true false false) := by
  refine returnsInHanded_of_change_sized (C := Try.checked) own started (by kernel_rfl) Try.func5
    (ChangeSpec.witness6 (enc := enc) (C := Try.checked) false ⟨#[], #[.slice none 0 0, .agg #[.int .i64 0, .int .i64 0, .string ByteArray.empty, .slice none 0 0, .slice none 0 0, .int .i64 0]], []⟩ 8 (by kernel_rfl) (by kernel_rfl) (by kernel_rfl) (by kernel_rfl)) ?_
  intro W base args ds gs before hval0 hW hcnd hsz0 _
  have hval : ∀ (j : Nat) t v, Try.f5.params[j]? = some t → args[j]? = some v → Value.okWide Try.prog W .any base t v := hval0
  have hsz : (DataW.weightsEach Try.prog (Try.f5.params.toList ++ Rows.deadOwnSpec.plain.varTypes Try.prog) (ds ++ gs)).all (· ≤ reachBytes) = true := hsz0
  have hW' := hW
  obtain ⟨p, q, hA0, hV, rfl, hfz, hnd⟩ := hW
  have hA : DataW.TrodAll enc Try.prog W 0 (fun _ => true) true Try.f5.params.toList args.toList ds p := hA0
  rw [Try.params5] at hA hval hsz
  obtain ⟨u0, vs0, d0, ds0, p0, q0, hargs, rfl, rfl, h0, r0⟩ := trodAll_cons hA
  obtain ⟨u1, vs1, d1, ds1, p1, q1, rfl, rfl, rfl, h1, r1⟩ := trodAll_cons r0
  obtain ⟨rfl, rfl, rfl⟩ := trodAll_nil r1
  obtain rfl : args = #[u0, u1] := by cases args; simp_all
  obtain ⟨rfl, rfl⟩ := trodVars_none hV
  have hrb : reachBytes ≤ 140737488355328 := by decide
  have k0 := h0
  have lt0 : ∀ x ∈ p0, x.block < W.heap.size := by obtain ⟨m, hm⟩ := k0; exact DataW.trod_lt m _ _ _ hm
  have wt0 : Wt 44 d0 := fun m hm => Nat.le_trans (by have := List.all_eq_true.1 hsz _ (DataW.weights_mem_each (j := 0) rfl rfl m hm); simpa using this) hrb
  have k1 := h1
  have lt1 : ∀ x ∈ p1, x.block < W.heap.size := by obtain ⟨m, hm⟩ := k1; exact DataW.trod_lt m _ _ _ hm
  have wt1 : Wt 46 d1 := fun m hm => Nat.le_trans (by have := List.all_eq_true.1 hsz _ (DataW.weights_mem_each (j := 1) rfl rfl m hm); simpa using this) hrb
  obtain ⟨sa0, sl0, sc0, rfl⟩ := okWide_slice Try.underlying44 (hval 0 44 u0 rfl rfl)
  obtain ⟨fuel0, hf0⟩ := h0
  obtain ⟨l0, a0, cp0, ea0, lb0, na0, va0⟩ := deads_open hf0 wt0
  have ea0 : Value.slice sa0 sl0 sc0 = Value.slice a0 l0.length cp0 := by simpa [Value.cells] using ea0
  obtain ⟨rfl, rfl, rfl⟩ : sa0 = a0 ∧ sl0 = l0.length ∧ sc0 = cp0 := by simpa using ea0
  obtain ⟨ca1, rfl, hca1⟩ := okWide_struct Try.underlying46 (hval 1 46 u1 rfl rfl)
  obtain ⟨fuel1, hf1⟩ := h1
  obtain ⟨v1, a1, c1, b1, e1, et1, h11, h21, h31, h41, h51⟩ := dead_open (by have : ca1.size = 6 := hca1.trans (by kernel_rfl); simpa [Value.cells] using this) hf1 wt1
  obtain rfl : ca1 = #[.int .i64 v1.n, .int .i64 v1.mail.id, .string (S v1.mail.chan), .slice a1 v1.mail.key.length c1, .slice b1 v1.mail.fields.length e1, .int .i64 v1.reason] := Array.ext' (by simpa [Value.cells] using et1)
  clear hA0 hval0
  refine (deadOwn_walk l0 sa0 sc0 v1 a1 c1 b1 e1 W lb0 na0 va0 h11 h21 h31 h41 h51).mono fun e W' ⟨he, bel⟩ => ?_
  subst he
  exact ⟨_, rfl, _, _, _, [], _, [], hW', trodAll_mk1 (shut_bool Try.underlying4 _), (trodAll_cons_mk (Below.trod laidOut (by kernel_rfl) (of_decide_eq_true (by kernel_rfl)) k0 bel lt0) (trodAll_cons_mk (Below.trod laidOut (by kernel_rfl) (of_decide_eq_true (by kernel_rfl)) k1 bel lt1) trodAll_mk0)), rfl, bel.frame _, fun h => by cases h⟩

theorem over : Rows.deadOwnRow.holds Try.pinned (OpenSpec.ofChange Rows.deadOwnSpec) :=
  OpenClaim.holds_of_wide 5 Try.f5 rfl rfl rfl rfl rfl rfl rfl ⟨rfl, rfl, rfl, rfl, rfl⟩ rfl rfl rfl rfl rfl (by kernel_rfl) Try.func5 (by kernel_rfl)
    (of_decide_eq_true (by kernel_rfl)) (by unfold Func.isWrapper; first | (rw [if_pos (by decide +kernel)]; kernel_rfl) | (rw [if_neg (by decide +kernel)]; exact ⟨rfl, rfl⟩))
    (fun os started H enc _ => lifted os started H enc)

/-- The statement. -/
theorem proved : Rows.DeadOwnSaid :=
  over
#print axioms proved
end Go.Proofs.Ytfkmpegbidojoaa.deadOwn
