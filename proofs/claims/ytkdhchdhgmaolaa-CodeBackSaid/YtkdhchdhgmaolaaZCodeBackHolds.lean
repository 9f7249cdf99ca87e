/-
  'CodeBack' returns true for every input, and leaves its arguments as they were. No condition.
-/
import Derived.Test.YtkdhchdhgmaolaaRows
import Derived.Test.YtkdhchdhgmaolaaZCdBackW
import Derived.Test.YtkdhchdhgmaolaaZTzE
import Derived.ProofKit
import Derived.OpenShut
import Derived.ShutString
import Derived.ChangeOld
import Derived.Below
import Derived.SizedLaws
import Derived.Lib.SmallJoins
namespace Go.Proofs.Ytkdhchdhgmaolaa.codeBack
open Go.ChangeShapes Go.WideShapes Go.ChangeAt Go.RowKit
open Go.ChangeMaps (open_string shut_string)
open Cd
set_option linter.unusedVariables false
set_option linter.unusedSimpArgs false

theorem own : ownKnob Try.prog.godebug = none := by kernel_rfl
theorem laidOut : laidOutB Try.prog = true := by kernel_rfl

set_option maxRecDepth 100000 in
theorem lifted (os : Os) (started : os.Started) (H : Type) (enc : TypeId × Value → H) :
    ReturnsInHanded {} Try.checked os 5 .any (Rows.codeBackSpec.pre6 enc Try.prog Try.f5 Rows.codeBackRow.domain false) (Rows.codeBackSpec.post enc Try.prog Try.f5 false true false false) := by
  refine returnsInHanded_of_change_sized (C := Try.checked) own started (by kernel_rfl) Try.func5
    (ChangeSpec.witness6 (enc := enc) (C := Try.checked) false ⟨#[], #[.agg #[.int .i64 0, .int .i64 0, .string ByteArray.empty, .slice none 0 0], .agg #[.int .i64 0, .string ByteArray.empty, .string ByteArray.empty, .int .i64 0, .slice none 0 0, .slice none 0 0, .slice none 0 0], .agg #[.int .i64 0, .int .i64 0, .string ByteArray.empty, .slice none 0 0, .slice none 0 0, .int .i64 0]], []⟩ 8 (by kernel_rfl) (by kernel_rfl) (by kernel_rfl) (by kernel_rfl)) ?_
  intro W base args ds gs before hval0 hW hcnd hsz0 _
  have hval : ∀ (j : Nat) t v, Try.f5.params[j]? = some t → args[j]? = some v → Value.okWide Try.prog W .any base t v := hval0
  have hsz : (DataW.weightsEach Try.prog (Try.f5.params.toList ++ Rows.codeBackSpec.plain.varTypes Try.prog) (ds ++ gs)).all (· ≤ reachBytes) = true := hsz0
  have hW' := hW
  obtain ⟨p, q, hA0, hV, rfl, hfz, hnd⟩ := hW
  have hA : DataW.TrodAll enc Try.prog W 0 (fun _ => true) true Try.f5.params.toList args.toList ds p := hA0
  rw [Try.params5] at hA hval hsz
  obtain ⟨u0, vs0, d0, ds0, p0, q0, hargs, rfl, rfl, h0, r0⟩ := trodAll_cons hA
  obtain ⟨u1, vs1, d1, ds1, p1, q1, rfl, rfl, rfl, h1, r1⟩ := trodAll_cons r0
  obtain ⟨u2, vs2, d2, ds2, p2, q2, rfl, rfl, rfl, h2, r2⟩ := trodAll_cons r1
  obtain ⟨rfl, rfl, rfl⟩ := trodAll_nil r2
  obtain rfl : args = #[u0, u1, u2] := by cases args; simp_all
  obtain ⟨rfl, rfl⟩ := trodVars_none hV
  have hrb : reachBytes ≤ 140737488355328 := by decide
  have k0 := h0
  have lt0 : ∀ x ∈ p0, x.block < W.heap.size := by obtain ⟨m, hm⟩ := k0; exact DataW.trod_lt m _ _ _ hm
  have wt0 : Wt 25 d0 := fun m hm => Nat.le_trans (by have := List.all_eq_true.1 hsz _ (DataW.weights_mem_each (j := 0) rfl rfl m hm); simpa using this) hrb
  have k1 := h1
  have lt1 : ∀ x ∈ p1, x.block < W.heap.size := by obtain ⟨m, hm⟩ := k1; exact DataW.trod_lt m _ _ _ hm
  have wt1 : Wt 41 d1 := fun m hm => Nat.le_trans (by have := List.all_eq_true.1 hsz _ (DataW.weights_mem_each (j := 1) rfl rfl m hm); simpa using this) hrb
  have k2 := h2
  have lt2 : ∀ x ∈ p2, x.block < W.heap.size := by obtain ⟨m, hm⟩ := k2; exact DataW.trod_lt m _ _ _ hm
  have wt2 : Wt 51 d2 := fun m hm => Nat.le_trans (by have := List.all_eq_true.1 hsz _ (DataW.weights_mem_each (j := 2) rfl rfl m hm); simpa using this) hrb
  obtain ⟨ca0, rfl, hca0⟩ := okWide_struct Try.underlying25 (hval 0 25 u0 rfl rfl)
  obtain ⟨fuel0, hf0⟩ := h0
  obtain ⟨v0, a0, c0, et0, h10, h20⟩ := val_open (by have : ca0.size = 4 := hca0.trans (by kernel_rfl); simpa [Value.cells] using this) hf0 wt0
  obtain rfl : ca0 = #[.int .i64 v0.kind, .int .i64 v0.num, .string (S v0.text), .slice a0 v0.list.length c0] := Array.ext' (by simpa [Value.cells] using et0)
  obtain ⟨ca1, rfl, hca1⟩ := okWide_struct Try.underlying41 (hval 1 41 u1 rfl rfl)
  obtain ⟨fuel1, hf1⟩ := h1
  obtain ⟨v1, a1, c1, b1, e1, f1, g1, et1, h11, h21, h31, h41⟩ := item_open (by have : ca1.size = 7 := hca1.trans (by kernel_rfl); simpa [Value.cells] using this) hf1 wt1
  obtain rfl : ca1 = #[.int .i64 v1.id, .string (S v1.typ), .string (S v1.state), .int .i64 v1.since, .slice a1 v1.attrs.length c1, .slice b1 v1.counts.length e1, .slice f1 v1.box.length g1] := Array.ext' (by simpa [Value.cells] using et1)
  obtain ⟨ca2, rfl, hca2⟩ := okWide_struct Try.underlying51 (hval 2 51 u2 rfl rfl)
  obtain ⟨fuel2, hf2⟩ := h2
  obtain ⟨v2, a2, c2, b2, e2, et2, h12, h22, h32, h42, h52⟩ := dead_open (by have : ca2.size = 6 := hca2.trans (by kernel_rfl); simpa [Value.cells] using this) hf2 wt2
  obtain rfl : ca2 = #[.int .i64 v2.n, .int .i64 v2.mail.id, .string (S v2.mail.chan), .slice a2 v2.mail.key.length c2, .slice b2 v2.mail.fields.length e2, .int .i64 v2.reason] := Array.ext' (by simpa [Value.cells] using et2)
  clear hA0 hval0
  refine (CodeBack_door v0 a0 c0 v1 a1 c1 b1 e1 f1 g1 v2 a2 c2 b2 e2 W h10 h20 h11 h21 h31 h41 h12 h22 h32 h42 h52).mono fun e W' ⟨he, bel⟩ => ?_
  subst he
  exact ⟨_, rfl, _, _, _, [], _, [], hW', trodAll_mk1 (shut_bool Try.underlying4 _), (trodAll_cons_mk (Below.trod laidOut (by kernel_rfl) (of_decide_eq_true (by kernel_rfl)) k0 bel lt0) (trodAll_cons_mk (Below.trod laidOut (by kernel_rfl) (of_decide_eq_true (by kernel_rfl)) k1 bel lt1) (trodAll_cons_mk (Below.trod laidOut (by kernel_rfl) (of_decide_eq_true (by kernel_rfl)) k2 bel lt2) trodAll_mk0))), rfl, bel.frame _, fun h => by cases h⟩

theorem over : Rows.codeBackRow.holds Try.pinned (OpenSpec.ofChange Rows.codeBackSpec) :=
  OpenClaim.holds_of_wide 5 Try.f5 rfl rfl rfl rfl rfl rfl rfl ⟨rfl, rfl, rfl, rfl, rfl⟩ rfl rfl rfl rfl rfl (by kernel_rfl) Try.func5 (by kernel_rfl)
    (of_decide_eq_true (by kernel_rfl)) (by unfold Func.isWrapper; first | (rw [if_pos (by decide +kernel)]; kernel_rfl) | (rw [if_neg (by decide +kernel)]; exact ⟨rfl, rfl⟩))
    (fun os started H enc _ => lifted os started H enc)

/-- The statement. -/
theorem proved : Rows.CodeBackSaid :=
  over
#print axioms proved
end Go.Proofs.Ytkdhchdhgmaolaa.codeBack
