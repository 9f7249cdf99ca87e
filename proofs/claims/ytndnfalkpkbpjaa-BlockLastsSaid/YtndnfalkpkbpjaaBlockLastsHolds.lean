/-
  'BlockLasts' returns true for every input, and leaves its arguments as they were. No condition.
-/
import Derived.Test.YtndnfalkpkbpjaaRows
import Derived.Test.YtndnfalkpkbpjaaBkLawLasts
import Derived.ChangeOld
import Derived.Below
import Derived.ProofKit
import Derived.OpenShut
import Derived.ShutString
import Derived.Deep.Slices
import Derived.Lib.SmallJoins
namespace Go.Proofs.Ytndnfalkpkbpjaa.blockLasts
open Go.ChangeShapes Go.WideShapes Go.ChangeAt Go.RowKit
open Go.Joins (open_agg3)
set_option linter.unusedVariables false
open Bk (Strs)

theorem own : ownKnob Try.prog.godebug = none := by kernel_rfl
theorem laidOut : laidOutB Try.prog = true := by kernel_rfl
theorem cellsS : Try.prog.cellsOf 9 = 1 := by kernel_rfl
theorem cellsC : Try.prog.cellsOf 30 = 3 := by kernel_rfl

/-- A row of texts among the arguments. -/
theorem strs_open {H : Type} {enc : TypeId × Value → H} {w : World} {fuel : Nat} {a : Option Addr} {len cap : Nat} {x : DataW H × List MemPlace}
    (h : DataW.trod enc Try.prog w 0 (fun _ => true) true fuel 46 [.slice a len cap] = some x) : ∃ T, Strs w a len T := by
  rcases Go.Deep.open_slice1 Try.underlying46 cellsS h with ⟨hcs, _⟩ | ⟨p, l, c, m, n, V, D, Pl, hcs, _, hl, _, hmm, _, hi⟩
  · simp only [List.cons.injEq, Value.slice.injEq, and_true] at hcs
    obtain ⟨rfl, rfl, rfl⟩ := hcs
    exact ⟨fun _ => ByteArray.empty, fun i h => by omega⟩
  · simp only [List.cons.injEq, Value.slice.injEq, and_true] at hcs
    obtain ⟨rfl, rfl, rfl⟩ := hcs
    simp only [if_true] at hmm
    rw [hmm] at hi
    obtain ⟨T, hT⟩ := Go.Deep.choose_lt (α := ByteArray) (n := len) (p := fun i t => w.cell? (p.add i) = some (.string t)) (fun i h => by
      obtain ⟨h1, h2⟩ := hi i (by omega)
      obtain ⟨s, e, _, _⟩ := DataW.trod_string Try.underlying9 h2
      simp only [List.cons.injEq, and_true] at e
      exact ⟨s, by rw [h1, e]⟩)
    refine ⟨T, fun i h => ?_⟩
    have h0 := hT i h
    obtain ⟨b, off, spot⟩ := p
    have hspot : spot = none := by simpa [Addr.add] using World.cell?_spot (hT 0 (by omega))
    subst hspot
    have hadd : ((⟨b, off, none⟩ : Addr).add i) = ⟨b, off + i, none⟩ := by
      unfold Addr.add
      by_cases hi : i = 0 <;> simp [hi]
    rw [hadd] at h0
    exact ⟨b, off, rfl, h0, World.block_lt_of_cell? w _ h0⟩

set_option maxRecDepth 100000 in
theorem lifted (os : Os) (started : os.Started) (H : Type) (enc : TypeId × Value → H) :
    ReturnsInHanded {} Try.checked os 5 .any (Rows.blockLastsSpec.pre6 enc Try.prog Try.f5 Rows.blockLastsRow.domain false) (Rows.blockLastsSpec.post enc Try.prog Try.f5 false true false false) := by
  refine returnsInHanded_of_change (C := Try.checked) own started (by kernel_rfl) Try.func5
    (ChangeSpec.witness6 (enc := enc) (C := Try.checked) false ⟨#[], #[.slice none 0 0, .slice none 0 0, .agg #[.int .u64 0, .int .i64 0, .int .i64 0]], []⟩ 8 (by kernel_rfl) (by kernel_rfl) (by kernel_rfl) (by kernel_rfl)) ?_
  intro W base args ds gs before hval0 hW hcnd _
  have hval : ∀ (j : Nat) t v, Try.f5.params[j]? = some t → args[j]? = some v → Value.okWide Try.prog W .any base t v := hval0
  have hW' := hW
  obtain ⟨p, q, hA0, hV, rfl, hfz, hnd⟩ := hW
  have hA : DataW.TrodAll enc Try.prog W 0 (fun _ => true) true Try.f5.params.toList args.toList ds p := hA0
  rw [Try.params5] at hA hval
  obtain ⟨v0, vs0, d0, ds0, p0, q0, hargs, rfl, rfl, h0, r0⟩ := trodAll_cons hA
  obtain ⟨v1, vs1, d1, ds1, p1, q1, rfl, rfl, rfl, h1, r1⟩ := trodAll_cons r0
  obtain ⟨v2, vs2, d2, ds2, p2, q2, rfl, rfl, rfl, h2, r2⟩ := trodAll_cons r1
  obtain ⟨rfl, rfl, rfl⟩ := trodAll_nil r2
  obtain rfl : args = #[v0, v1, v2] := by cases args; simp_all
  obtain ⟨rfl, rfl⟩ := trodVars_none hV
  have k0 := h0
  have lt0 : ∀ x ∈ p0, x.block < W.heap.size := by obtain ⟨m, hm⟩ := k0; exact DataW.trod_lt m _ _ _ hm
  have k1 := h1
  have lt1 : ∀ x ∈ p1, x.block < W.heap.size := by obtain ⟨m, hm⟩ := k1; exact DataW.trod_lt m _ _ _ hm
  have k2 := h2
  have lt2 : ∀ x ∈ p2, x.block < W.heap.size := by obtain ⟨m, hm⟩ := k2; exact DataW.trod_lt m _ _ _ hm
  obtain ⟨a0, len0, cap0, ea0⟩ := okWide_slice Try.underlying46 (hval 0 46 v0 rfl rfl)
  obtain ⟨a1, len1, cap1, ea1⟩ := okWide_slice Try.underlying46 (hval 1 46 v1 rfl rfl)
  obtain ⟨c20, c21, c22, y20, y21, y22, m2, ea2, _, _, e20, e21, e22⟩ := open_agg3 Try.underlying30 (by kernel_rfl) cellsC (hval 2 30 v2 rfl rfl) h2
  obtain ⟨z20, f20, _, w20⟩ := DataW.trod_int Try.underlying28 e20
  obtain rfl : c20 = _ := by simpa using f20
  have g20 : 0 ≤ z20 ∧ z20 < 18446744073709551616 := by simp [Lit.wf, IntKind.min, IntKind.max, IntKind.signed, IntKind.bits] at w20; omega
  obtain ⟨a20, rfl⟩ := Int.eq_ofNat_of_zero_le g20.1
  obtain ⟨z21, f21, _, w21⟩ := DataW.trod_int Try.underlying3 e21
  obtain rfl : c21 = _ := by simpa using f21
  obtain ⟨z22, f22, _, w22⟩ := DataW.trod_int Try.underlying3 e22
  obtain rfl : c22 = _ := by simpa using f22
  subst ea0 ea1 ea2
  obtain ⟨fuel0, hf0⟩ := h0
  obtain ⟨fuel1, hf1⟩ := h1
  obtain ⟨T0, hT0⟩ := strs_open (a := a0) (len := len0) (cap := cap0) (by simpa [Value.cells] using hf0)
  obtain ⟨T1, hT1⟩ := strs_open (a := a1) (len := len1) (cap := cap1) (by simpa [Value.cells] using hf1)
  clear hA0 hval0
  simp only [List.append_nil] at hW'
  refine (Bk.BlockLasts_walk a0 a1 len0 cap0 len1 cap1 T0 T1 a20 z21 z22 (by omega) W hT0 hT1).mono fun e W' ⟨he, bel⟩ => ?_
  subst he
  exact ⟨_, rfl, _, _, _, [], _, [], hW', trodAll_mk1 (shut_bool Try.underlying4 _), (trodAll_cons_mk (Below.trod laidOut (by kernel_rfl) (of_decide_eq_true (by kernel_rfl)) k0 bel lt0) (trodAll_cons_mk (Below.trod laidOut (by kernel_rfl) (of_decide_eq_true (by kernel_rfl)) k1 bel lt1) (trodAll_cons_mk (Below.trod laidOut (by kernel_rfl) (of_decide_eq_true (by kernel_rfl)) k2 bel lt2) trodAll_mk0))), rfl, bel.frame _, fun h => by cases h⟩

theorem over : Rows.blockLastsRow.holds Try.pinned (OpenSpec.ofChange Rows.blockLastsSpec) :=
  OpenClaim.holds_of_wide 5 Try.f5 rfl rfl rfl rfl rfl rfl rfl ⟨rfl, rfl, rfl, rfl, rfl⟩ rfl rfl rfl rfl rfl (by kernel_rfl) Try.func5 (by kernel_rfl)
    (of_decide_eq_true (by kernel_rfl)) (by unfold Func.isWrapper; first | (rw [if_pos (by decide +kernel)]; kernel_rfl) | (rw [if_neg (by decide +kernel)]; exact ⟨rfl, rfl⟩))
    (fun os started H enc _ => lifted os started H enc)

/-- The statement. -/
theorem proved : Rows.BlockLastsSaid :=
  over
#print axioms proved
end Go.Proofs.Ytndnfalkpkbpjaa.blockLasts
