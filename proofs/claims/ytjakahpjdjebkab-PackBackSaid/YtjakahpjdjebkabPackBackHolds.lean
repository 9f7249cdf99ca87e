/-
  'PackBack' returns true for every input, and leaves its arguments as they were. No condition.
-/
import Derived.Test.YtjakahpjdjebkabRows
import Derived.Test.YtjakahpjdjebkabPkThingsBack
import Derived.ChangeOld
import Derived.Below
import Derived.ProofKit
import Derived.OpenShut
import Derived.ShutString
import Derived.Deep.Slices
namespace Go.Proofs.Ytjakahpjdjebkab.packBack
open Go.ChangeShapes Go.WideShapes Go.ChangeAt Go.RowKit
set_option linter.unusedVariables false
open Pk (Th Row3 ThOk)

theorem own : ownKnob Try.prog.godebug = none := by kernel_rfl
theorem laidOut : laidOutB Try.prog = true := by kernel_rfl
theorem cells32 : Try.prog.cellsOf 32 = 3 := by kernel_rfl
theorem cellsI : Try.prog.cellsOf 3 = 1 := by kernel_rfl
theorem cellsU : Try.prog.cellsOf 22 = 1 := by kernel_rfl
theorem cellsS : Try.prog.cellsOf 9 = 1 := by kernel_rfl

theorem one_of {cs : List Value} (h : cs.length = 3) : ∃ a b c, cs = [a, b, c] := by
  match cs, h with
  | [a, b, c], _ => exact ⟨a, b, c, rfl⟩

/-- A thing among the arguments: its three cells. -/
theorem open_thing {H : Type} {enc : TypeId × Value → H} {w : World} {base : Nat} {spare : Nat → Bool} {held : Bool} {n : Nat} {a : Addr} {cs : List Value} {x : DataW H × List MemPlace}
    (hc : w.cells? base a 3 = some cs) (ht : DataW.trod enc Try.prog w base spare held n 32 cs = some x) :
    ∃ t : Th, ThOk t ∧ w.cell? (a.add 0) = some (.int .i64 t.what) ∧ w.cell? (a.add 1) = some (.int .u64 (t.n : Int)) ∧ w.cell? (a.add 2) = some (.string t.s) := by
  obtain ⟨_, hlen, hat⟩ := World.cells?_some hc
  obtain ⟨c0, c1, c2, rfl⟩ := one_of hlen
  obtain ⟨ys, m, _, _, _, hyl, hf⟩ := DataW.trod_struct Try.underlying32 ht
  have f0 := hf 0 _ rfl
  have f1 := hf 1 _ rfl
  have f2 := hf 2 _ rfl
  change DataW.trod _ _ _ _ _ _ _ 3 (([c0, c1, c2].drop 0).take (Try.prog.cellsOf 3)) = _ at f0
  change DataW.trod _ _ _ _ _ _ _ 22 (([c0, c1, c2].drop 1).take (Try.prog.cellsOf 22)) = _ at f1
  change DataW.trod _ _ _ _ _ _ _ 9 (([c0, c1, c2].drop 2).take (Try.prog.cellsOf 9)) = _ at f2
  rw [cellsI] at f0
  rw [cellsU] at f1
  rw [cellsS] at f2
  simp only [List.drop_zero, List.drop_succ_cons, List.take_succ_cons, List.take_zero] at f0 f1 f2
  have hyl : ys.length = 3 := hyl
  rw [List.getElem?_eq_getElem (by omega)] at f0 f1 f2
  obtain ⟨v0, e0, _, _⟩ := DataW.trod_int Try.underlying3 f0
  obtain ⟨v1, e1, _, w1⟩ := DataW.trod_int Try.underlying22 f1
  obtain ⟨s, e2, _, w2⟩ := DataW.trod_string Try.underlying9 f2
  simp only [List.cons.injEq, and_true] at e0 e1 e2
  subst e0 e1 e2
  have hv : 0 ≤ v1 ∧ v1 < 18446744073709551616 := by
    simp [Lit.wf, IntKind.min, IntKind.max, IntKind.signed, IntKind.bits] at w1; omega
  obtain ⟨N, rfl⟩ := Int.eq_ofNat_of_zero_le hv.1
  exact ⟨⟨v0, N, s⟩, ⟨by simp only; omega, w2⟩, hat 0 (by omega), hat 1 (by omega), hat 2 (by omega)⟩

instance : Inhabited Th := ⟨⟨0, 0, ByteArray.empty⟩⟩

theorem walk {H : Type} {enc : TypeId × Value → H} (a : Option Addr) (len cap : Nat) {n : Nat} {x : DataW H × List MemPlace} (w : World)
    (h : DataW.trod enc Try.prog w 0 (fun _ => true) true n 30 [.slice a len cap] = some x) :
    Calls Try.prog 4 #[.slice a len cap] w fun e w' => e = .returned (.bool true) ∧ Below w.heap.size w w' := by
  rcases Go.Deep.open_slice Try.underlying30 h with ⟨hcs, _⟩ | ⟨p, l, c, m, n', D, Pl, hcs, _, hl, hm, hmm, _, hi⟩
  · simp only [List.cons.injEq, Value.slice.injEq, and_true] at hcs
    obtain ⟨rfl, rfl, rfl⟩ := hcs
    exact Pk.PackBack_none _ _ _
  · simp only [List.cons.injEq, Value.slice.injEq, and_true] at hcs
    obtain ⟨rfl, rfl, rfl⟩ := hcs
    simp only [if_true] at hmm
    rw [hmm] at hi
    by_cases hz : len = 0
    · subst hz
      exact Pk.PackBack_none _ _ _
    · rw [cells32] at hi
      obtain ⟨T, hT⟩ := Go.Deep.choose_lt (α := Th) (n := len) (p := fun i t => ThOk t ∧ w.cell? ((p.add (i * 3)).add 0) = some (.int .i64 t.what) ∧ w.cell? ((p.add (i * 3)).add 1) = some (.int .u64 (t.n : Int)) ∧ w.cell? ((p.add (i * 3)).add 2) = some (.string t.s)) (fun i h => by
        obtain ⟨cs', h1, h2⟩ := hi i (by omega)
        exact open_thing h1 h2)
      obtain ⟨b, off, spot⟩ := p
      have h0 := (hT 0 (by omega)).2.1
      have hspot : spot = none := by simpa [Addr.add] using World.cell?_spot h0
      subst hspot
      have hadd : ∀ i j : Nat, ((⟨b, off, none⟩ : Addr).add i).add j = ⟨b, off + i + j, none⟩ := by
        intro i j
        unfold Addr.add
        by_cases hi : i = 0 <;> by_cases hj : j = 0 <;> simp [hi, hj]
      refine Pk.PackBack_some b off len cap T (by omega) hl hm w ?_ (fun i h => (hT i h).1)
      intro i h
      obtain ⟨_, h1, h2, h3⟩ := hT i h
      rw [hadd] at h1 h2 h3
      exact ⟨h1, h2, h3⟩

set_option maxRecDepth 100000 in
theorem lifted (os : Os) (started : os.Started) (H : Type) (enc : TypeId × Value → H) :
    ReturnsInHanded {} Try.checked os 4 .any (Rows.packBackSpec.pre6 enc Try.prog Try.f4 Rows.packBackRow.domain false) (Rows.packBackSpec.post enc Try.prog Try.f4 false true false false) := by
  refine returnsInHanded_of_change (C := Try.checked) own started (by kernel_rfl) Try.func4
    (ChangeSpec.witness6 (enc := enc) (C := Try.checked) false ⟨#[], #[.slice none 0 0], []⟩ 8 (by kernel_rfl) (by kernel_rfl) (by kernel_rfl) (by kernel_rfl)) ?_
  intro W base args ds gs before hval0 hW hcnd _
  have hval : ∀ (j : Nat) t v, Try.f4.params[j]? = some t → args[j]? = some v → Value.okWide Try.prog W .any base t v := hval0
  have hW' := hW
  obtain ⟨p, q, hA0, hV, rfl, hfz, hnd⟩ := hW
  have hA : DataW.TrodAll enc Try.prog W 0 (fun _ => true) true Try.f4.params.toList args.toList ds p := hA0
  rw [Try.params4] at hA hval
  obtain ⟨v0, vs0, d0, ds0, p0, q0, hargs, rfl, rfl, h0, r0⟩ := trodAll_cons hA
  obtain ⟨rfl, rfl, rfl⟩ := trodAll_nil r0
  obtain rfl : args = #[v0] := by cases args; simp_all
  obtain ⟨rfl, rfl⟩ := trodVars_none hV
  obtain ⟨a0, len0, cap0, rfl⟩ := okWide_slice Try.underlying30 (hval 0 30 v0 rfl rfl)
  have k0 := h0
  have lt0 : ∀ x ∈ p0, x.block < W.heap.size := by obtain ⟨m, hm⟩ := k0; exact DataW.trod_lt m _ _ _ hm
  obtain ⟨fuel, hf⟩ := h0
  clear hA0 hval0
  refine (walk a0 len0 cap0 W (by simpa [Value.cells] using hf)).mono fun e W' ⟨he, bel⟩ => ?_
  subst he
  exact ⟨_, rfl, _, _, _, [], _, [], hW', trodAll_mk1 (shut_bool Try.underlying4 _), (trodAll_cons_mk (Below.trod laidOut (by kernel_rfl) (of_decide_eq_true (by kernel_rfl)) k0 bel lt0) trodAll_mk0), rfl, bel.frame _, fun h => by cases h⟩

theorem over : Rows.packBackRow.holds Try.pinned (OpenSpec.ofChange Rows.packBackSpec) :=
  OpenClaim.holds_of_wide 4 Try.f4 rfl rfl rfl rfl rfl rfl rfl ⟨rfl, rfl, rfl, rfl, rfl⟩ rfl rfl rfl rfl rfl (by kernel_rfl) Try.func4 (by kernel_rfl)
    (of_decide_eq_true (by kernel_rfl)) (by unfold Func.isWrapper; first | (rw [if_pos (by decide +kernel)]; kernel_rfl) | (rw [if_neg (by decide +kernel)]; exact ⟨rfl, rfl⟩))
    (fun os started H enc _ => lifted os started H enc)

/-- The statement. -/
theorem proved : Rows.PackBackSaid :=
  over
#print axioms proved
end Go.Proofs.Ytjakahpjdjebkab.packBack
