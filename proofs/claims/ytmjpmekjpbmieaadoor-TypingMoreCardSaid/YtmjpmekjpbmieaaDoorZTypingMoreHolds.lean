/-
  'TypingMore' returns true for every input, and leaves its arguments as they were. No condition. (The card: the tables of Go's library, and of the program, that the row lists are tied to the program's text.)
-/
import Derived.Test.YtmjpmekjpbmieaaDoorCards
import Derived.Test.YtmjpmekjpbmieaaDoorTie
import Derived.Test.YtmjpmekjpbmieaaDoorZTyMoreW
import Derived.Test.YtmjpmekjpbmieaaDoorZTyOpen
import Derived.Test.YtmjpmekjpbmieaaDoorZTyLaid
import Derived.ProofKit
import Derived.OpenShut
import Derived.ShutString
import Derived.ChangeOld
import Derived.Below
import Derived.Carry
import Derived.LaidMore
import Derived.Lay
import Derived.SevenTiedAt
import Derived.SizedLaws
import Derived.Stop.Joined
import Derived.Lib.SmallJoins
namespace Go.Proofs.YtmjpmekjpbmieaaDoor.typingMore
open Go.ChangeShapes Go.WideShapes Go.ChangeAt Go.RowKit
open Go.ChangeMaps (open_string shut_string)
open Go.Joins (open_agg3)
set_option linter.unusedVariables false

theorem own : ownKnob Tryd.prog.godebug = none := by kernel_rfl
theorem laidOut : laidOutB Tryd.prog = true := by kernel_rfl

set_option maxRecDepth 100000 in
theorem lifted (os : Os) (started : os.Started) (H : Type) (enc : TypeId × Value → H) :
    ReturnsInHanded {} Tryd.checked os 4 .any (fun w args => (Rows.typingMoreSpec.pre enc Tryd.prog Tryd.f4 Rows.typingMoreRow.domain false w args ∧ laidMetH Tryd.prog Rows.typingMoreRow.laid w) ∧ sizedMet enc Tryd.prog Tryd.f4 (OpenSpec.ofChange Rows.typingMoreSpec) false w args)
      (Rows.typingMoreSpec.post enc Tryd.prog Tryd.f4 false true false false) := by
  refine returnsInHanded_of_change_and (C := Tryd.checked) (X := fun w _ => laidMetH Tryd.prog Rows.typingMoreRow.laid w) (fun _ _ _ hh h => h.of_heap hh) own started (by kernel_rfl) Tryd.func4
    (ChangeSpec.witness_shaped (enc := enc) (C := Tryd.checked) (os := os) (X := fun w _ => laidMetH Tryd.prog Rows.typingMoreRow.laid w) false (World.laidAll Tryd.prog os Rows.typingMoreRow.laid) #[.agg #[.slice none 0 0, .slice none 0 0, .slice none 0 0], .agg #[.slice none 0 0, .slice none 0 0, .slice none 0 0], .agg #[.int .i64 0, .int .i64 0, .string ByteArray.empty, .slice none 0 0]] 8 (World.laidAll_os _ _ _)
      (World.shaped_of_ZipB (by kernel_rfl) (by kernel_rfl)) (by kernel_rfl) (by kernel_rfl) (by kernel_rfl)
      (by rw [MakeChecks.laidMetH_plain _ _ _ (by kernel_rfl)]; exact laidMet_laidAll _ (by kernel_rfl) (by kernel_rfl))) ?_
  intro W base args ds gs before hval0 hW hcnd hsz0 hL0 _
  have hLaid := laid_typingMore W hL0
  have hval : ∀ (j : Nat) t v, Tryd.f4.params[j]? = some t → args[j]? = some v → Value.okWide Tryd.prog W .any base t v := hval0
  have hsz : (DataW.weightsEach Tryd.prog (Tryd.f4.params.toList ++ Rows.typingMoreSpec.plain.varTypes Tryd.prog) (ds ++ gs)).all (· ≤ reachBytes) = true := hsz0
  have hW' := hW
  obtain ⟨p, q, hA0, hV, rfl, hfz, hnd⟩ := hW
  have hA : DataW.TrodAll enc Tryd.prog W 0 (fun _ => true) true Tryd.f4.params.toList args.toList ds p := hA0
  rw [Tryd.params4] at hA hval hsz
  obtain ⟨v0, vs0, d0, ds0, p0, q0, hargs, rfl, rfl, h0, r0⟩ := trodAll_cons hA
  obtain ⟨v1, vs1, d1, ds1, p1, q1, rfl, rfl, rfl, h1, r1⟩ := trodAll_cons r0
  obtain ⟨v2, vs2, d2, ds2, p2, q2, rfl, rfl, rfl, h2, r2⟩ := trodAll_cons r1
  obtain ⟨rfl, rfl, rfl⟩ := trodAll_nil r2
  obtain rfl : args = #[v0, v1, v2] := by cases args; simp_all
  obtain ⟨rfl, rfl⟩ := trodVars_none hV
  have hrb : reachBytes ≤ 140737488355328 := by decide
  have k0 := h0
  have lt0 : ∀ x ∈ p0, x.block < W.heap.size := by obtain ⟨m, hm⟩ := k0; exact DataW.trod_lt m _ _ _ hm
  have wt0 : Ty.Wt 25 d0 := fun m hm => Nat.le_trans (by have := List.all_eq_true.1 hsz _ (DataW.weights_mem_each (j := 0) rfl rfl m hm); simpa using this) hrb
  have k1 := h1
  have lt1 : ∀ x ∈ p1, x.block < W.heap.size := by obtain ⟨m, hm⟩ := k1; exact DataW.trod_lt m _ _ _ hm
  have wt1 : Ty.Wt 25 d1 := fun m hm => Nat.le_trans (by have := List.all_eq_true.1 hsz _ (DataW.weights_mem_each (j := 1) rfl rfl m hm); simpa using this) hrb
  have k2 := h2
  have lt2 : ∀ x ∈ p2, x.block < W.heap.size := by obtain ⟨m, hm⟩ := k2; exact DataW.trod_lt m _ _ _ hm
  have wt2 : Ty.Wt 28 d2 := fun m hm => Nat.le_trans (by have := List.all_eq_true.1 hsz _ (DataW.weights_mem_each (j := 2) rfl rfl m hm); simpa using this) hrb
  obtain ⟨c0a, c0b, c0c, y0a, y0b, y0c, m0, ea0, rfl, _, e0a, e0b, e0c⟩ := open_agg3 Tryd.underlying25 (by kernel_rfl) (by kernel_rfl) (hval 0 25 v0 rfl rfl) h0
  obtain ⟨l0a, pe0, ce0, ga0, la0, na0, sa0⟩ := Ty.enums_open e0a (wt0.field (j := 0) Tryd.underlying25 rfl rfl)
  obtain ⟨l0b, pa0, ca0, gb0, lb0, nb0, sb0⟩ := Ty.attrs_open e0b (wt0.field (j := 1) Tryd.underlying25 rfl rfl)
  obtain ⟨l0c, pf0, cf0, gc0, lc0, nc0, sc0⟩ := Ty.attrs_open e0c (wt0.field (j := 2) Tryd.underlying25 rfl rfl)
  simp only [List.cons.injEq, and_true] at ga0 gb0 gc0
  subst ga0 gb0 gc0 ea0
  obtain ⟨c1a, c1b, c1c, y1a, y1b, y1c, m1, ea1, rfl, _, e1a, e1b, e1c⟩ := open_agg3 Tryd.underlying25 (by kernel_rfl) (by kernel_rfl) (hval 1 25 v1 rfl rfl) h1
  obtain ⟨l1a, pe1, ce1, ga1, la1, na1, sa1⟩ := Ty.enums_open e1a (wt1.field (j := 0) Tryd.underlying25 rfl rfl)
  obtain ⟨l1b, pa1, ca1, gb1, lb1, nb1, sb1⟩ := Ty.attrs_open e1b (wt1.field (j := 1) Tryd.underlying25 rfl rfl)
  obtain ⟨l1c, pf1, cf1, gc1, lc1, nc1, sc1⟩ := Ty.attrs_open e1c (wt1.field (j := 2) Tryd.underlying25 rfl rfl)
  simp only [List.cons.injEq, and_true] at ga1 gb1 gc1
  subst ga1 gb1 gc1 ea1
  obtain ⟨ca2, rfl, hca2⟩ := okWide_struct Tryd.underlying28 (hval 2 28 v2 rfl rfl)
  obtain ⟨fuel2, hf2⟩ := h2
  obtain ⟨t2, pt2, ct2, et2, hfn2, hfa2⟩ := Ty.expr_open fuel2 _ _ (by have : ca2.size = 4 := hca2.trans (by kernel_rfl); simpa [Value.cells] using this) hf2 wt2
  obtain rfl : ca2 = #[.int .i64 t2.op, .int .i64 t2.num, .string (S t2.text), .slice pt2 t2.args.len ct2] := Array.ext' (by simpa [Value.cells] using et2)
  clear hA0 hval0
  simp only [List.append_nil] at hW'
  refine (Ty.TypingMore_walk ⟨l0a, l0b, l0c⟩ pe0 pa0 pf0 ce0 ca0 cf0 ⟨l1a, l1b, l1c⟩ pe1 pa1 pf1 ce1 ca1 cf1 t2 pt2 ct2 W ⟨na0, nb0, nc0⟩ ⟨la0, lb0, lc0, sa0, sb0, sc0⟩ ⟨na1, nb1, nc1⟩ ⟨la1, lb1, lc1, sa1, sb1, sc1⟩ hfa2 hfn2.1 hfn2.2 hLaid.1 hLaid.2).mono fun e W' ⟨he, bel⟩ => ?_
  subst he
  exact ⟨_, rfl, _, _, _, [], _, [], hW', trodAll_mk1 (shut_bool Tryd.underlying4 _), (trodAll_cons_mk (Below.trod laidOut (by kernel_rfl) (of_decide_eq_true (by kernel_rfl)) k0 bel lt0) (trodAll_cons_mk (Below.trod laidOut (by kernel_rfl) (of_decide_eq_true (by kernel_rfl)) k1 bel lt1) (trodAll_cons_mk (Below.trod laidOut (by kernel_rfl) (of_decide_eq_true (by kernel_rfl)) k2 bel lt2) trodAll_mk0))), rfl, bel.frame _, fun h => by cases h⟩

theorem said : Rows.TypingMoreSaid :=
  OpenClaim.holds_of_wide 4 Tryd.f4 rfl rfl rfl rfl rfl rfl rfl ⟨rfl, rfl, rfl, rfl, rfl⟩ rfl rfl rfl rfl rfl (by kernel_rfl) Tryd.func4 (by kernel_rfl)
    (of_decide_eq_true (by kernel_rfl)) (by unfold Func.isWrapper; first | (rw [if_pos (by decide +kernel)]; kernel_rfl) | (rw [if_neg (by decide +kernel)]; exact ⟨rfl, rfl⟩))
    (fun os started H enc _ => lifted os started H enc)

/-- No parameter wants a stand-in. -/
theorem plain (f : FuncId) (fn : Func) (hf : Tryd.pinned.checked.prog.funcNamed "switchyard/switchyardlaw09.TypingMore" = some f) (hfn : Tryd.pinned.checked.prog.funcs[f]? = some fn) :
    false = Tryd.pinned.checked.prog.looks [] ∧ ∀ (j : Nat) t, fn.params[j]? = some t → Tryd.pinned.checked.prog.wantsStandIn t = false := by
  obtain rfl : f = 4 := Option.some.inj ((show Tryd.prog.funcNamed "switchyard/switchyardlaw09.TypingMore" = some 4 by kernel_rfl).symm.trans hf) |>.symm
  obtain rfl : fn = Tryd.f4 := (Option.some.inj (Tryd.func4.symm.trans hfn)).symm
  refine ⟨by kernel_rfl, fun j t ht => ?_⟩
  rw [Tryd.params4] at ht
  have hm : t ∈ [25, 25, 28] := by simpa using Array.mem_of_getElem? ht
  have hall : ([25, 25, 28].all fun u => !Tryd.prog.wantsStandIn u) = true := by kernel_rfl
  exact (show Tryd.prog.wantsStandIn t = false by simpa using List.all_eq_true.1 hall t hm)

/-- The card. -/
theorem proved : Rows.TypingMoreCardSaid :=
  Claim7.holds_tied_plain_at .later [] _ _ _ _ said (fun _ h => by cases h) (by kernel_rfl) (fun _ h => by cases h) typingMore_row_tie rfl ⟨rfl, rfl⟩ (by kernel_rfl) rfl plain (by kernel_rfl)
#print axioms proved
end Go.Proofs.YtmjpmekjpbmieaaDoor.typingMore
