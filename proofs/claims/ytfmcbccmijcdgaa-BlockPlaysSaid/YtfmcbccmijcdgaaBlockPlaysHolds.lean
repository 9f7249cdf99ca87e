/-
  'BlockPlays' returns true for every input, and leaves its arguments as they were. No condition.
-/
import Derived.Test.YtfmcbccmijcdgaaRows
import Derived.Test.YtfmcbccmijcdgaaBkLawPlays
import Derived.ChangeOld
import Derived.Below
import Derived.ProofKit
import Derived.OpenShut
import Derived.ShutString
import Derived.Deep.Slices
import Derived.Lib.SmallJoins
namespace Go.Proofs.Ytfmcbccmijcdgaa.blockPlays
open Go.ChangeShapes Go.WideShapes Go.ChangeAt Go.RowKit
open Go.Joins (open_agg3)
set_option linter.unusedVariables false
open Bk (ActP ActsP)

theorem own : ownKnob Try.prog.godebug = none := by kernel_rfl
theorem laidOut : laidOutB Try.prog = true := by kernel_rfl
theorem cellsS : Try.prog.cellsOf 9 = 1 := by kernel_rfl
theorem cellsC : Try.prog.cellsOf 30 = 3 := by kernel_rfl

theorem cells32 : Try.prog.cellsOf 32 = 7 := by kernel_rfl
theorem cellsI : Try.prog.cellsOf 3 = 1 := by kernel_rfl
theorem cellsU : Try.prog.cellsOf 28 = 1 := by kernel_rfl

theorem three_of {cs : List Value} (h : cs.length = 3) : ∃ a b c, cs = [a, b, c] := by
  match cs, h with
  | [a, b, c], _ => exact ⟨a, b, c, rfl⟩
theorem seven_of {cs : List Value} (h : cs.length = 7) : ∃ a b c d e f g, cs = [a, b, c, d, e, f, g] := by
  match cs, h with
  | [a, b, c, d, e, f, g], _ => exact ⟨a, b, c, d, e, f, g, rfl⟩

/-- A loss of power among the arguments: its three cells. -/
theorem open_crash {H : Type} {enc : TypeId × Value → H} {w : World} {base : Nat} {spare : Nat → Bool} {held : Bool} {n : Nat} {c0 c1 c2 : Value} {x : DataW H × List MemPlace}
    (ht : DataW.trod enc Try.prog w base spare held n 30 [c0, c1, c2] = some x) :
    ∃ (keep : Nat) (torn at_ : Int), c0 = .int .u64 (keep : Int) ∧ c1 = .int .i64 torn ∧ c2 = .int .i64 at_ ∧ keep < 18446744073709551616 := by
  obtain ⟨ys, m, _, _, _, hyl, hf⟩ := DataW.trod_struct Try.underlying30 ht
  have f0 := hf 0 _ rfl
  have f1 := hf 1 _ rfl
  have f2 := hf 2 _ rfl
  change DataW.trod _ _ _ _ _ _ _ 28 (([c0, c1, c2].drop 0).take (Try.prog.cellsOf 28)) = _ at f0
  change DataW.trod _ _ _ _ _ _ _ 3 (([c0, c1, c2].drop 1).take (Try.prog.cellsOf 3)) = _ at f1
  change DataW.trod _ _ _ _ _ _ _ 3 (([c0, c1, c2].drop 2).take (Try.prog.cellsOf 3)) = _ at f2
  rw [cellsU] at f0
  rw [cellsI] at f1 f2
  simp only [List.drop_zero, List.drop_succ_cons, List.take_succ_cons, List.take_zero] at f0 f1 f2
  have hyl : ys.length = 3 := hyl
  rw [List.getElem?_eq_getElem (by omega)] at f0 f1 f2
  obtain ⟨v0, e0, _, w0⟩ := DataW.trod_int Try.underlying28 f0
  obtain ⟨v1, e1, _, _⟩ := DataW.trod_int Try.underlying3 f1
  obtain ⟨v2, e2, _, _⟩ := DataW.trod_int Try.underlying3 f2
  simp only [List.cons.injEq, and_true] at e0 e1 e2
  have hv : 0 ≤ v0 ∧ v0 < 18446744073709551616 := by
    simp [Lit.wf, IntKind.min, IntKind.max, IntKind.signed, IntKind.bits] at w0; omega
  obtain ⟨N, rfl⟩ := Int.eq_ofNat_of_zero_le hv.1
  exact ⟨N, v1, v2, e0, e1, e2, by omega⟩

/-- A call among the arguments: its seven cells. -/
theorem open_act {H : Type} {enc : TypeId × Value → H} {w : World} {base : Nat} {spare : Nat → Bool} {held : Bool} {n : Nat} {a : Addr} {cs : List Value} {x : DataW H × List MemPlace}
    (hc : w.cells? base a 7 = some cs) (ht : DataW.trod enc Try.prog w base spare held n 32 cs = some x) :
    ∃ t : ActP, w.cell? (a.add 0) = some (.int .i64 t.what) ∧ w.cell? (a.add 1) = some (.int .i64 t.i) ∧ w.cell? (a.add 2) = some (.int .i64 t.n) ∧ w.cell? (a.add 3) = some (.string t.data) ∧
      w.cell? (a.add 4) = some (.int .u64 (t.keep : Int)) ∧ w.cell? (a.add 5) = some (.int .i64 t.torn) ∧ w.cell? (a.add 6) = some (.int .i64 t.at_) ∧ t.keep < 18446744073709551616 ∧ t.n ≤ 9223372036854775807 := by
  obtain ⟨_, hlen, hat⟩ := World.cells?_some hc
  obtain ⟨c0, c1, c2, c3, c4, c5, c6, rfl⟩ := seven_of hlen
  obtain ⟨ys, m, _, _, _, hyl, hf⟩ := DataW.trod_struct Try.underlying32 ht
  have f0 := hf 0 _ rfl
  have f1 := hf 1 _ rfl
  have f2 := hf 2 _ rfl
  have f3 := hf 3 _ rfl
  have f4 := hf 4 _ rfl
  change DataW.trod _ _ _ _ _ _ _ 3 (([c0, c1, c2, c3, c4, c5, c6].drop 0).take (Try.prog.cellsOf 3)) = _ at f0
  change DataW.trod _ _ _ _ _ _ _ 3 (([c0, c1, c2, c3, c4, c5, c6].drop 1).take (Try.prog.cellsOf 3)) = _ at f1
  change DataW.trod _ _ _ _ _ _ _ 3 (([c0, c1, c2, c3, c4, c5, c6].drop 2).take (Try.prog.cellsOf 3)) = _ at f2
  change DataW.trod _ _ _ _ _ _ _ 9 (([c0, c1, c2, c3, c4, c5, c6].drop 3).take (Try.prog.cellsOf 9)) = _ at f3
  change DataW.trod _ _ _ _ _ _ _ 30 (([c0, c1, c2, c3, c4, c5, c6].drop 4).take (Try.prog.cellsOf 30)) = _ at f4
  rw [cellsI] at f0 f1 f2
  rw [cellsS] at f3
  rw [cellsC] at f4
  simp only [List.drop_zero, List.drop_succ_cons, List.take_succ_cons, List.take_zero] at f0 f1 f2 f3 f4
  have hyl : ys.length = 5 := hyl
  rw [List.getElem?_eq_getElem (by omega)] at f0 f1 f2 f3 f4
  obtain ⟨v0, e0, _, _⟩ := DataW.trod_int Try.underlying3 f0
  obtain ⟨v1, e1, _, _⟩ := DataW.trod_int Try.underlying3 f1
  obtain ⟨v2, e2, _, w2⟩ := DataW.trod_int Try.underlying3 f2
  have hn2 : v2 ≤ 9223372036854775807 := by
    simp [Lit.wf, IntKind.min, IntKind.max, IntKind.signed, IntKind.bits] at w2; omega
  obtain ⟨s, e3, _, _⟩ := DataW.trod_string Try.underlying9 f3
  obtain ⟨keep, torn, at_, e4, e5, e6, hkp⟩ := open_crash f4
  simp only [List.cons.injEq, and_true] at e0 e1 e2 e3
  subst e0 e1 e2 e3 e4 e5 e6
  exact ⟨⟨v0, v1, v2, s, keep, torn, at_⟩, hat 0 (by omega), hat 1 (by omega), hat 2 (by omega), hat 3 (by omega), hat 4 (by omega), hat 5 (by omega), hat 6 (by omega), hkp, hn2⟩

instance : Inhabited ActP := ⟨⟨0, 0, 0, ByteArray.empty, 0, 0, 0⟩⟩

/-- A row of calls among the arguments. -/
theorem acts_open {H : Type} {enc : TypeId × Value → H} {w : World} {fuel : Nat} {a : Option Addr} {len cap : Nat} {x : DataW H × List MemPlace}
    (h : DataW.trod enc Try.prog w 0 (fun _ => true) true fuel 22 [.slice a len cap] = some x) : ∃ T, ActsP w a len T := by
  rcases Go.Deep.open_slice Try.underlying22 h with ⟨hcs, _⟩ | ⟨p, l, c, m, n, D, Pl, hcs, _, hl, _, hmm, _, hi⟩
  · simp only [List.cons.injEq, Value.slice.injEq, and_true] at hcs
    obtain ⟨rfl, rfl, rfl⟩ := hcs
    exact ⟨fun _ => default, fun i h => by omega⟩
  · simp only [List.cons.injEq, Value.slice.injEq, and_true] at hcs
    obtain ⟨rfl, rfl, rfl⟩ := hcs
    simp only [if_true] at hmm
    rw [hmm] at hi
    rw [cells32] at hi
    obtain ⟨T, hT⟩ := Go.Deep.choose_lt (α := ActP) (n := len) (p := fun i t => w.cell? ((p.add (i * 7)).add 0) = some (.int .i64 t.what) ∧ w.cell? ((p.add (i * 7)).add 1) = some (.int .i64 t.i) ∧ w.cell? ((p.add (i * 7)).add 2) = some (.int .i64 t.n) ∧ w.cell? ((p.add (i * 7)).add 3) = some (.string t.data) ∧
        w.cell? ((p.add (i * 7)).add 4) = some (.int .u64 (t.keep : Int)) ∧ w.cell? ((p.add (i * 7)).add 5) = some (.int .i64 t.torn) ∧ w.cell? ((p.add (i * 7)).add 6) = some (.int .i64 t.at_) ∧ t.keep < 18446744073709551616 ∧ t.n ≤ 9223372036854775807) (fun i h => by
      obtain ⟨cs', h1, h2⟩ := hi i (by omega)
      exact open_act h1 h2)
    refine ⟨T, fun i hil => ?_⟩
    obtain ⟨b, off, spot⟩ := p
    have h0 := (hT 0 (by omega)).1
    have hspot : spot = none := by simpa [Addr.add] using World.cell?_spot h0
    subst hspot
    have hadd : ∀ i j : Nat, ((⟨b, off, none⟩ : Addr).add i).add j = ⟨b, off + i + j, none⟩ := by
      intro i j
      unfold Addr.add
      by_cases hi : i = 0 <;> by_cases hj : j = 0 <;> simp [hi, hj]
    obtain ⟨g0, g1, g2, g3, g4, g5, g6, g7, g8⟩ := hT i hil
    rw [hadd] at g0 g1 g2 g3 g4 g5 g6
    exact ⟨⟨b, off, rfl, g0, g1, g2, g3, g4, g5, g6, World.block_lt_of_cell? w _ g0⟩, g7, g8⟩

set_option maxRecDepth 100000 in
theorem lifted (os : Os) (started : os.Started) (H : Type) (enc : TypeId × Value → H) :
    ReturnsInHanded {} Try.checked os 3 .any (Rows.blockPlaysSpec.pre6 enc Try.prog Try.f3 Rows.blockPlaysRow.domain false) (Rows.blockPlaysSpec.post enc Try.prog Try.f3 false true false false) := by
  refine returnsInHanded_of_change (C := Try.checked) own started (by kernel_rfl) Try.func3
    (ChangeSpec.witness6 (enc := enc) (C := Try.checked) false ⟨#[], #[.int .i64 0, .slice none 0 0], []⟩ 8 (by kernel_rfl) (by kernel_rfl) (by kernel_rfl) (by kernel_rfl)) ?_
  intro W base args ds gs before hval0 hW hcnd _
  have hval : ∀ (j : Nat) t v, Try.f3.params[j]? = some t → args[j]? = some v → Value.okWide Try.prog W .any base t v := hval0
  have hW' := hW
  obtain ⟨p, q, hA0, hV, rfl, hfz, hnd⟩ := hW
  have hA : DataW.TrodAll enc Try.prog W 0 (fun _ => true) true Try.f3.params.toList args.toList ds p := hA0
  rw [Try.params3] at hA hval
  obtain ⟨v0, vs0, d0, ds0, p0, q0, hargs, rfl, rfl, h0, r0⟩ := trodAll_cons hA
  obtain ⟨v1, vs1, d1, ds1, p1, q1, rfl, rfl, rfl, h1, r1⟩ := trodAll_cons r0
  obtain ⟨rfl, rfl, rfl⟩ := trodAll_nil r1
  obtain rfl : args = #[v0, v1] := by cases args; simp_all
  obtain ⟨rfl, rfl⟩ := trodVars_none hV
  have k0 := h0
  have lt0 : ∀ x ∈ p0, x.block < W.heap.size := by obtain ⟨m, hm⟩ := k0; exact DataW.trod_lt m _ _ _ hm
  have k1 := h1
  have lt1 : ∀ x ∈ p1, x.block < W.heap.size := by obtain ⟨m, hm⟩ := k1; exact DataW.trod_lt m _ _ _ hm
  obtain ⟨a0, ea0, _, _, w0⟩ := open_int Try.underlying3 (hval 0 3 v0 rfl rfl) h0
  obtain ⟨a1, len1, cap1, ea1⟩ := okWide_slice Try.underlying22 (hval 1 22 v1 rfl rfl)
  subst ea0 ea1
  obtain ⟨fuel1, hf1⟩ := h1
  obtain ⟨T1, hT1⟩ := acts_open (a := a1) (len := len1) (cap := cap1) (by simpa [Value.cells] using hf1)
  clear hA0 hval0
  simp only [List.append_nil] at hW'
  refine (Bk.BlockPlays_main a1 len1 cap1 T1 a0 W hT1).mono fun e W' ⟨he, bel⟩ => ?_
  subst he
  exact ⟨_, rfl, _, _, _, [], _, [], hW', trodAll_mk1 (shut_bool Try.underlying4 _), (trodAll_cons_mk (Below.trod laidOut (by kernel_rfl) (of_decide_eq_true (by kernel_rfl)) k0 bel lt0) (trodAll_cons_mk (Below.trod laidOut (by kernel_rfl) (of_decide_eq_true (by kernel_rfl)) k1 bel lt1) trodAll_mk0)), rfl, bel.frame _, fun h => by cases h⟩

theorem over : Rows.blockPlaysRow.holds Try.pinned (OpenSpec.ofChange Rows.blockPlaysSpec) :=
  OpenClaim.holds_of_wide 3 Try.f3 rfl rfl rfl rfl rfl rfl rfl ⟨rfl, rfl, rfl, rfl, rfl⟩ rfl rfl rfl rfl rfl (by kernel_rfl) Try.func3 (by kernel_rfl)
    (of_decide_eq_true (by kernel_rfl)) (by unfold Func.isWrapper; first | (rw [if_pos (by decide +kernel)]; kernel_rfl) | (rw [if_neg (by decide +kernel)]; exact ⟨rfl, rfl⟩))
    (fun os started H enc _ => lifted os started H enc)

/-- The statement. -/
theorem proved : Rows.BlockPlaysSaid :=
  over
#print axioms proved
end Go.Proofs.Ytfmcbccmijcdgaa.blockPlays
