/-
  The program's values: the library's comparisons (cmp.Compare, slices.Compare, cmp.Or, slices.Equal).
-/
import Derived.Test.YtkdhchdhgmaolaaZVaOrd
import Derived.Deep.QuietTactic
import Derived.BigQuiet
namespace Go.Proofs.Ytkdhchdhgmaolaa.Va
open Go.RowKit

theorem bytesLess_asymm : ∀ (a b : List UInt8), a ≠ b → Op.bytesLess b a = !Op.bytesLess a b := by
  intro a b h
  have h1 := less_T a b h
  have h2 := less_T b a (fun e => h e.symm)
  have h3 := cmpT.swap a b
  cases x : Op.bytesLess a b <;> cases y : Op.bytesLess b a <;> rw [x] at h1 <;> rw [y] at h2 <;> simp at h1 h2 ⊢ <;> omega
theorem bytesLess_self : ∀ (a : List UInt8), Op.bytesLess a a = false
  | [] => rfl
  | c :: r => by unfold Op.bytesLess; simp [bytesLess_self r, UInt8.lt_irrefl]

/-- cmp.Or of four numbers. -/
def or4 (a b c d : Int) : Int := if a ≠ 0 then a else if b ≠ 0 then b else if c ≠ 0 then c else d
def nth4 (a b c d : Int) (k : Nat) : Int := if k = 0 then a else if k = 1 then b else if k = 2 then c else d
theorem or4_hit (a b c d : Int) (k : Nat) (hk : k < 4) (h0 : ∀ j, j < k → nth4 a b c d j = 0) (h : nth4 a b c d k ≠ 0) : nth4 a b c d k = or4 a b c d := by
  have := h0 0
  have := h0 1
  have := h0 2
  have hk' : k = 0 ∨ k = 1 ∨ k = 2 ∨ k = 3 := by omega
  rcases hk' with rfl | rfl | rfl | rfl <;> simp_all [nth4, or4]
theorem or4_none (a b c d : Int) (h0 : ∀ j, j < 4 → nth4 a b c d j = 0) : or4 a b c d = 0 := by
  have := h0 0
  have := h0 1
  have := h0 2
  have := h0 3
  simp_all [nth4, or4]
set_option maxHeartbeats 1600000 in
/-- slices.Equal of two rows of numbers. -/
theorem equal_list (x y : List Int) (hx1 : x.length ≤ 9223372036854775807) (ax ay : Option Addr) (cx cy : Nat) (w : World) (hx : NumsAt w ax x) (hy : NumsAt w ay y) :
    Calls Try.prog 128 #[.slice ax x.length cx, .slice ay y.length cy] w fun e w' => e = .returned (.bool (x == y)) ∧ Below w.heap.size w w' := by
  have HX := Lib.hid hx
  have HY := Lib.hid hy
  clear hx hy
  by_cases hl : x.length = y.length
  · have HL := Lib.hid hl
    rw [← hl]
    have HALL := Lib.hid (preB_all x y hl)
    clear hl
    go_enter Try.func128, Try.ntmps128
    go_wp2_with fail
    go_loopw [13] (fun i wr => ∃ k : Nat, k ≤ x.length ∧ i = .int .i64 k ∧ Hid (preB x y k = true) ∧ Below w.heap.size w wr) (fun i _ => x.length - (intOf i).toNat)
    case atStart => exact ⟨0, by omega, rfl, Lib.hid (preB_zero x y), Below.refl _ _⟩
    case round =>
      obtain ⟨k, hk, rfl, HP, hb⟩ := hrel
      have HB := Lib.hid hb
      clear hb
      by_cases h1 : k < x.length
      · have h2 : k < y.length := by rw [← HL.out]; exact h1
        obtain ⟨g1, o1, rfl, q1, hg1⟩ := HX.out k h1
        obtain ⟨g2, o2, rfl, q2, hg2⟩ := HY.out k h2
        have r1 := (HB.out.cell (p := ⟨g1, o1 + k, none⟩) hg1).trans q1
        have r2 := (HB.out.cell (p := ⟨g2, o2 + k, none⟩) hg2).trans q2
        have hn := preB_succ x y k h1 h2
        rw [HP.out, Bool.true_and] at hn
        have hf := preB_false x y (k + 1)
        rw [hn] at hf
        have hji1 : (k : Int) < (x.length : Int) := by omega
        generalize x.getD k 0 = u at *
        generalize y.getD k 0 = u' at *
        have HN := Lib.hid hn
        have HF := Lib.hid hf
        have HBD := Lib.hid (show Below w.heap.size w wr.drew from ⟨HB.out.os, HB.out.tape, HB.out.output, HB.out.size, HB.out.block⟩)
        clear hn hf q1 q2 hg1 hg2
        by_cases he : u = u'
        · have e1 : (u == u') = true := by simpa using he
          have e2 : (u != u') = false := by simpa using he
          have HE := Lib.hid e1
          clear he
          go_wp2_with fail
          go_quiet (fail)
          go_wp2_with fail
          go_roundw
          case rel => exact ⟨k + 1, by omega, by go_num, Lib.hid (by rw [HN.out, HE.out]), ⟨HB.out.os, HB.out.tape, HB.out.output, HB.out.size, HB.out.block⟩⟩
          case measure => simp [intOf]; omega
        · have e1 : (u == u') = false := by simpa using he
          have e2 : (u != u') = true := by simpa using he
          have HR := Lib.hid (HF.out e1).symm
          clear he
          go_wp2_with fail
          go_quiet (fail)
          go_wp2_with fail
          go_ret
          exact ⟨ret_b HR.out, ⟨HB.out.os, HB.out.tape, HB.out.output, HB.out.size, HB.out.block⟩⟩
      · obtain rfl : k = x.length := by omega
        have HR := Lib.hid (show true = (x == y) by rw [← HALL.out, HP.out])
        go_wp2_with fail
        go_ret
        exact ⟨ret_b HR.out, HB.out⟩
  · have HR := Lib.hid (show false = (x == y) from (by symm; simp only [beq_eq_false_iff_ne, ne_eq]; exact fun e => hl (by rw [e])))
    have e1 : ((x.length : Int) == (y.length : Int)) = false := by simp; omega
    have e2 : (x.length == y.length) = false := by simpa using hl
    have e3 : ((x.length : Int) != (y.length : Int)) = true := by simp; omega
    clear hl
    go_enter Try.func128, Try.ntmps128
    go_wp2_with fail
    go_ret
    exact ⟨ret_b HR.out, Below.refl _ _⟩

end Go.Proofs.Ytkdhchdhgmaolaa.Va
