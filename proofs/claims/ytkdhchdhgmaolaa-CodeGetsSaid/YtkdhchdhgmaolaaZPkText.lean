/-
  The walks over Number, Truth and Text, the document's own, and the chapter's examples; each by its contract.
-/
import Derived.Test.YtkdhchdhgmaolaaZPkCount
namespace Go.Proofs.Ytkdhchdhgmaolaa.Pk
open Go.RowKit

theorem count_int (x : Int) (h0 : 0 ≤ x) (h1 : x < 18446744073709551616) (w : World) :
    Calls Try.prog 121 #[.int .u64 x] w fun e w' => e = .returned (.string (S (enc x.toNat))) ∧ Below w.heap.size w w' := by
  obtain ⟨n, rfl⟩ := Int.eq_ofNat_of_zero_le h0
  exact count_any n (by omega) w
theorem refCount_int (x : Int) (h0 : 0 ≤ x) (h1 : x < 18446744073709551616) (w : World) :
    Calls Try.prog 117 #[.int .u64 x] w fun e w' => e = .returned (.string (S (enc x.toNat))) ∧ Below w.heap.size w w' := by
  obtain ⟨n, rfl⟩ := Int.eq_ofNat_of_zero_le h0
  exact refCount_any n (by omega) w

/-- The count that a number is written as. -/
def zz (n : Int) : Nat := if n < 0 then (2 * (-1 - n) + 1).toNat else (2 * n).toNat

set_option maxRecDepth 100000 in
theorem number_any (n : Int) (h0 : -9223372036854775808 ≤ n) (h1 : n < 9223372036854775808) (w : World) :
    Calls Try.prog 120 #[.int .i64 n] w fun e w' => e = .returned (.string (S (enc (zz n)))) ∧ Below w.heap.size w w' := by
  have hnot := not_i64 n h0 h1
  by_cases hn : n < 0
  · have hz : zz n = (2 * (-1 - n) + 1).toNat := by simp [zz, hn]
    have HZ := Lib.hid hz
    have hw : IntKind.u64.wrap (IntKind.u64.wrap (2 * IntKind.u64.wrap (-1 - n)) + 1) = 2 * (-1 - n) + 1 := by
      simp only [IntKind.wrap_u64]; omega
    have HW := Lib.hid hw
    clear hz hw
    go_enter Try.func120, Try.ntmps120
    go_wp2_with fail
    rw [HW.out]
    refine (count_int _ (by omega) (by omega) _).mono ?_
    rintro e w1 ⟨rfl, b1⟩
    have B1 := Lib.hid b1
    clear b1
    go_wp2_with fail
    go_ret
    exact ⟨by rw [HZ.out]; rfl, B1.out⟩
  · have hz : zz n = (2 * n).toNat := by simp [zz, hn]
    have HZ := Lib.hid hz
    clear hz hnot
    go_enter Try.func120, Try.ntmps120
    go_wp2_with fail
    refine (count_int _ (by omega) (by omega) _).mono ?_
    rintro e w1 ⟨rfl, b1⟩
    have B1 := Lib.hid b1
    clear b1
    go_wp2_with fail
    go_ret
    exact ⟨by rw [HZ.out]; rfl, B1.out⟩

theorem encF_len (f : Nat) : ∀ n, (encF f n).length ≤ f := by
  induction f with
  | zero => intro n; simp [encF]
  | succ f ih =>
    intro n
    simp only [encF]
    split
    · simp
    · have := ih (n / 128); simp; omega
theorem enc_len (n : Nat) : (enc n).length ≤ 10 := encF_len 10 n

set_option maxRecDepth 100000 in
theorem text_any (s : ByteArray) (hs : s.size ≤ 2000000) (w : World) :
    Calls Try.prog 94 #[.string s] w fun e w' => e = .returned (.string (S (enc s.size ++ s.data.toList))) ∧ Below w.heap.size w w' := by
  have hc : S (enc s.size) ++ s = S (enc s.size ++ s.data.toList) := by rw [← S_append, S_list]
  have HC := Lib.hid hc
  have hl : (S (enc s.size)).size ≤ 10 := by rw [S_size]; exact enc_len _
  clear hc
  go_enter Try.func94, Try.ntmps94
  go_wp2_with fail
  refine (count_int _ (by omega) (by omega) _).mono ?_
  rintro e w1 ⟨rfl, b1⟩
  have B1 := Lib.hid b1
  clear b1
  rw [Int.toNat_natCast]
  go_wp2_with fail
  go_ret
  exact ⟨by rw [← HC.out]; rfl, B1.out⟩

def truthL (b : Bool) : List UInt8 := if b then [1] else [0]

theorem truth_any (b : Bool) (w : World) :
    Calls Try.prog 93 #[.bool b] w fun e w' => e = .returned (.string (S (truthL b))) ∧ w = w' := by
  cases b
  all_goals
    go_enter Try.func93, Try.ntmps93
    go_wp2_with fail
    go_ret
    exact ⟨rfl, rfl⟩

end Go.Proofs.Ytkdhchdhgmaolaa.Pk
