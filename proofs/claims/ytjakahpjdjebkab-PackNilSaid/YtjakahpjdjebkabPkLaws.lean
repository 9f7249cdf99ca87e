/-
  The walks over the laws of package pack: each returns true, whatever it is given.
-/
import Derived.Test.YtjakahpjdjebkabPkReader
namespace Go.Proofs.Ytjakahpjdjebkab.Pk
open Go.RowKit

theorem count_c (x : Int) (l : List UInt8) (h0 : 0 ≤ x) (h1 : x < 18446744073709551616) (h : enc x.toNat = l) (w : World) :
    Calls Try.prog 9 #[.int .u64 x] w fun e w' => e = .returned (.string ⟨l.toArray⟩) ∧ Below w.heap.size w w' := by
  refine (count_int x h0 h1 w).mono ?_
  rintro e w' ⟨rfl, hb⟩
  exact ⟨by rw [h]; rfl, hb⟩
theorem number_c (x : Int) (l : List UInt8) (h0 : -9223372036854775808 ≤ x) (h1 : x < 9223372036854775808) (h : enc (zz x) = l) (w : World) :
    Calls Try.prog 11 #[.int .i64 x] w fun e w' => e = .returned (.string ⟨l.toArray⟩) ∧ Below w.heap.size w w' := by
  refine (number_any x h0 h1 w).mono ?_
  rintro e w' ⟨rfl, hb⟩
  exact ⟨by rw [h]; rfl, hb⟩

/-- The chapter's examples. -/
theorem awake_any (w : World) :
    Calls Try.prog 8 #[] w fun e w' => e = .returned (.bool true) ∧ Below w.heap.size w w' := by
  go_enter Try.func8, Try.ntmps8
  go_wp2_with fail
  refine (new_any _ _).mono ?_
  rintro e w1 ⟨rfl, r1, b1, s1⟩
  have R1 := Lib.hid r1
  have B1 := Lib.hid b1
  have S1 := Lib.hid s1
  clear r1 b1 s1
  go_wp2_with fail
  refine (rCount_any w.heap.size _ (by simp) 0 _ R1.out).mono ?_
  rintro e w2 ⟨rfl, r2, o2⟩
  have R2 : Hid (RdAt w2 w.heap.size [128, 0] 4) := r2
  have B2 : Hid (Below w.heap.size w w2) := Only.below B1.out o2 (by have := S1.out; omega) (Nat.le_refl _)
  clear r2 o2
  go_wp2_with fail
  refine (count_c 300 [172, 2] (by omega) (by omega) (by decide +kernel) _).mono ?_
  rintro e w3 ⟨rfl, b3⟩
  have R3 := Lib.hid (R2.out.below b3)
  have B3 := Lib.hid (two B2.out b3)
  clear b3
  go_wp2_with fail
  refine (number_c (-1) [1] (by omega) (by omega) (by decide +kernel) _).mono ?_
  rintro e w4 ⟨rfl, b4⟩
  have R4 := Lib.hid (R3.out.below b4)
  have B4 := Lib.hid (two B3.out b4)
  clear b4
  go_wp2_with fail
  refine (number_c 64 [128, 1] (by omega) (by omega) (by decide +kernel) _).mono ?_
  rintro e w5 ⟨rfl, b5⟩
  have R5 := Lib.hid (R4.out.below b5)
  have B5 := Lib.hid (two B4.out b5)
  clear b5
  go_wp2_with fail
  refine (bad_any w.heap.size _ 4 _ R5.out).mono ?_
  rintro e w6 ⟨rfl, rfl⟩
  go_wp2_with fail
  go_ret
  exact ⟨rfl, B5.out⟩

/-! ### a reader that is none -/
theorem nilU (d : Value) (w : World) :
    Calls Try.prog 35 #[.pointer none, d] w fun e w' => e = .returned (.int .u64 0) ∧ w = w' := by
  go_enter Try.func35, Try.ntmps35
  go_wp2_with fail
  refine (bad_nil _).mono ?_
  rintro e w' ⟨rfl, rfl⟩
  go_wp2_with fail
  go_ret
  exact ⟨rfl, rfl⟩

theorem nilI (d : Value) (w : World) :
    Calls Try.prog 28 #[.pointer none, d] w fun e w' => e = .returned (.int .i64 0) ∧ w = w' := by
  go_enter Try.func28, Try.ntmps28
  go_wp2_with fail
  refine (bad_nil _).mono ?_
  rintro e w' ⟨rfl, rfl⟩
  go_wp2_with fail
  go_ret
  exact ⟨rfl, rfl⟩

theorem nilB (d : Value) (w : World) :
    Calls Try.prog 30 #[.pointer none, d] w fun e w' => e = .returned (.bool false) ∧ w = w' := by
  go_enter Try.func30, Try.ntmps30
  go_wp2_with fail
  refine (bad_nil _).mono ?_
  rintro e w' ⟨rfl, rfl⟩
  go_wp2_with fail
  go_ret
  exact ⟨rfl, rfl⟩

theorem nilS (d : Value) (w : World) :
    Calls Try.prog 32 #[.pointer none, d] w fun e w' => e = .returned (.string ByteArray.empty) ∧ w = w' := by
  go_enter Try.func32, Try.ntmps32
  go_wp2_with fail
  refine (bad_nil _).mono ?_
  rintro e w' ⟨rfl, rfl⟩
  go_wp2_with fail
  go_ret
  exact ⟨rfl, rfl⟩

theorem nilN (d : Value) (w : World) :
    Calls Try.prog 37 #[.pointer none, d] w fun e w' => e = .returned (.int .i64 0) ∧ w = w' := by
  go_enter Try.func37, Try.ntmps37
  go_wp2_with fail
  refine (bad_nil _).mono ?_
  rintro e w' ⟨rfl, rfl⟩
  go_wp2_with fail
  go_ret
  exact ⟨rfl, rfl⟩

theorem mCount (w : World) :
    Calls Try.prog 21 #[.pointer none] w fun e w' => e = .returned (.int .u64 0) ∧ Below w.heap.size w w' := by
  go_enter Try.func21, Try.ntmps21
  go_wp2_with fail
  refine (nilU _ _).mono ?_
  rintro e w' ⟨rfl, rfl⟩
  go_wp2_with fail
  go_ret
  exact ⟨rfl, Below.refl _ _⟩

theorem mNumber (w : World) :
    Calls Try.prog 18 #[.pointer none] w fun e w' => e = .returned (.int .i64 0) ∧ Below w.heap.size w w' := by
  go_enter Try.func18, Try.ntmps18
  go_wp2_with fail
  refine (nilI _ _).mono ?_
  rintro e w' ⟨rfl, rfl⟩
  go_wp2_with fail
  go_ret
  exact ⟨rfl, Below.refl _ _⟩

theorem mTruth (w : World) :
    Calls Try.prog 19 #[.pointer none] w fun e w' => e = .returned (.bool false) ∧ Below w.heap.size w w' := by
  go_enter Try.func19, Try.ntmps19
  go_wp2_with fail
  refine (nilB _ _).mono ?_
  rintro e w' ⟨rfl, rfl⟩
  go_wp2_with fail
  go_ret
  exact ⟨rfl, Below.refl _ _⟩

theorem mText (w : World) :
    Calls Try.prog 20 #[.pointer none, .int .i64 9] w fun e w' => e = .returned (.string ByteArray.empty) ∧ Below w.heap.size w w' := by
  go_enter Try.func20, Try.ntmps20
  go_wp2_with fail
  refine (nilS _ _).mono ?_
  rintro e w' ⟨rfl, rfl⟩
  go_wp2_with fail
  go_ret
  exact ⟨rfl, (Below.refl _ _).alloc (Nat.le_refl _) _⟩

theorem mSmall (w : World) :
    Calls Try.prog 25 #[.pointer none, .int .i64 9] w fun e w' => e = .returned (.int .i64 0) ∧ Below w.heap.size w w' := by
  go_enter Try.func25, Try.ntmps25
  go_wp2_with fail
  refine (nilN _ _).mono ?_
  rintro e w' ⟨rfl, rfl⟩
  go_wp2_with fail
  go_ret
  exact ⟨rfl, (Below.refl _ _).alloc (Nat.le_refl _) _⟩

theorem mByte (w : World) :
    Calls Try.prog 26 #[.pointer none] w fun e w' => e = .returned (.int .i64 0) ∧ Below w.heap.size w w' := by
  go_enter Try.func26, Try.ntmps26
  go_wp2_with fail
  refine (nilN _ _).mono ?_
  rintro e w' ⟨rfl, rfl⟩
  go_wp2_with fail
  go_ret
  exact ⟨rfl, Below.refl _ _⟩

theorem mEnd (w : World) :
    Calls Try.prog 22 #[.pointer none] w fun e w' => e = .returned (.int .i64 1) ∧ w = w' := by
  go_enter Try.func22, Try.ntmps22
  go_wp2_with fail
  refine (bad_nil _).mono ?_
  rintro e w' ⟨rfl, rfl⟩
  go_wp2_with fail
  go_ret
  exact ⟨rfl, rfl⟩

theorem mLeft (w : World) :
    Calls Try.prog 23 #[.pointer none] w fun e w' => e = .returned (.int .i64 0) ∧ w = w' := by
  go_enter Try.func23, Try.ntmps23
  go_wp2_with fail
  refine (bad_nil _).mono ?_
  rintro e w' ⟨rfl, rfl⟩
  go_wp2_with fail
  go_ret
  exact ⟨rfl, rfl⟩

theorem PackNil_walk (w : World) :
    Calls Try.prog 6 #[] w fun e w' => e = .returned (.bool true) ∧ Below w.heap.size w w' := by
  have B0 := Lib.hid (Below.refl w.heap.size w)
  go_enter Try.func6, Try.ntmps6
  go_wp2_with fail
  refine (awake_any _).mono ?_
  rintro e w1 ⟨rfl, b1⟩
  have B1 := Lib.hid (two B0.out b1)
  clear b1
  go_wp2_with fail
  refine (awake_any _).mono ?_
  rintro e w2 ⟨rfl, b2⟩
  have B2 := Lib.hid (two B1.out b2)
  clear b2
  go_wp2_with fail
  refine (mCount _).mono ?_
  rintro e w3 ⟨rfl, b3⟩
  have B3 := Lib.hid (two B2.out b3)
  clear b3
  go_wp2_with fail
  refine (mNumber _).mono ?_
  rintro e w4 ⟨rfl, b4⟩
  have B4 := Lib.hid (two B3.out b4)
  clear b4
  go_wp2_with fail
  refine (mTruth _).mono ?_
  rintro e w5 ⟨rfl, b5⟩
  have B5 := Lib.hid (two B4.out b5)
  clear b5
  go_wp2_with fail
  refine (mText _).mono ?_
  rintro e w6 ⟨rfl, b6⟩
  have B6 := Lib.hid (two B5.out b6)
  clear b6
  go_wp2_with fail
  refine (mSmall _).mono ?_
  rintro e w7 ⟨rfl, b7⟩
  have B7 := Lib.hid (two B6.out b7)
  clear b7
  go_wp2_with fail
  refine (mByte _).mono ?_
  rintro e w8 ⟨rfl, b8⟩
  have B8 := Lib.hid (two B7.out b8)
  clear b8
  go_wp2_with fail
  refine (bad_nil _).mono ?_
  rintro e w' ⟨rfl, rfl⟩
  go_wp2_with fail
  refine (mEnd _).mono ?_
  rintro e w' ⟨rfl, rfl⟩
  go_wp2_with fail
  refine (mLeft _).mono ?_
  rintro e w' ⟨rfl, rfl⟩
  go_wp2_with fail
  go_ret
  exact ⟨rfl, B8.out⟩

end Go.Proofs.Ytjakahpjdjebkab.Pk
