/-
  The walks over the laws of package pack: each returns true, whatever it is given.
-/
import Derived.Test.YtjakahpjdjebkabPkReader
namespace Go.Proofs.Ytjakahpjdjebkab.Pk
open Go.RowKit

theorem count_c (x : Int) (l : List UInt8) (h0 : 0 ≤ x) (h1 : x < 18446744073709551616) (h : enc x.toNat = l) (w : World) :
    Calls Try.prog 9 #[.int .u64 x] w fun e w' => e = .returned (.string ⟨l.toArray⟩) ∧ Below w.heap.size w w' := by
  refine (count_int x h0 h1 w).mono ?_
  rintro e w' ⟨rfl, hb⟩
  exact ⟨by rw [h]; rfl, hb⟩
theorem number_c (x : Int) (l : List UInt8) (h0 : -9223372036854775808 ≤ x) (h1 : x < 9223372036854775808) (h : enc (zz x) = l) (w : World) :
    Calls Try.prog 11 #[.int .i64 x] w fun e w' => e = .returned (.string ⟨l.toArray⟩) ∧ Below w.heap.size w w' := by
  refine (number_any x h0 h1 w).mono ?_
  rintro e w' ⟨rfl, hb⟩
  exact ⟨by rw [h]; rfl, hb⟩

/-- The chapter's examples. -/
theorem awake_any (w : World) :
    Calls Try.prog 8 #[] w fun e w' => e = .returned (.bool true) ∧ Below w.heap.size w w' := by
  go_enter Try.func8, Try.ntmps8
  go_wp2_with fail
  refine (new_any _ _).mono ?_
  rintro e w1 ⟨rfl, r1, b1, s1⟩
  have R1 := Lib.hid r1
  have B1 := Lib.hid b1
  have S1 := Lib.hid s1
  clear r1 b1 s1
  go_wp2_with fail
  refine (rCount_any w.heap.size _ (by simp) 0 _ R1.out).mono ?_
  rintro e w2 ⟨rfl, r2, o2⟩
  have R2 : Hid (RdAt w2 w.heap.size [128, 0] 4) := r2
  have B2 : Hid (Below w.heap.size w w2) := Only.below B1.out o2 (by have := S1.out; omega) (Nat.le_refl _)
  clear r2 o2
  go_wp2_with fail
  refine (count_c 300 [172, 2] (by omega) (by omega) (by decide +kernel) _).mono ?_
  rintro e w3 ⟨rfl, b3⟩
  have R3 := Lib.hid (R2.out.below b3)
  have B3 := Lib.hid (two B2.out b3)
  clear b3
  go_wp2_with fail
  refine (number_c (-1) [1] (by omega) (by omega) (by decide +kernel) _).mono ?_
  rintro e w4 ⟨rfl, b4⟩
  have R4 := Lib.hid (R3.out.below b4)
  have B4 := Lib.hid (two B3.out b4)
  clear b4
  go_wp2_with fail
  refine (number_c 64 [128, 1] (by omega) (by omega) (by decide +kernel) _).mono ?_
  rintro e w5 ⟨rfl, b5⟩
  have R5 := Lib.hid (R4.out.below b5)
  have B5 := Lib.hid (two B4.out b5)
  clear b5
  go_wp2_with fail
  refine (bad_any w.heap.size _ 4 _ R5.out).mono ?_
  rintro e w6 ⟨rfl, rfl⟩
  go_wp2_with fail
  go_ret
  exact ⟨rfl, B5.out⟩

/-! ### a reader that is none -/
theorem nilU (d : Value) (w : World) :
    Calls Try.prog 35 #[.pointer none, d] w fun e w' => e = .returned (.int .u64 0) ∧ w = w' := by
  go_enter Try.func35, Try.ntmps35
  go_wp2_with fail
  refine (bad_nil _).mono ?_
  rintro e w' ⟨rfl, rfl⟩
  go_wp2_with fail
  go_ret
  exact ⟨rfl, rfl⟩

theorem nilI (d : Value) (w : World) :
    Calls Try.prog 28 #[.pointer none, d] w fun e w' => e = .returned (.int .i64 0) ∧ w = w' := by
  go_enter Try.func28, Try.ntmps28
  go_wp2_with fail
  refine (bad_nil _).mono ?_
  rintro e w' ⟨rfl, rfl⟩
  go_wp2_with fail
  go_ret
  exact ⟨rfl, rfl⟩

theorem nilB (d : Value) (w : World) :
    Calls Try.prog 30 #[.pointer none, d] w fun e w' => e = .returned (.bool false) ∧ w = w' := by
  go_enter Try.func30, Try.ntmps30
  go_wp2_with fail
  refine (bad_nil _).mono ?_
  rintro e w' ⟨rfl, rfl⟩
  go_wp2_with fail
  go_ret
  exact ⟨rfl, rfl⟩

theorem nilS (d : Value) (w : World) :
    Calls Try.prog 32 #[.pointer none, d] w fun e w' => e = .returned (.string ByteArray.empty) ∧ w = w' := by
  go_enter Try.func32, Try.ntmps32
  go_wp2_with fail
  refine (bad_nil _).mono ?_
  rintro e w' ⟨rfl, rfl⟩
  go_wp2_with fail
  go_ret
  exact ⟨rfl, rfl⟩

theorem nilN (d : Value) (w : World) :
    Calls Try.prog 37 #[.pointer none, d] w fun e w' => e = .returned (.int .i64 0) ∧ w = w' := by
  go_enter Try.func37, Try.ntmps37
  go_wp2_with fail
  refine (bad_nil _).mono ?_
  rintro e w' ⟨rfl, rfl⟩
  go_wp2_with fail
  go_ret
  exact ⟨rfl, rfl⟩

theorem mCount (w : World) :
    Calls Try.prog 21 #[.pointer none] w fun e w' => e = .returned (.int .u64 0) ∧ Below w.heap.size w w' := by
  go_enter Try.func21, Try.ntmps21
  go_wp2_with fail
  refine (nilU _ _).mono ?_
  rintro e w' ⟨rfl, rfl⟩
  go_wp2_with fail
  go_ret
  exact ⟨rfl, Below.refl _ _⟩

theorem mNumber (w : World) :
    Calls Try.prog 18 #[.pointer none] w fun e w' => e = .returned (.int .i64 0) ∧ Below w.heap.size w w' := by
  go_enter Try.func18, Try.ntmps18
  go_wp2_with fail
  refine (nilI _ _).mono ?_
  rintro e w' ⟨rfl, rfl⟩
  go_wp2_with fail
  go_ret
  exact ⟨rfl, Below.refl _ _⟩

theorem mTruth (w : World) :
    Calls Try.prog 19 #[.pointer none] w fun e w' => e = .returned (.bool false) ∧ Below w.heap.size w w' := by
  go_enter Try.func19, Try.ntmps19
  go_wp2_with fail
  refine (nilB _ _).mono ?_
  rintro e w' ⟨rfl, rfl⟩
  go_wp2_with fail
  go_ret
  exact ⟨rfl, Below.refl _ _⟩

theorem mText (w : World) :
    Calls Try.prog 20 #[.pointer none, .int .i64 9] w fun e w' => e = .returned (.string ByteArray.empty) ∧ Below w.heap.size w w' := by
  go_enter Try.func20, Try.ntmps20
  go_wp2_with fail
  refine (nilS _ _).mono ?_
  rintro e w' ⟨rfl, rfl⟩
  go_wp2_with fail
  go_ret
  exact ⟨rfl, (Below.refl _ _).alloc (Nat.le_refl _) _⟩

theorem mSmall (w : World) :
    Calls Try.prog 25 #[.pointer none, .int .i64 9] w fun e w' => e = .returned (.int .i64 0) ∧ Below w.heap.size w w' := by
  go_enter Try.func25, Try.ntmps25
  go_wp2_with fail
  refine (nilN _ _).mono ?_
  rintro e w' ⟨rfl, rfl⟩
  go_wp2_with fail
  go_ret
  exact ⟨rfl, (Below.refl _ _).alloc (Nat.le_refl _) _⟩

theorem mByte (w : World) :
    Calls Try.prog 26 #[.pointer none] w fun e w' => e = .returned (.int .i64 0) ∧ Below w.heap.size w w' := by
  go_enter Try.func26, Try.ntmps26
  go_wp2_with fail
  refine (nilN _ _).mono ?_
  rintro e w' ⟨rfl, rfl⟩
  go_wp2_with fail
  go_ret
  exact ⟨rfl, Below.refl _ _⟩

theorem mEnd (w : World) :
    Calls Try.prog 22 #[.pointer none] w fun e w' => e = .returned (.int .i64 1) ∧ w = w' := by
  go_enter Try.func22, Try.ntmps22
  go_wp2_with fail
  refine (bad_nil _).mono ?_
  rintro e w' ⟨rfl, rfl⟩
  go_wp2_with fail
  go_ret
  exact ⟨rfl, rfl⟩

theorem mLeft (w : World) :
    Calls Try.prog 23 #[.pointer none] w fun e w' => e = .returned (.int .i64 0) ∧ w = w' := by
  go_enter Try.func23, Try.ntmps23
  go_wp2_with fail
  refine (bad_nil _).mono ?_
  rintro e w' ⟨rfl, rfl⟩
  go_wp2_with fail
  go_ret
  exact ⟨rfl, rfl⟩

theorem PackNil_walk (w : World) :
    Calls Try.prog 6 #[] w fun e w' => e = .returned (.bool true) ∧ Below w.heap.size w w' := by
  have B0 := Lib.hid (Below.refl w.heap.size w)
  go_enter Try.func6, Try.ntmps6
  go_wp2_with fail
  refine (awake_any _).mono ?_
  rintro e w1 ⟨rfl, b1⟩
  have B1 := Lib.hid (two B0.out b1)
  clear b1
  go_wp2_with fail
  refine (awake_any _).mono ?_
  rintro e w2 ⟨rfl, b2⟩
  have B2 := Lib.hid (two B1.out b2)
  clear b2
  go_wp2_with fail
  refine (mCount _).mono ?_
  rintro e w3 ⟨rfl, b3⟩
  have B3 := Lib.hid (two B2.out b3)
  clear b3
  go_wp2_with fail
  refine (mNumber _).mono ?_
  rintro e w4 ⟨rfl, b4⟩
  have B4 := Lib.hid (two B3.out b4)
  clear b4
  go_wp2_with fail
  refine (mTruth _).mono ?_
  rintro e w5 ⟨rfl, b5⟩
  have B5 := Lib.hid (two B4.out b5)
  clear b5
  go_wp2_with fail
  refine (mText _).mono ?_
  rintro e w6 ⟨rfl, b6⟩
  have B6 := Lib.hid (two B5.out b6)
  clear b6
  go_wp2_with fail
  refine (mSmall _).mono ?_
  rintro e w7 ⟨rfl, b7⟩
  have B7 := Lib.hid (two B6.out b7)
  clear b7
  go_wp2_with fail
  refine (mByte _).mono ?_
  rintro e w8 ⟨rfl, b8⟩
  have B8 := Lib.hid (two B7.out b8)
  clear b8
  go_wp2_with fail
  refine (bad_nil _).mono ?_
  rintro e w' ⟨rfl, rfl⟩
  go_wp2_with fail
  refine (mEnd _).mono ?_
  rintro e w' ⟨rfl, rfl⟩
  go_wp2_with fail
  refine (mLeft _).mono ?_
  rintro e w' ⟨rfl, rfl⟩
  go_wp2_with fail
  go_ret
  exact ⟨rfl, B8.out⟩

/-- It fits 64 bits. (A structure: the walk does not look into it.) -/
structure U64 (n : Nat) : Prop where
  lt : n < 2 ^ 64

theorem csz_unique (n s t : Nat) (hs1 : 1 ≤ s) (hs2 : n < 128 ^ s) (hs3 : s = 1 ∨ 128 ^ (s - 1) ≤ n) (ht1 : 1 ≤ t) (ht2 : n < 128 ^ t) (ht3 : t = 1 ∨ 128 ^ (t - 1) ≤ n) : s = t := by
  have key : ∀ a b : Nat, 1 ≤ a → n < 128 ^ a → (b = 1 ∨ 128 ^ (b - 1) ≤ n) → b ≤ a := by
    intro a b ha h1 h2
    rcases h2 with h | h
    · omega
    · apply Nat.le_of_not_lt
      intro hlt
      have : 128 ^ a ≤ 128 ^ (b - 1) := Nat.pow_le_pow_right (by omega) (by omega)
      omega
  exact Nat.le_antisymm (key t s ht1 ht2 hs3) (key s t hs1 hs2 ht3)

theorem csz_mono (m n : Nat) (hn : n < 2 ^ 64) (h : m ≤ n) : csz m ≤ csz n := by
  obtain ⟨a1, a2, a3, a4⟩ := csz_spec m (by omega)
  obtain ⟨b1, b2, b3, b4⟩ := csz_spec n hn
  apply Nat.le_of_not_lt
  intro hlt
  rcases a4 with h4 | h4
  · omega
  · have : 128 ^ csz n ≤ 128 ^ (csz m - 1) := Nat.pow_le_pow_right (by omega) (by omega)
    omega

theorem csz_zz (k : Int) (h0 : -9223372036854775808 ≤ k) (h1 : k < 9223372036854775808) : csz (zz (-1 - k)) = csz (zz k) := by
  unfold csz
  have : zz (-1 - k) ||| 1 = zz k ||| 1 := by
    rw [or_one, or_one]
    unfold zz
    split <;> split <;> split <;> split <;> omega
  rw [this]
theorem zz_lt (k : Int) (h0 : -9223372036854775808 ≤ k) (h1 : k < 9223372036854775808) : zz k < 2 ^ 64 := by
  unfold zz; split <;> omega

theorem neg_less (k : Int) (h0 : -9223372036854775808 ≤ k) (h1 : k < 9223372036854775808) : wrap64 (wrap64 (-k) - 1) = -1 - k := by
  unfold wrap64; omega

/-- What the law does behind the swap, for the greater count n. -/
def Sizes (n : Nat) (s : Nat) (x : Nat) : Prop := 1 ≤ s ∧ x = n / 128 ^ s ∧ (s = 1 ∨ 128 ^ (s - 1) ≤ n)

theorem Sizes.start (n : Nat) : Sizes n 1 (n / 128) := ⟨by omega, by simp, Or.inl rfl⟩
theorem Sizes.next {n s x : Nat} (h : Sizes n s x) (hx : 0 < x) : Sizes n (s + 1) (x / 128) := by
  obtain ⟨h1, h2, h3⟩ := h
  have hp : 0 < 128 ^ s := Nat.pow_pos (by omega)
  refine ⟨by omega, by rw [h2, Nat.div_div_eq_div_mul, Nat.pow_succ], Or.inr ?_⟩
  rw [Nat.add_sub_cancel]
  apply Nat.le_of_not_lt
  intro hlt
  rw [h2, Nat.div_eq_of_lt hlt] at hx
  omega
theorem Sizes.stop {n s : Nat} (hn : n < 2 ^ 64) (h : Sizes n s 0) : s = csz n := by
  obtain ⟨h1, h2, h3⟩ := h
  have hp : 0 < 128 ^ s := Nat.pow_pos (by omega)
  have hlt : n < 128 ^ s := by
    apply Nat.lt_of_not_le
    intro hle
    have := (Nat.one_le_div_iff hp).2 hle
    omega
  obtain ⟨a, _, c, d⟩ := csz_spec n hn
  exact csz_unique n s (csz n) h1 hlt h3 a c d
theorem Sizes.small {n s x : Nat} (hn : n < 2 ^ 64) (h : Sizes n s x) : s ≤ 10 := by
  obtain ⟨h1, h2, h3⟩ := h
  rcases h3 with h | h
  · omega
  · apply Nat.le_of_not_lt
    intro hlt
    have : 128 ^ 10 ≤ 128 ^ (s - 1) := Nat.pow_le_pow_right (by omega) (by omega)
    omega

set_option maxRecDepth 100000 in
theorem PackSizes_walk (m n : Int) (k : Int) (hm : (Lit.int .u64 m).wf = true) (hn : (Lit.int .u64 n).wf = true) (hk : (Lit.int .i64 k).wf = true) (w : World) :
    Calls Try.prog 7 #[.int .u64 m, .int .u64 n, .int .i64 k] w fun e w' => e = .returned (.bool true) ∧ Below w.heap.size w w' := by
  have hm' : 0 ≤ m ∧ m < 18446744073709551616 := by
    simp [Lit.wf, IntKind.min, IntKind.max, IntKind.signed, IntKind.bits] at hm; omega
  have hn' : 0 ≤ n ∧ n < 18446744073709551616 := by
    simp [Lit.wf, IntKind.min, IntKind.max, IntKind.signed, IntKind.bits] at hn; omega
  have hk' : -9223372036854775808 ≤ k ∧ k < 9223372036854775808 := by
    simp [Lit.wf, IntKind.min, IntKind.max, IntKind.signed, IntKind.bits] at hk; omega
  clear hm hn hk
  obtain ⟨hm0, hm1⟩ := hm'
  obtain ⟨hn0, hn1⟩ := hn'
  obtain ⟨hk0, hk1⟩ := hk'
  obtain ⟨M, rfl⟩ := Int.eq_ofNat_of_zero_le hm0
  obtain ⟨N, rfl⟩ := Int.eq_ofNat_of_zero_le hn0
  have B0 := Lib.hid (Below.refl w.heap.size w)
  have HM : U64 M := ⟨by omega⟩
  have HN : U64 N := ⟨by omega⟩
  have HK0 := Lib.hid hk0
  have HK1 := Lib.hid hk1
  have HNEG := Lib.hid (neg_less k hk0 hk1)
  clear hm1 hn1 hk0 hk1 hm0 hn0
  by_cases hc : M ≤ N
  · have hlo : M ≤ N := by omega
    have HLO := Lib.hid hlo
    clear hlo
    go_enter Try.func7, Try.ntmps7
    go_wp2_with fail
    refine (awake_any _).mono ?_
    rintro e w1 ⟨rfl, b1⟩
    have B1 := Lib.hid (two B0.out b1)
    clear b1
    have hq : (N : Int) / 128 = ((N / 128 : Nat) : Int) := by omega
    have HQ := Lib.hid hq
    clear hq
    go_wp2_with fail
    go_loopw [7, 8] (fun s x wr => ∃ z X : Nat, s = .int .i64 z ∧ x = .int .u64 (X : Int) ∧ Hid (Sizes N z X) ∧ z ≤ 10 ∧ wr = w1) (fun _ x _ => (intOf x).toNat)
    case atStart => exact ⟨1, N / 128, rfl, by rw [← HQ.out], Sizes.start N, by omega, rfl⟩
    case round =>
      obtain ⟨z, X, rfl, rfl, HS, hs10, rfl⟩ := hrel
      by_cases hx : 0 < X
      · have HS2 := HS.out.next hx
        have hs11 := HS2.small (by have := HN.lt; omega)
        have HS3 := Lib.hid HS2
        clear HS2
        go_wp2_with fail
        go_roundw
        case rel => exact ⟨z + 1, X / 128, by go_num, by go_num, HS3, hs11, trivial⟩
        case measure => simp [intOf]; omega
      · obtain rfl : X = 0 := by omega
        have hS := HS.out.stop (by have := HN.lt; omega)
        have e1 := enc_length N (by have := HN.lt; omega)
        have e2 := enc_length M (by have := HM.lt; have := HN.lt; omega)
        have e3 := csz_mono M N (by have := HN.lt; omega) HLO.out
        have l1 : (S (enc N)).size = z := by rw [S_size, e1, ← hS]
        have l2 : (S (enc M)).size ≤ z := by rw [S_size, e2]; omega
        have l3 : (S (enc (zz (-1 - k)))).size = (S (enc (zz k))).size := by
          rw [S_size, S_size, enc_length _ (zz_lt _ (by have := HK1.out; omega) (by have := HK0.out; omega)), enc_length _ (zz_lt _ HK0.out HK1.out), csz_zz k HK0.out HK1.out]
        have L1 := Lib.hid l1
        have L2 := Lib.hid l2
        have L3 := Lib.hid l3
        clear hS e1 e2 e3 l1 l2 l3 hx
        go_wp2_with fail
        refine (awake_any _).mono ?_
        rintro e w2 ⟨rfl, b2⟩
        have B2 := Lib.hid (two B1.out b2)
        clear b2
        go_wp2_with fail
        refine (count_any N HN.lt _).mono ?_
        rintro e w3 ⟨rfl, b3⟩
        have B3 := Lib.hid (two B2.out b3)
        clear b3
        have t1 : (⟨(enc N).toArray⟩ : ByteArray).size = z := L1.out
        go_wp2_with fail
        refine (count_any M HM.lt _).mono ?_
        rintro e w4 ⟨rfl, b4⟩
        have B4 := Lib.hid (two B3.out b4)
        clear b4 t1
        have t2 : (⟨(enc M).toArray⟩ : ByteArray).size ≤ z := L2.out
        go_wp2_with fail
        refine (number_any k HK0.out HK1.out _).mono ?_
        rintro e w5 ⟨rfl, b5⟩
        have B5 := Lib.hid (two B4.out b5)
        clear b5 t2
        go_wp2_with fail
        rw [HNEG.out]
        refine (number_any (-1 - k) (by have := HK1.out; omega) (by have := HK0.out; omega) _).mono ?_
        rintro e w6 ⟨rfl, b6⟩
        have B6 := Lib.hid (two B5.out b6)
        clear b6
        have t3 := L3.out
        go_wp2_with fail
        go_ret
        exact ⟨rfl, B6.out⟩
  · have hlo : N ≤ M := by omega
    have HLO := Lib.hid hlo
    clear hlo
    go_enter Try.func7, Try.ntmps7
    go_wp2_with fail
    refine (awake_any _).mono ?_
    rintro e w1 ⟨rfl, b1⟩
    have B1 := Lib.hid (two B0.out b1)
    clear b1
    have hq : (M : Int) / 128 = ((M / 128 : Nat) : Int) := by omega
    have HQ := Lib.hid hq
    clear hq
    go_wp2_with fail
    go_loopw [7, 8] (fun s x wr => ∃ z X : Nat, s = .int .i64 z ∧ x = .int .u64 (X : Int) ∧ Hid (Sizes M z X) ∧ z ≤ 10 ∧ wr = w1) (fun _ x _ => (intOf x).toNat)
    case atStart => exact ⟨1, M / 128, rfl, by rw [← HQ.out], Sizes.start M, by omega, rfl⟩
    case round =>
      obtain ⟨z, X, rfl, rfl, HS, hs10, rfl⟩ := hrel
      by_cases hx : 0 < X
      · have HS2 := HS.out.next hx
        have hs11 := HS2.small (by have := HM.lt; omega)
        have HS3 := Lib.hid HS2
        clear HS2
        go_wp2_with fail
        go_roundw
        case rel => exact ⟨z + 1, X / 128, by go_num, by go_num, HS3, hs11, trivial⟩
        case measure => simp [intOf]; omega
      · obtain rfl : X = 0 := by omega
        have hS := HS.out.stop (by have := HM.lt; omega)
        have e1 := enc_length M (by have := HM.lt; omega)
        have e2 := enc_length N (by have := HM.lt; have := HN.lt; omega)
        have e3 := csz_mono N M (by have := HM.lt; omega) HLO.out
        have l1 : (S (enc M)).size = z := by rw [S_size, e1, ← hS]
        have l2 : (S (enc N)).size ≤ z := by rw [S_size, e2]; omega
        have l3 : (S (enc (zz (-1 - k)))).size = (S (enc (zz k))).size := by
          rw [S_size, S_size, enc_length _ (zz_lt _ (by have := HK1.out; omega) (by have := HK0.out; omega)), enc_length _ (zz_lt _ HK0.out HK1.out), csz_zz k HK0.out HK1.out]
        have L1 := Lib.hid l1
        have L2 := Lib.hid l2
        have L3 := Lib.hid l3
        clear hS e1 e2 e3 l1 l2 l3 hx
        go_wp2_with fail
        refine (awake_any _).mono ?_
        rintro e w2 ⟨rfl, b2⟩
        have B2 := Lib.hid (two B1.out b2)
        clear b2
        go_wp2_with fail
        refine (count_any M HM.lt _).mono ?_
        rintro e w3 ⟨rfl, b3⟩
        have B3 := Lib.hid (two B2.out b3)
        clear b3
        have t1 : (⟨(enc M).toArray⟩ : ByteArray).size = z := L1.out
        go_wp2_with fail
        refine (count_any N HN.lt _).mono ?_
        rintro e w4 ⟨rfl, b4⟩
        have B4 := Lib.hid (two B3.out b4)
        clear b4 t1
        have t2 : (⟨(enc N).toArray⟩ : ByteArray).size ≤ z := L2.out
        go_wp2_with fail
        refine (number_any k HK0.out HK1.out _).mono ?_
        rintro e w5 ⟨rfl, b5⟩
        have B5 := Lib.hid (two B4.out b5)
        clear b5 t2
        go_wp2_with fail
        rw [HNEG.out]
        refine (number_any (-1 - k) (by have := HK1.out; omega) (by have := HK0.out; omega) _).mono ?_
        rintro e w6 ⟨rfl, b6⟩
        have B6 := Lib.hid (two B5.out b6)
        clear b6
        have t3 := L3.out
        go_wp2_with fail
        go_ret
        exact ⟨rfl, B6.out⟩

end Go.Proofs.Ytjakahpjdjebkab.Pk
