/-
  The walks over the six laws of package crc: each returns true, whatever it is given.
-/
import Derived.Test.YtjakahpjdjebkaaCrcWalks
namespace Go.Proofs.Ytjakahpjdjebkaa.Crc
open Go.RowKit

/-- Two steps of 'nothing that was there has changed'. -/
theorem two {a b c : World} (h : Below a.heap.size a b) (k : Below b.heap.size b c) : Below a.heap.size a c := h.trans (k.mono h.size)

theorem CrcSums_walk (s : ByteArray) (hs : s.size ≤ maxLen) (w : World) :
    Calls Try.prog 3 #[.string s] w fun e w' => e = .returned (.bool true) ∧ Below w.heap.size w w' := by
  have HS := Lib.hid hs
  clear hs
  by_cases hl : 20000 < s.size
  · go_enter Try.func3, Try.ntmps3
    go_wp2_with fail
    refine (awake_any _).mono ?_
    rintro e w1 ⟨rfl, b1⟩
    have B1 := Lib.hid b1
    clear b1
    go_wp2_with fail
    refine (awake_any _).mono ?_
    rintro e w2 ⟨rfl, b2⟩
    have B2 := Lib.hid b2
    clear b2
    go_wp2_with fail
    go_ret
    exact ⟨rfl, two B1.out B2.out⟩
  · go_enter Try.func3, Try.ntmps3
    go_wp2_with fail
    refine (awake_any _).mono ?_
    rintro e w1 ⟨rfl, b1⟩
    have B1 := Lib.hid b1
    clear b1
    go_wp2_with fail
    refine (awake_any _).mono ?_
    rintro e w2 ⟨rfl, b2⟩
    have B2 := Lib.hid b2
    clear b2
    go_wp2_with fail
    refine (sum_any _ HS.out _).mono ?_
    rintro e w3 ⟨rfl, b3⟩
    have B3 := Lib.hid b3
    clear b3
    go_wp2_with fail
    refine (refSum_any _ HS.out _).mono ?_
    rintro e w4 ⟨rfl, rfl⟩
    go_wp2_with fail
    go_ret
    exact ⟨rfl, two (two B1.out B2.out) B3.out⟩

theorem CrcMoves_walk (a b n : Int) (ha : (Lit.int .u32 a).wf = true) (_hb : (Lit.int .u32 b).wf = true) (hn : (Lit.int .i64 n).wf = true) (w : World) :
    Calls Try.prog 4 #[.int .u32 a, .int .u32 b, .int .i64 n] w fun e w' => e = .returned (.bool true) ∧ Below w.heap.size w w' := by
  have wa : W32 a := by
    simp [Lit.wf, IntKind.min, IntKind.max, IntKind.signed, IntKind.bits] at ha
    exact ⟨by omega, by omega⟩
  have wn : n < 9223372036854775808 := by
    simp [Lit.wf, IntKind.min, IntKind.max, IntKind.signed, IntKind.bits] at hn
    omega
  have WN := Lib.hid wn
  clear ha hn wn
  by_cases hl : 20000 < n
  · go_enter Try.func4, Try.ntmps4
    go_wp2_with fail
    refine (awake_any _).mono ?_
    rintro e w1 ⟨rfl, b1⟩
    have B1 := Lib.hid b1
    clear b1
    go_wp2_with fail
    refine (awake_any _).mono ?_
    rintro e w2 ⟨rfl, b2⟩
    have B2 := Lib.hid b2
    clear b2
    go_wp2_with fail
    go_ret
    exact ⟨rfl, two B1.out B2.out⟩
  · go_enter Try.func4, Try.ntmps4
    go_wp2_with fail
    refine (awake_any _).mono ?_
    rintro e w1 ⟨rfl, b1⟩
    have B1 := Lib.hid b1
    clear b1
    go_wp2_with fail
    refine (awake_any _).mono ?_
    rintro e w2 ⟨rfl, b2⟩
    have B2 := Lib.hid b2
    clear b2
    go_wp2_with fail
    refine (join_any _ _ _ wa WN.out _).mono ?_
    rintro e w3 ⟨rfl, rfl⟩
    go_wp2_with fail
    refine (refJoin_any _ _ _ wa (by omega) _).mono ?_
    rintro e w4 ⟨rfl, rfl⟩
    go_wp2_with fail
    go_ret
    exact ⟨rfl, two B1.out B2.out⟩

theorem CrcJoins_walk (s t : ByteArray) (hs : s.size ≤ maxLen) (ht : t.size ≤ maxLen) (w : World) :
    Calls Try.prog 5 #[.string s, .string t] w fun e w' => e = .returned (.bool true) ∧ Below w.heap.size w w' := by
  have HS := Lib.hid hs
  have HT := Lib.hid ht
  clear hs ht
  by_cases hl : 20000 < s.size ∨ 20000 < t.size
  · have ho : (decide ((20000 : Int) < s.size) || decide ((20000 : Int) < t.size)) = true := by
      simp; omega
    rcases Nat.lt_or_ge 20000 s.size with h1 | h1
    all_goals
      have h2 : ¬ (20000 < s.size) → 20000 < t.size := by omega
      clear hl ho
      first | (have h3 := h2 (by omega); clear h2) | clear h2
      go_enter Try.func5, Try.ntmps5
      go_wp2_with fail
      refine (awake_any _).mono ?_
      rintro e w1 ⟨rfl, b1⟩
      have B1 := Lib.hid b1
      clear b1
      go_wp2_with fail
      refine (awake_any _).mono ?_
      rintro e w2 ⟨rfl, b2⟩
      have B2 := Lib.hid b2
      clear b2
      go_wp2_with fail
      go_ret
      exact ⟨rfl, two B1.out B2.out⟩
  · have h1 : s.size ≤ 20000 := by omega
    have h2 : t.size ≤ 20000 := by omega
    clear hl
    have hj : joinV (B (V (sum s.data.toList))) (B (V (sum t.data.toList))) (t.size : Int) = sum (s ++ t).data.toList := by
      unfold joinV
      rw [B_V, B_V]
      have e := sum_append s.data.toList t.data.toList
      have hlen : t.data.toList.length = t.size := by simp
      rw [hlen] at e
      simp only [Int.toNat_natCast]
      rw [e]
      congr 1
    have HJ := Lib.hid hj
    clear hj
    have hst : (s ++ t).size ≤ maxLen := by
      unfold maxLen
      simp
      omega
    have HST := Lib.hid hst
    clear hst
    go_enter Try.func5, Try.ntmps5
    go_wp2_with fail
    refine (awake_any _).mono ?_
    rintro e w1 ⟨rfl, b1⟩
    have B1 := Lib.hid b1
    clear b1
    go_wp2_with fail
    refine (awake_any _).mono ?_
    rintro e w2 ⟨rfl, b2⟩
    have B2 := Lib.hid b2
    clear b2
    go_wp2_with fail
    refine (sum_any _ HS.out _).mono ?_
    rintro e w3 ⟨rfl, b3⟩
    have B3 := Lib.hid b3
    clear b3
    go_wp2_with fail
    refine (sum_any _ HT.out _).mono ?_
    rintro e w4 ⟨rfl, b4⟩
    have B4 := Lib.hid b4
    clear b4
    go_wp2_with fail
    refine (join_any _ _ _ (V_w _) (by omega) _).mono ?_
    rintro e w5 ⟨rfl, rfl⟩
    rw [HJ.out]
    go_wp2_with fail
    refine (sum_any _ HST.out _).mono ?_
    rintro e w6 ⟨rfl, b6⟩
    have B6 := Lib.hid b6
    clear b6
    go_wp2_with fail
    go_ret
    exact ⟨rfl, two (two (two (two B1.out B2.out) B3.out) B4.out) B6.out⟩

theorem and_mask (x : Int) (m : Nat) (hm : m < 2 ^ 63) : 0 ≤ bits .and .i64 x (m : Int) ∧ bits .and .i64 x (m : Int) ≤ m := by
  have e : bits .and .i64 x (m : Int) = IntKind.i64.wrap (((BitVec.ofInt 64 x &&& BitVec.ofInt 64 (m : Int)).toNat : Nat) : Int) := rfl
  rw [e, BitVec.ofInt_natCast, BitVec.toNat_and]
  have h1 : (BitVec.ofNat 64 m).toNat = m := by simp; omega
  rw [h1]
  have h2 : (BitVec.ofInt 64 x).toNat &&& m ≤ m := Nat.and_le_right
  rw [IntKind.wrap_i64]
  omega

theorem joinV_joinV (a b c : BitVec 32) (m n : Int) (hm : 0 ≤ m) (hn : 0 ≤ n) : joinV (joinV a b m) c n = joinV a (joinV b c n) (m + n) := by
  unfold joinV
  rw [it_xor, ← it_add, BitVec.xor_assoc]
  congr 2
  omega

theorem joinV_0 (b : BitVec 32) (n : Int) : joinV 0#32 b n = b := by
  unfold joinV; rw [it_zero]; simp

set_option maxRecDepth 100000 in
theorem CrcFar_walk (a m n : Int) (ha : (Lit.int .u32 a).wf = true) (_hm : (Lit.int .i64 m).wf = true) (_hn : (Lit.int .i64 n).wf = true) (w : World) :
    Calls Try.prog 6 #[.int .u32 a, .int .i64 m, .int .i64 n] w fun e w' => e = .returned (.bool true) ∧ Below w.heap.size w w' := by
  have wa : W32 a := by
    simp [Lit.wf, IntKind.min, IntKind.max, IntKind.signed, IntKind.bits] at ha
    exact ⟨by omega, by omega⟩
  clear ha
  obtain ⟨m0, m1⟩ := and_mask m 2305843009213693951 (by omega)
  obtain ⟨n0, n1⟩ := and_mask n 2305843009213693951 (by omega)
  simp only [Int.cast_ofNat_Int] at m0 m1 n0 n1
  obtain ⟨M, hM⟩ : ∃ M, bits BinOp.and IntKind.i64 m 2305843009213693951 = M := ⟨_, rfl⟩
  obtain ⟨N, hN⟩ : ∃ N, bits BinOp.and IntKind.i64 n 2305843009213693951 = N := ⟨_, rfl⟩
  rw [hM] at m0 m1
  rw [hN] at n0 n1
  have hj : joinV (B (V (joinV (B a) (B 0) M))) (B 0) N = joinV (B a) (B 0) (M + N) := by
    rw [B_V, joinV_joinV _ _ _ _ _ m0 n0]
    rw [show B 0 = 0#32 from rfl, joinV_0]
  have HJ := Lib.hid hj
  clear hj
  go_enter Try.func6, Try.ntmps6
  go_wp2_with fail
  refine (awake_any _).mono ?_
  rintro e w1 ⟨rfl, b1⟩
  have B1 := Lib.hid b1
  clear b1
  go_wp2_with fail
  refine (awake_any _).mono ?_
  rintro e w2 ⟨rfl, b2⟩
  have B2 := Lib.hid b2
  clear b2
  go_wp2_with fail
  refine (join_any _ _ _ wa (by omega) _).mono ?_
  rintro e w3 ⟨rfl, rfl⟩
  go_wp2_with fail
  refine (join_any _ _ _ (V_w _) (by omega) _).mono ?_
  rintro e w3 ⟨rfl, rfl⟩
  go_wp2_with fail
  refine (join_any _ _ _ wa (by omega) _).mono ?_
  rintro e w3 ⟨rfl, rfl⟩
  rw [HJ.out]
  go_wp2_with fail
  go_ret
  exact ⟨rfl, two B1.out B2.out⟩

set_option maxRecDepth 100000 in
theorem CrcNests_walk (a b c m n : Int) (ha : (Lit.int .u32 a).wf = true) (hb : (Lit.int .u32 b).wf = true) (_hc : (Lit.int .u32 c).wf = true) (_hm : (Lit.int .i64 m).wf = true) (_hn : (Lit.int .i64 n).wf = true) (w : World) :
    Calls Try.prog 8 #[.int .u32 a, .int .u32 b, .int .u32 c, .int .i64 m, .int .i64 n] w fun e w' => e = .returned (.bool true) ∧ Below w.heap.size w w' := by
  have wa : W32 a := by
    simp [Lit.wf, IntKind.min, IntKind.max, IntKind.signed, IntKind.bits] at ha
    exact ⟨by omega, by omega⟩
  have wb : W32 b := by
    simp [Lit.wf, IntKind.min, IntKind.max, IntKind.signed, IntKind.bits] at hb
    exact ⟨by omega, by omega⟩
  clear ha hb
  obtain ⟨m0, m1⟩ := and_mask m 1152921504606846975 (by omega)
  obtain ⟨n0, n1⟩ := and_mask n 1152921504606846975 (by omega)
  simp only [Int.cast_ofNat_Int] at m0 m1 n0 n1
  obtain ⟨M, hM⟩ : ∃ M, bits BinOp.and IntKind.i64 m 1152921504606846975 = M := ⟨_, rfl⟩
  obtain ⟨N, hN⟩ : ∃ N, bits BinOp.and IntKind.i64 n 1152921504606846975 = N := ⟨_, rfl⟩
  rw [hM] at m0 m1
  rw [hN] at n0 n1
  have hj : joinV (B (V (joinV (B a) (B b) M))) (B c) N = joinV (B a) (B (V (joinV (B b) (B c) N))) (M + N) := by
    rw [B_V, B_V, joinV_joinV _ _ _ _ _ m0 n0]
  have hj2 : V (joinV (B a) (B 0) 0) = a := by
    unfold joinV
    rw [show B 0 = 0#32 from rfl]
    simp [it, V_B _ wa.1 wa.2]
  have hj3 : V (joinV (B 0) (B a) M) = a := by
    rw [show B 0 = 0#32 from rfl, joinV_0, V_B _ wa.1 wa.2]
  have HJ := Lib.hid hj
  have HJ2 := Lib.hid hj2
  have HJ3 := Lib.hid hj3
  clear hj hj2 hj3
  go_enter Try.func8, Try.ntmps8
  go_wp2_with fail
  refine (awake_any _).mono ?_
  rintro e w1 ⟨rfl, b1⟩
  have B1 := Lib.hid b1
  clear b1
  go_wp2_with fail
  refine (awake_any _).mono ?_
  rintro e w2 ⟨rfl, b2⟩
  have B2 := Lib.hid b2
  clear b2
  go_wp2_with fail
  refine (join_any _ _ _ wa (by omega) _).mono ?_
  rintro e w3 ⟨rfl, rfl⟩
  go_wp2_with fail
  refine (join_any _ _ _ (V_w _) (by omega) _).mono ?_
  rintro e w3 ⟨rfl, rfl⟩
  go_wp2_with fail
  refine (join_any _ _ _ wb (by omega) _).mono ?_
  rintro e w3 ⟨rfl, rfl⟩
  go_wp2_with fail
  refine (join_any _ _ _ wa (by omega) _).mono ?_
  rintro e w3 ⟨rfl, rfl⟩
  rw [HJ.out]
  go_wp2_with fail
  refine (join_any _ _ _ wa (by omega) _).mono ?_
  rintro e w3 ⟨rfl, rfl⟩
  rw [HJ2.out]
  go_wp2_with fail
  refine (join_any _ _ _ ⟨by omega, by omega⟩ (by omega) _).mono ?_
  rintro e w3 ⟨rfl, rfl⟩
  rw [HJ3.out]
  go_wp2_with fail
  go_ret
  exact ⟨rfl, two B1.out B2.out⟩

end Go.Proofs.Ytjakahpjdjebkaa.Crc
