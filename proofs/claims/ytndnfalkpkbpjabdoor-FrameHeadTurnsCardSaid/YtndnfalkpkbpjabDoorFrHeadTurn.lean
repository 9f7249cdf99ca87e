/-
  The walk over the law FrameHeadTurns.
-/
import Derived.Test.YtndnfalkpkbpjabDoorFrTurn
import Derived.Test.YtndnfalkpkbpjabDoorFrOwnHead
namespace Go.Proofs.YtndnfalkpkbpjabDoor.Fr
open Go.RowKit
open Crc (burst tb B)

theorem place_head (a : Int) : ∃ K : Nat, wrap64 (4 + wrap64 ((IntKind.u64.wrap a).tmod 57)) = (K : Int) ∧ 4 ≤ K ∧ K + 4 ≤ 64 := by
  rw [IntKind.wrap_u64]
  have h0 : 0 ≤ a % 18446744073709551616 := by omega
  rw [Int.tmod_eq_emod_of_nonneg h0]
  generalize a % 18446744073709551616 = x at *
  obtain ⟨K, hK⟩ := Int.eq_ofNat_of_zero_le (show 0 ≤ x % 57 by omega)
  rw [hK]
  exact ⟨4 + K, by unfold wrap64; omega, by omega, by omega⟩

set_option maxRecDepth 100000 in
set_option maxHeartbeats 3200000 in
/-- FrameHeadTurns, of what plays no part. -/
theorem FrameHeadTurns_out (serial base prev seq : Nat) (at_ : Int) (turn : Nat) (h1 : serial < 4294967296) (h2 : base < 4294967296) (h3 : prev < 4294967296) (h4 : seq < 18446744073709551616) (hout : isHead serial base prev = false ∨ turn = 0) (w : World) :
    Calls Tryd.prog 7 #[.agg #[.int .u32 (serial : Int), .int .u32 (base : Int), .int .u32 (prev : Int), .int .u64 (seq : Int)], .int .i64 at_, .int .u32 (turn : Int)] w fun e w' => e = .returned (.bool true) ∧ Below w.heap.size w w' := by
  have HB0 := Lib.hid (alloc1 w (.cells #[.int .u32 (serial : Int), .int .u32 (base : Int), .int .u32 (prev : Int), .int .u64 (seq : Int)] 34))
  have HU0 := Lib.hid (Fr4.alloc (c0 := .int .u32 (serial : Int)) (c1 := .int .u32 (base : Int)) (c2 := .int .u32 (prev : Int)) (c3 := .int .u64 (seq : Int)) (T := 34) w)
  have hput := putHead_any serial base prev seq h1 h2 h3 h4
  generalize S (headS serial base prev seq) = sp at *
  cases hh : isHead serial base prev with
  | false =>
    have e : headE serial base prev = 2 := by unfold headE; rw [hh]; rfl
    rw [e] at hput
    have HP := Lib.hid hput
    clear hput hout h1 h2 h3 h4 e hh
    go_enter Tryd.func7, Tryd.ntmps7
    go_wp2_with fail
    refine (awake_any _).mono ?_
    rintro e w1 ⟨rfl, b1⟩
    have hU1 := later4 b1 HU0.out
    have B1 := Lib.hid (two HB0.out b1)
    clear b1
    go_wp2_with fail
    refine (HP.out _).mono ?_
    rintro e w2 ⟨rfl, b2⟩
    have hU2 := later4 b2 hU1
    have B2 := Lib.hid (two B1.out b2)
    clear b2 hU1
    go_wp2_with fail
    refine (awake_any _).mono ?_
    rintro e w3 ⟨rfl, b3⟩
    have B3 := Lib.hid (two B2.out b3)
    clear b3
    go_wp2_with fail
    go_ret
    exact ⟨rfl, B3.out⟩
  | true =>
    have ht : turn = 0 := by
      rcases hout with h | h
      · rw [hh] at h; cases h
      · exact h
    subst ht
    have e : headE serial base prev = 0 := by unfold headE; rw [hh]; rfl
    rw [e] at hput
    have HP := Lib.hid hput
    clear hput hout h1 h2 h3 h4 e hh
    go_enter Tryd.func7, Tryd.ntmps7
    go_wp2_with fail
    refine (awake_any _).mono ?_
    rintro e w1 ⟨rfl, b1⟩
    have hU1 := later4 b1 HU0.out
    have B1 := Lib.hid (two HB0.out b1)
    clear b1
    go_wp2_with fail
    refine (HP.out _).mono ?_
    rintro e w2 ⟨rfl, b2⟩
    have hU2 := later4 b2 hU1
    have B2 := Lib.hid (two B1.out b2)
    clear b2 hU1
    go_wp2_with fail
    refine (awake_any _).mono ?_
    rintro e w3 ⟨rfl, b3⟩
    have B3 := Lib.hid (two B2.out b3)
    clear b3
    go_wp2_with fail
    go_ret
    exact ⟨rfl, B3.out⟩

set_option maxRecDepth 100000 in
set_option maxHeartbeats 3200000 in
/-- FrameHeadTurns, of a head that is turned. -/
theorem FrameHeadTurns_main (serial base prev seq : Nat) (at_ : Int) (turn : Nat) (h1 : serial < 4294967296) (h2 : base < 4294967296) (h3 : prev < 4294967296) (h4 : seq < 18446744073709551616) (hh : isHead serial base prev = true) (ht : turn < 4294967296) (ht0 : turn ≠ 0) (w : World) :
    Calls Tryd.prog 7 #[.agg #[.int .u32 (serial : Int), .int .u32 (base : Int), .int .u32 (prev : Int), .int .u64 (seq : Int)], .int .i64 at_, .int .u32 (turn : Int)] w fun e w' => e = .returned (.bool true) ∧ Below w.heap.size w w' := by
  have HB0 := Lib.hid (alloc1 w (.cells #[.int .u32 (serial : Int), .int .u32 (base : Int), .int .u32 (prev : Int), .int .u64 (seq : Int)] 34))
  have HU0 := Lib.hid (Fr4.alloc (c0 := .int .u32 (serial : Int)) (c1 := .int .u32 (base : Int)) (c2 := .int .u32 (prev : Int)) (c3 := .int .u64 (seq : Int)) (T := 34) w)
  have hp := putHead_any serial base prev seq h1 h2 h3 h4
  have e1 : headS serial base prev seq = headL serial base prev seq := by unfold headS; rw [hh]; rfl
  have e2 : headE serial base prev = 0 := by unfold headE; rw [hh]; rfl
  rw [e1, e2] at hp
  have hul : (headL serial base prev seq).length = 64 := headL_length serial base prev seq
  have hseen : ∀ k, 4 ≤ k → k + 4 ≤ 64 → gotH (burst (headL serial base prev seq) k (B turn) 4) = false := fun k hk hk2 =>
    gotH_turned serial base prev seq k (B turn) (B_ne turn ht ht0) hk hk2
  generalize headL serial base prev seq = ul at *
  have hulS : (S ul).size = 64 := by rw [S_size, hul]
  have hulT : (S ul).data.toList = ul := S_toList ul
  have HP := Lib.hid hp
  have HSEEN := Lib.hid hseen
  have HUL := Lib.hid hul
  have HULT := Lib.hid hulT
  have ht1 : ((turn : Int) == 0) = false := by simp; omega
  obtain ⟨K, hK, pk1, pk2⟩ := place_head at_
  have HK := Lib.hid hK
  clear hp hseen hul hulT h1 h2 h3 h4 hh hK e1 e2
  go_enter Tryd.func7, Tryd.ntmps7
  go_wp2_with fail
  refine (awake_any _).mono ?_
  rintro e w1 ⟨rfl, b1⟩
  have hU1 := later4 b1 HU0.out
  have B1 := Lib.hid (two HB0.out b1)
  clear b1
  go_wp2_with fail
  refine (HP.out _).mono ?_
  rintro e w2 ⟨rfl, b2⟩
  have hU2 := later4 b2 hU1
  have B2 := Lib.hid (two B1.out b2)
  clear b2 hU1
  obtain ⟨cap, w3, hconv, hrow, hbel⟩ := conv_row w2 (S ul)
  have HR := Lib.hid hrow
  have B3 := Lib.hid (two B2.out hbel)
  have B23 := Lib.hid hbel
  rw [hulS] at hconv
  clear hrow hbel
  go_wp2_with fail
  rw [HK.out]
  clear hconv
  have h6 := Crc.burst_zero ul K (B turn)
  rw [HULT.out] at HR
  go_loopw [11, 39] (fun z i wr => ∃ k : Nat, k ≤ 4 ∧ i = .int .i64 k ∧ Row8 wr w2.heap.size (burst ul K (B turn) k) ∧ Below w2.heap.size w2 wr) (fun _ i _ => 4 - (intOf i).toNat)
  case atStart => exact ⟨0, by omega, rfl, by rw [h6]; exact HR.out, B23.out⟩
  case round =>
    obtain ⟨k, hk, rfl, hr, hb⟩ := hrel
    have HR2 := Lib.hid hr
    have HB2 := Lib.hid hb
    clear hr hb h6
    by_cases hlt : k < 4
    · have hcf := HR2.out (K + k) (by rw [Crc.burst_length _ _ _ _ (by rw [HUL.out]; omega), HUL.out]; omega)
      rw [Crc.burst_get _ _ _ _ (by rw [HUL.out]; omega), if_neg (by omega)] at hcf
      obtain ⟨hc, hf⟩ := hcf
      generalize hcv : ul.getD (K + k) 0 = c at *
      have HCV := Lib.hid hcv
      clear hcv
      have hb := byte_lt c
      go_wp2_with fail
      go_region
      go_wp2
      go_roundw
      case rel =>
        refine ⟨k + 1, by omega, by go_num, ?_, ?_⟩
        · refine Row8_burst _ _ _ _ _ _ (by rw [HUL.out]; omega) HR2.out _ ?_
          rw [HCV.out]
          exact turned_byte c turn ht k
        · exact ((HB2.out.drew).setCell (by simp) _)
      case measure => simp [intOf]; omega
    · obtain rfl : k = 4 := by omega
      have hlen4 := Crc.burst_length ul K (B turn) 4 (by rw [HUL.out]; omega)
      rw [HUL.out] at hlen4
      have hback := HR2.out.back (P := Tryd.prog) 49 9 5 cap Tryd.underlying49 Tryd.underlying5 Tryd.underlying9 64 hlen4.symm
      have hget := getHead_any ⟨(burst ul K (B turn) 4).toArray⟩
      rw [show (⟨(burst ul K (B turn) 4).toArray⟩ : ByteArray).data.toList = burst ul K (B turn) 4 by simp, HSEEN.out K pk1 pk2] at hget
      have hu : headV (burst ul K (B turn) 4) = noHead := by unfold headV; rw [HSEEN.out K pk1 pk2]; rfl
      rw [hu] at hget
      unfold noHead at hget
      have HG := Lib.hid hget
      clear hlen4 hget hu
      go_wp2_with fail
      refine (HG.out _).mono ?_
      rintro e w4 ⟨rfl, b4⟩
      have B4 := Lib.hid (two (two B2.out HB2.out) b4)
      clear b4 hback
      go_wp2_with fail
      refine (awake_any _).mono ?_
      rintro e w5 ⟨rfl, b5⟩
      have B5 := Lib.hid (two (two B4.out (alloc1 _ _)) b5)
      clear b5
      go_wp2_with fail
      go_ret
      exact ⟨rfl, B5.out⟩

theorem FrameHeadTurns_walk (serial base prev seq : Nat) (at_ : Int) (turn : Nat) (h1 : serial < 4294967296) (h2 : base < 4294967296) (h3 : prev < 4294967296) (h4 : seq < 18446744073709551616) (_ha : (Lit.int .i64 at_).wf = true) (ht : turn < 4294967296) (w : World) :
    Calls Tryd.prog 7 #[.agg #[.int .u32 (serial : Int), .int .u32 (base : Int), .int .u32 (prev : Int), .int .u64 (seq : Int)], .int .i64 at_, .int .u32 (turn : Int)] w fun e w' => e = .returned (.bool true) ∧ Below w.heap.size w w' := by
  cases hh : isHead serial base prev with
  | false => exact FrameHeadTurns_out serial base prev seq at_ turn h1 h2 h3 h4 (Or.inl hh) w
  | true =>
    by_cases h0 : turn = 0
    · exact FrameHeadTurns_out serial base prev seq at_ turn h1 h2 h3 h4 (Or.inr h0) w
    · exact FrameHeadTurns_main serial base prev seq at_ turn h1 h2 h3 h4 hh ht h0 w

end Go.Proofs.YtndnfalkpkbpjabDoor.Fr
