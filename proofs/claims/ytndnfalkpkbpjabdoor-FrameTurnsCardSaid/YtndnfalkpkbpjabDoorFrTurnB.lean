/-
  The walk over the law FrameTurns: what is turned is seen.
-/
import Derived.Test.YtndnfalkpkbpjabDoorFrTurn
namespace Go.Proofs.YtndnfalkpkbpjabDoor.Fr
open Go.RowKit
open Crc (burst tb B)

theorem place_even (a : Int) (n : Nat) (h : 64 ≤ n) (h2 : n ≤ 30000) : ∃ K : Nat, wrap64 (21 + wrap64 ((IntKind.u64.wrap a).tmod ((n : Int) - 24))) = (K : Int) ∧ 21 ≤ K ∧ K + 4 ≤ n := by
  rw [IntKind.wrap_u64]
  have h0 : 0 ≤ a % 18446744073709551616 := by omega
  rw [Int.tmod_eq_emod_of_nonneg h0]
  generalize a % 18446744073709551616 = x at *
  have h3 : 0 ≤ x % ((n : Int) - 24) := Int.emod_nonneg _ (by omega)
  have h4 : x % ((n : Int) - 24) < (n : Int) - 24 := Int.emod_lt_of_pos _ (by omega)
  generalize x % ((n : Int) - 24) = y at *
  obtain ⟨K, rfl⟩ := Int.eq_ofNat_of_zero_le h3
  exact ⟨21 + K, by unfold wrap64; omega, by omega, by omega⟩
theorem place_odd (a : Int) : ∃ K : Nat, wrap64 (4 + wrap64 ((IntKind.u64.wrap a).tmod 10)) = (K : Int) ∧ 4 ≤ K ∧ K + 4 ≤ 17 := by
  rw [IntKind.wrap_u64]
  have h0 : 0 ≤ a % 18446744073709551616 := by omega
  rw [Int.tmod_eq_emod_of_nonneg h0]
  generalize a % 18446744073709551616 = x at *
  obtain ⟨K, hK⟩ := Int.eq_ofNat_of_zero_le (show 0 ≤ x % 10 by omega)
  rw [hK]
  exact ⟨4 + K, by unfold wrap64; omega, by omega, by omega⟩

set_option maxRecDepth 100000 in
set_option maxHeartbeats 3200000 in
/-- FrameTurns, of a unit that is turned. -/
theorem FrameTurns_main (serial seq K0 : Nat) (b : ByteArray) (at_ : Int) (turn : Nat) (h1 : serial < 4294967296) (h2 : seq < 18446744073709551616) (h3 : K0 ≤ 255) (h4 : b.size ≤ 20000) (ht : turn < 4294967296) (ht0 : turn ≠ 0) (w : World) :
    Calls Tryd.prog 6 #[.agg #[.int .u32 (serial : Int), .int .u64 (seq : Int), .int .i64 (K0 : Int), .string b], .int .i64 at_, .int .u32 (turn : Int)] w fun e w' => e = .returned (.bool true) ∧ Below w.heap.size w w' := by
  have HB0 := Lib.hid (alloc1 w (.cells #[.int .u32 (serial : Int), .int .u64 (seq : Int), .int .i64 (K0 : Int), .string b] 26))
  have HU0 := Lib.hid (Fr4.alloc (c0 := .int .u32 (serial : Int)) (c1 := .int .u64 (seq : Int)) (c2 := .int .i64 (K0 : Int)) (c3 := .string b) (T := 26) w)
  have hl := list_size b
  have hp := put_yes serial seq K0 b h1 h2 h3 (by omega)
  have hul : (unitL serial seq K0 b.data.toList).length = room b.size := by rw [unitL_length, hl]
  have hseen : ∀ k, (4 ≤ k ∧ k + 4 ≤ 17) ∨ 21 ≤ k → k + 4 ≤ room b.size → getE (burst (unitL serial seq K0 b.data.toList) k (B turn) 4) = 4 := fun k hk hk2 =>
    get_turned serial seq K0 b.data.toList (by rw [hl]; omega) k (B turn) (B_ne turn ht ht0) hk (by rw [hl]; exact hk2)
  have hroom : 64 ≤ room b.size ∧ room b.size ≤ 30000 := by unfold room; omega
  generalize unitL serial seq K0 b.data.toList = ul at *
  generalize room b.size = R at *
  have hulS : (S ul).size = R := by rw [S_size, hul]
  have hulT : (S ul).data.toList = ul := S_toList ul
  have HP := Lib.hid hp
  have HSEEN := Lib.hid hseen
  have HUL := Lib.hid hul
  have HULT := Lib.hid hulT
  have hr1 := hroom.1
  have hr2 := hroom.2
  have hc1 : decide (20000 < b.size) = false := by simp; omega
  have hc1i : decide ((20000 : Int) < (b.size : Int)) = false := by simp; omega
  have ht1 : ((turn : Int) == 0) = false := by simp; omega
  clear hp hseen hul hulT hl hroom h1 h2
  obtain ⟨Ke, hKe, pe1, pe2⟩ := place_even at_ R hr1 hr2
  obtain ⟨Ko, hKo, po1, po2⟩ := place_odd at_
  have hPE : ((4 ≤ Ke ∧ Ke + 4 ≤ 17) ∨ 21 ≤ Ke) ∧ Ke + 4 ≤ R := by omega
  have hPO : ((4 ≤ Ko ∧ Ko + 4 ≤ 17) ∨ 21 ≤ Ko) ∧ Ko + 4 ≤ R := by omega
  have HPE := Lib.hid hPE
  have HPO := Lib.hid hPO
  have HKE := Lib.hid hKe
  have HKO := Lib.hid hKo
  clear hPE hPO hKe hKo pe1 pe2 po1 po2
  cases hpar : (at_.tmod 2 == 0)
  all_goals
    go_enter Tryd.func6, Tryd.ntmps6
    go_wp2_with fail
    refine (awake_any _).mono ?_
    rintro e w1 ⟨rfl, b1⟩
    have hU1 := later4 b1 HU0.out
    have B1 := Lib.hid (two HB0.out b1)
    clear b1
    go_wp2_with fail
    refine (HP.out _).mono ?_
    rintro e w2 ⟨rfl, b2⟩
    have hU2 := later4 b2 hU1
    have B2 := Lib.hid (two B1.out b2)
    clear b2 hU1
    obtain ⟨cap, w3, hconv, hrow, hbel⟩ := conv_row w2 (S ul)
    have HR := Lib.hid hrow
    have B3 := Lib.hid (two B2.out hbel)
    have B23 := Lib.hid hbel
    have hU3 := later4 hbel hU2
    rw [hulS] at hconv
    clear hrow hbel
    go_wp2_with fail
    first
      | (rw [HKE.out]; have hpl := HPE.out; generalize Ke = K at *)
      | (rw [HKO.out]; have hpl := HPO.out; generalize Ko = K at *)
    have HPL := Lib.hid hpl
    have hk4 := hpl.2
    clear hconv hpl HKE HKO HPE HPO hpar
    have h6 := Crc.burst_zero ul K (B turn)
    rw [HULT.out] at HR
    go_loopw [11, 58] (fun z i wr => ∃ k : Nat, k ≤ 4 ∧ i = .int .i64 k ∧ Row8 wr w2.heap.size (burst ul K (B turn) k) ∧ Below w2.heap.size w2 wr) (fun _ i _ => 4 - (intOf i).toNat)
    case atStart => exact ⟨0, by omega, rfl, by rw [h6]; exact HR.out, B23.out⟩
    case round =>
      obtain ⟨k, hk, rfl, hr, hb⟩ := hrel
      have HR2 := Lib.hid hr
      have HB2 := Lib.hid hb
      clear hr hb h6
      by_cases hlt : k < 4
      · have hcf := HR2.out (K + k) (by rw [Crc.burst_length _ _ _ _ (by rw [HUL.out]; omega), HUL.out]; omega)
        rw [Crc.burst_get _ _ _ _ (by rw [HUL.out]; omega), if_neg (by omega)] at hcf
        obtain ⟨hc, hf⟩ := hcf
        generalize hcv : ul.getD (K + k) 0 = c at *
        have HCV := Lib.hid hcv
        clear hcv
        have hb := byte_lt c
        clear hU3
        go_wp2_with fail
        go_region
        go_wp2
        go_roundw
        case rel =>
          refine ⟨k + 1, by omega, by go_num, ?_, ?_⟩
          · refine Row8_burst _ _ _ _ _ _ (by rw [HUL.out]; omega) HR2.out _ ?_
            rw [HCV.out]
            exact turned_byte c turn ht k
          · exact ((HB2.out.drew).setCell (by simp) _)
        case measure => simp [intOf]; omega
      · obtain rfl : k = 4 := by omega
        have hlen4 := Crc.burst_length ul K (B turn) 4 (by rw [HUL.out]; omega)
        rw [HUL.out] at hlen4
        have hback := HR2.out.back (P := Tryd.prog) 49 9 5 cap Tryd.underlying49 Tryd.underlying5 Tryd.underlying9 R hlen4.symm
        have hget := get_any ⟨(burst ul K (B turn) 4).toArray⟩ (by show (burst ul K (B turn) 4).toArray.size ≤ _; simp [hlen4]; omega)
        rw [show (⟨(burst ul K (B turn) 4).toArray⟩ : ByteArray).data.toList = burst ul K (B turn) 4 by simp, HSEEN.out K HPL.out.1 HPL.out.2] at hget
        have hu : ∃ U, unitV (burst ul K (B turn) 4) = U ∧ U = noUnit := ⟨_, rfl, by unfold unitV; rw [HSEEN.out K HPL.out.1 HPL.out.2]; rfl⟩
        obtain ⟨U, hu1, hu2⟩ := hu
        rw [hu1, hu2] at hget
        unfold noUnit at hget
        have HG := Lib.hid hget
        clear hlen4 hget hu1 hu2 hU3
        go_wp2_with fail
        refine (HG.out _).mono ?_
        rintro e w4 ⟨rfl, b4⟩
        have B4 := Lib.hid (two (two B2.out HB2.out) b4)
        clear b4 hback
        go_wp2_with fail
        refine (awake_any _).mono ?_
        rintro e w5 ⟨rfl, b5⟩
        have B5 := Lib.hid (two (two B4.out (alloc1 _ _)) b5)
        clear b5
        go_wp2_with fail
        go_ret
        exact ⟨rfl, B5.out⟩

theorem FrameTurns_walk (serial seq : Nat) (kind : Int) (b : ByteArray) (at_ : Int) (turn : Nat) (h1 : serial < 4294967296) (h2 : seq < 18446744073709551616) (_ha : (Lit.int .i64 at_).wf = true) (ht : turn < 4294967296) (w : World) :
    Calls Tryd.prog 6 #[.agg #[.int .u32 (serial : Int), .int .u64 (seq : Int), .int .i64 kind, .string b], .int .i64 at_, .int .u32 (turn : Int)] w fun e w' => e = .returned (.bool true) ∧ Below w.heap.size w w' := by
  by_cases hout : 20000 < b.size ∨ putE kind b.size ≠ 0 ∨ turn = 0
  · exact FrameTurns_out serial seq kind b at_ turn h1 h2 hout w
  · have hk : putE kind b.size = 0 := by omega
    have hb : b.size ≤ 20000 := by omega
    have hkk : 0 ≤ kind ∧ kind ≤ 255 := by
      unfold putE at hk
      rw [if_neg (by omega)] at hk
      by_cases h : kind < 0 ∨ 255 < kind
      · rw [if_pos h] at hk; omega
      · omega
    obtain ⟨K, rfl⟩ := Int.eq_ofNat_of_zero_le hkk.1
    exact FrameTurns_main serial seq K b at_ turn h1 h2 (by omega) hb ht (by omega) w

end Go.Proofs.YtndnfalkpkbpjabDoor.Fr
