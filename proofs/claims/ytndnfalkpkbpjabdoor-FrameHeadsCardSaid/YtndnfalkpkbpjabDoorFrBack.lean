/-
  The walk over the law FrameBack.
-/
import Derived.Test.YtndnfalkpkbpjabDoorFrLaws
namespace Go.Proofs.YtndnfalkpkbpjabDoor.Fr
open Go.RowKit

theorem alloc1 (w : World) (o : Obj) : Below w.heap.size w (w.alloc o) := (Below.refl _ _).alloc (Nat.le_refl _) o

set_option maxRecDepth 100000 in
set_option maxHeartbeats 3200000 in
theorem FrameBack_walk (serial seq : Nat) (kind : Int) (b behind : ByteArray) (h1 : serial < 4294967296) (h2 : seq < 18446744073709551616) (_h3 : behind.size ≤ maxLen) (w : World) :
    Calls Tryd.prog 5 #[.agg #[.int .u32 (serial : Int), .int .u64 (seq : Int), .int .i64 kind, .string b], .string behind] w fun e w' => e = .returned (.bool true) ∧ Below w.heap.size w w' := by
  have HB0 := Lib.hid (alloc1 w (.cells #[.int .u32 (serial : Int), .int .u64 (seq : Int), .int .i64 kind, .string b] 26))
  have HU0 := Lib.hid (Fr4.alloc (c0 := .int .u32 (serial : Int)) (c1 := .int .u64 (seq : Int)) (c2 := .int .i64 kind) (c3 := .string b) (T := 26) w)
  by_cases hc1 : 20000 < b.size
  · clear h1 h2
    go_enter Tryd.func5, Tryd.ntmps5
    go_wp2_with fail
    refine (awake_any _).mono ?_
    rintro e w1 ⟨rfl, b1⟩
    have hU1 := later4 b1 HU0.out
    have B1 := Lib.hid (two HB0.out b1)
    clear b1
    go_wp2_with fail
    refine (awake_any _).mono ?_
    rintro e w2 ⟨rfl, b2⟩
    have B2 := Lib.hid (two B1.out b2)
    clear b2
    go_wp2_with fail
    go_ret
    exact ⟨rfl, B2.out⟩
  · have hc1' : decide (20000 < b.size) = false := by simpa using hc1
    have hc1i : decide ((20000 : Int) < (b.size : Int)) = false := by simp; omega
    by_cases hc2 : 1000 < behind.size
    · clear h1 h2 hc1
      go_enter Tryd.func5, Tryd.ntmps5
      go_wp2_with fail
      refine (awake_any _).mono ?_
      rintro e w1 ⟨rfl, b1⟩
      have hU1 := later4 b1 HU0.out
      have B1 := Lib.hid (two HB0.out b1)
      clear b1
      go_wp2_with fail
      refine (awake_any _).mono ?_
      rintro e w2 ⟨rfl, b2⟩
      have B2 := Lib.hid (two B1.out b2)
      clear b2
      go_wp2_with fail
      go_ret
      exact ⟨rfl, B2.out⟩
    · have hc2' : decide (1000 < behind.size) = false := by simpa using hc2
      have hc2i : decide ((1000 : Int) < (behind.size : Int)) = false := by simp; omega
      have hl := list_size b
      have hput := put_any serial seq kind b h1 h2
      by_cases hk : kind < 0 ∨ 255 < kind
      · have he : putE kind b.size = 2 := by unfold putE; rw [if_neg (by omega), if_pos hk]
        rw [he] at hput
        generalize S (putS serial seq kind b.data.toList) = sp at *
        have HP := Lib.hid hput
        clear hput he hk hl hc1 hc2 h1 h2
        go_enter Tryd.func5, Tryd.ntmps5
        go_wp2_with fail
        refine (awake_any _).mono ?_
        rintro e w1 ⟨rfl, b1⟩
        have hU1 := later4 b1 HU0.out
        have B1 := Lib.hid (two HB0.out b1)
        clear b1
        go_wp2_with fail
        refine (HP.out _).mono ?_
        rintro e w2 ⟨rfl, b2⟩
        have B2 := Lib.hid (two B1.out b2)
        clear b2
        go_wp2_with fail
        refine (awake_any _).mono ?_
        rintro e w3 ⟨rfl, b3⟩
        have B3 := Lib.hid (two B2.out b3)
        clear b3
        go_wp2_with fail
        go_ret
        exact ⟨rfl, B3.out⟩
      · obtain ⟨K, rfl⟩ := Int.eq_ofNat_of_zero_le (show 0 ≤ kind by omega)
        have hK : K ≤ 255 := by omega
        have hb20 : b.size ≤ 20000 := by omega
        have hbe : behind.size ≤ 1000 := by omega
        have hp := put_yes serial seq K b h1 h2 hK (by omega)
        have hg := get_unit serial seq K b behind.data.toList h1 h2 hK (by omega) (by rw [list_size]; omega)
        have hcat : S (unitL serial seq K b.data.toList) ++ behind = S (unitL serial seq K b.data.toList ++ behind.data.toList) := by rw [← S_append, S_list]
        have hul : (S (unitL serial seq K b.data.toList)).size = room b.size := by rw [S_size, unitL_length, hl]
        have hsh := get_short serial seq K b.data.toList (by rw [hl]; omega)
        rw [hl] at hsh
        have hr1 := room_ge b.size
        obtain ⟨M, hM⟩ : ∃ M, (b.size + 84) / 64 = M := ⟨_, rfl⟩
        have hroom : room b.size = M * 64 := by unfold room; rw [hM]
        have hM2 : 1 ≤ M ∧ M ≤ 400 := by omega
        rw [hroom] at hul hsh
        have hsec : ∀ w : World, Calls Tryd.prog 16 #[.int .i64 (b.size : Int)] w fun e w' => e = .returned (.int .i64 (M : Int)) ∧ w = w' := fun w => sectors_const b.size M (by unfold secs; rw [if_neg (by omega), Int.toNat_natCast, hM]) w
        have hg2 := get_any ((S (unitL serial seq K b.data.toList)).extract 0 (M * 64 - 64)) (by rw [extract_sz _ _ _ (by rw [hul]; omega)]; omega)
        have hx : ((S (unitL serial seq K b.data.toList)).extract 0 (M * 64 - 64)).data.toList = (unitL serial seq K b.data.toList).take (M * 64 - 64) := by rw [S_cut, S_toList, cut_all]
        rw [hx, hsh] at hg2
        have hn : unitV ((unitL serial seq K b.data.toList).take (M * 64 - 64)) = noUnit := by unfold unitV; rw [hsh]; rfl
        rw [hn] at hg2
        unfold noUnit at hg2
        rw [← hcat] at hg
        generalize unitL serial seq K b.data.toList = ul at *
        have t1 : ((M : Int) * 64 - 64).toNat = M * 64 - 64 := by omega
        have t2 : (0 : Int) ≤ (M : Int) * 64 - 64 := by omega
        have t3 : (64 : Nat) ≤ M * 64 := by omega
        have t4 : M * 64 - 64 ≤ M * 64 := by omega
        have t5 : (S ul).size ≤ 100000 := by omega
        have hulI : ((S ul).size : Int) = (M : Int) * 64 := by omega
        have q3 : ¬ (9223372036854775807 < M * 64 + behind.size) := by omega
        have q4 : M * 64 + behind.size ≤ 9223372036854775807 := by omega
        have hmul : ((M : Int) * 64 == 64 * (M : Int)) = true := by simp; omega
        have HP := Lib.hid hp
        have HG := Lib.hid hg
        have HG2 := Lib.hid hg2
        have HSEC := Lib.hid hsec
        have HUL := Lib.hid hul
        clear hput hcat hp hg hg2 hsec hx hn hsh hr1 hM hroom hl hk hc1 hc2 h1 h2 hulI
        go_enter Tryd.func5, Tryd.ntmps5
        go_wp2_with fail
        refine (awake_any _).mono ?_
        rintro e w1 ⟨rfl, b1⟩
        have hU1 := later4 b1 HU0.out
        have B1 := Lib.hid (two HB0.out b1)
        clear b1
        go_wp2_with fail
        refine (HP.out _).mono ?_
        rintro e w2 ⟨rfl, b2⟩
        have hU2 := later4 b2 hU1
        have B2 := Lib.hid (two B1.out b2)
        clear b2 hU1
        go_wp2_with fail
        refine (HG.out _).mono ?_
        rintro e w3 ⟨rfl, b3⟩
        have hU3 := later4 b3 hU2
        have B3 := Lib.hid (two B2.out b3)
        clear b3 hU2
        go_wp2_with fail
        refine (HG2.out _).mono ?_
        rintro e w4 ⟨rfl, b4⟩
        have hU4 := later4 (two (alloc1 _ _) b4) hU3
        have hV4 := new4 b4
        have B4 := Lib.hid (two (two B3.out (alloc1 _ _)) b4)
        clear b4 hU3
        go_wp2_with fail
        refine (awake_any _).mono ?_
        rintro e w5 ⟨rfl, b5⟩
        have hU5 := later4 (two (alloc1 _ _) b5) hU4
        have hV5 := later4 (two (alloc1 _ _) b5) hV4
        have B5 := Lib.hid (two (two B4.out (alloc1 _ _)) b5)
        clear b5 hU4 hV4
        go_wp2_with fail
        refine (HSEC.out _).mono ?_
        rintro e w6 ⟨rfl, rfl⟩
        go_wp2_with fail
        go_ret
        exact ⟨rfl, B5.out⟩

end Go.Proofs.YtndnfalkpkbpjabDoor.Fr
