/-
  The walks over the laws FrameHeads and FrameGets.
-/
import Derived.Test.YtndnfalkpkbpjabDoorFrBack
import Derived.Test.YtndnfalkpkbpjabDoorFrOwnHead
import Derived.Test.YtndnfalkpkbpjabDoorFrRefHeadGet
import Derived.Test.YtndnfalkpkbpjabDoorFrRefGetB
namespace Go.Proofs.YtndnfalkpkbpjabDoor.Fr
open Go.RowKit

/-- The document's Get. -/
theorem refGet_any (s : ByteArray) (hs : s.size ≤ 4000000) (w : World) :
    Calls Tryd.prog 10 #[.string s] w fun e w' =>
      e = .returned (.tuple #[unitV s.data.toList, .int .i64 (getE s.data.toList : Nat)]) ∧ Below w.heap.size w w' := by
  by_cases h1 : s.size < 21
  · exact refGet_no s hs (Or.inl h1) w
  · by_cases h2 : 1048576 < cnt s.data.toList
    · exact refGet_no s hs (Or.inr (Or.inl h2)) w
    · by_cases h3 : s.size < room (cnt s.data.toList)
      · exact refGet_no s hs (Or.inr (Or.inr h3)) w
      · exact refGet_main s hs (by omega) (by omega) (by omega) w

set_option maxRecDepth 100000 in
set_option maxHeartbeats 3200000 in
theorem FrameHeads_walk (serial base prev seq : Nat) (h1 : serial < 4294967296) (h2 : base < 4294967296) (h3 : prev < 4294967296) (h4 : seq < 18446744073709551616) (w : World) :
    Calls Tryd.prog 4 #[.agg #[.int .u32 (serial : Int), .int .u32 (base : Int), .int .u32 (prev : Int), .int .u64 (seq : Int)]] w fun e w' => e = .returned (.bool true) ∧ Below w.heap.size w w' := by
  have HB0 := Lib.hid (alloc1 w (.cells #[.int .u32 (serial : Int), .int .u32 (base : Int), .int .u32 (prev : Int), .int .u64 (seq : Int)] 34))
  have HU0 := Lib.hid (Fr4.alloc (c0 := .int .u32 (serial : Int)) (c1 := .int .u32 (base : Int)) (c2 := .int .u32 (prev : Int)) (c3 := .int .u64 (seq : Int)) (T := 34) w)
  have hp := putHead_any serial base prev seq h1 h2 h3 h4
  have hq := refPutHead_any serial base prev seq h1 h2 h3 h4
  have hg := getHead_any (S (headS serial base prev seq))
  rw [S_toList] at hg
  cases hh : isHead serial base prev with
  | true =>
    have e1 : headS serial base prev seq = headL serial base prev seq := by unfold headS; rw [hh]; rfl
    have e2 : headE serial base prev = 0 := by unfold headE; rw [hh]; rfl
    obtain ⟨g0, g1, g2, g3, g4⟩ := gotH_put serial base prev seq h1 h2 h3 h4 hh
    have hv : headV (headL serial base prev seq) = .agg #[.int .u32 (serial : Int), .int .u32 (base : Int), .int .u32 (prev : Int), .int .u64 (seq : Int)] := by
      unfold headV; rw [g0, if_pos rfl, g1, g2, g3, g4]
    rw [e1, e2] at hp hq
    rw [e1, g0, hv] at hg
    generalize S (headL serial base prev seq) = sp at *
    have HP := Lib.hid hp
    have HQ := Lib.hid hq
    have HG := Lib.hid hg
    clear hp hq hg e1 e2 g0 g1 g2 g3 g4 hv hh h1 h2 h3 h4
    go_enter Tryd.func4, Tryd.ntmps4
    go_wp2_with fail
    refine (awake_any _).mono ?_
    rintro e w1 ⟨rfl, b1⟩
    have hU1 := later4 b1 HU0.out
    have B1 := Lib.hid (two HB0.out b1)
    clear b1
    go_wp2_with fail
    refine (HP.out _).mono ?_
    rintro e w2 ⟨rfl, b2⟩
    have hU2 := later4 b2 hU1
    have B2 := Lib.hid (two B1.out b2)
    clear b2 hU1
    go_wp2_with fail
    refine (HQ.out _).mono ?_
    rintro e w3 ⟨rfl, b3⟩
    have hU3 := later4 b3 hU2
    have B3 := Lib.hid (two B2.out b3)
    clear b3 hU2
    go_wp2_with fail
    refine (HG.out _).mono ?_
    rintro e w4 ⟨rfl, b4⟩
    have hU4 := later4 b4 hU3
    have B4 := Lib.hid (two B3.out b4)
    clear b4 hU3
    go_wp2_with fail
    refine (awake_any _).mono ?_
    rintro e w5 ⟨rfl, b5⟩
    have hU5 := later4 (two (alloc1 _ _) b5) hU4
    have hV5 := new4 b5
    have B5 := Lib.hid (two (two B4.out (alloc1 _ _)) b5)
    clear b5 hU4
    go_wp2_with fail
    go_ret
    exact ⟨rfl, B5.out⟩
  | false =>
    have e1 : headS serial base prev seq = [] := by unfold headS; rw [hh]; rfl
    have e2 : headE serial base prev = 2 := by unfold headE; rw [hh]; rfl
    have g0 : gotH [] = false := rfl
    have hv : headV [] = noHead := rfl
    rw [e1, e2] at hp hq
    rw [e1, g0, hv] at hg
    unfold noHead at hg
    generalize S [] = sp at *
    have HP := Lib.hid hp
    have HQ := Lib.hid hq
    have HG := Lib.hid hg
    clear hp hq hg e1 e2 g0 hv hh h1 h2 h3 h4
    go_enter Tryd.func4, Tryd.ntmps4
    go_wp2_with fail
    refine (awake_any _).mono ?_
    rintro e w1 ⟨rfl, b1⟩
    have hU1 := later4 b1 HU0.out
    have B1 := Lib.hid (two HB0.out b1)
    clear b1
    go_wp2_with fail
    refine (HP.out _).mono ?_
    rintro e w2 ⟨rfl, b2⟩
    have hU2 := later4 b2 hU1
    have B2 := Lib.hid (two B1.out b2)
    clear b2 hU1
    go_wp2_with fail
    refine (HQ.out _).mono ?_
    rintro e w3 ⟨rfl, b3⟩
    have hU3 := later4 b3 hU2
    have B3 := Lib.hid (two B2.out b3)
    clear b3 hU2
    go_wp2_with fail
    refine (HG.out _).mono ?_
    rintro e w4 ⟨rfl, b4⟩
    have hU4 := later4 b4 hU3
    have B4 := Lib.hid (two B3.out b4)
    clear b4 hU3
    go_wp2_with fail
    refine (awake_any _).mono ?_
    rintro e w5 ⟨rfl, b5⟩
    have hU5 := later4 (two (alloc1 _ _) b5) hU4
    have hV5 := new4 b5
    have B5 := Lib.hid (two (two B4.out (alloc1 _ _)) b5)
    clear b5 hU4
    go_wp2_with fail
    go_ret
    exact ⟨rfl, B5.out⟩

theorem unitV_form (l : List UInt8) : ∃ (a b c : Int) (d : ByteArray), unitV l = .agg #[.int .u32 a, .int .u64 b, .int .i64 c, .string d] := by
  unfold unitV
  split
  · exact ⟨_, _, _, _, rfl⟩
  · exact ⟨_, _, _, _, rfl⟩
theorem headV_form (l : List UInt8) : ∃ (a b c d : Int), headV l = .agg #[.int .u32 a, .int .u32 b, .int .u32 c, .int .u64 d] := by
  unfold headV
  split
  · exact ⟨_, _, _, _, rfl⟩
  · exact ⟨_, _, _, _, rfl⟩

set_option maxRecDepth 100000 in
set_option maxHeartbeats 3200000 in
theorem FrameGets_walk (s : ByteArray) (_hs : s.size ≤ maxLen) (w : World) :
    Calls Tryd.prog 3 #[.string s] w fun e w' => e = .returned (.bool true) ∧ Below w.heap.size w w' := by
  by_cases hc1 : 20000 < s.size
  · clear _hs
    go_enter Tryd.func3, Tryd.ntmps3
    go_wp2_with fail
    refine (awake_any _).mono ?_
    rintro e w1 ⟨rfl, b1⟩
    have B1 := Lib.hid b1
    clear b1
    go_wp2_with fail
    refine (awake_any _).mono ?_
    rintro e w2 ⟨rfl, b2⟩
    have B2 := Lib.hid (two B1.out b2)
    clear b2
    go_wp2_with fail
    go_ret
    exact ⟨rfl, B2.out⟩
  · have hs2 : s.size ≤ 20000 := by omega
    have hg := get_any s (by omega)
    have hr := refGet_any s (by omega)
    have hh := getHead_any s
    have hk := refGetHead_any s
    obtain ⟨a, b, c, d, hu⟩ := unitV_form s.data.toList
    obtain ⟨p, q, r, t, hv⟩ := headV_form s.data.toList
    rw [hu] at hg hr
    rw [hv] at hh hk
    generalize getE s.data.toList = E at *
    generalize gotH s.data.toList = ok at *
    have HG := Lib.hid hg
    have HR := Lib.hid hr
    have HH := Lib.hid hh
    have HK := Lib.hid hk
    clear hg hr hh hk hu hv _hs hc1
    go_enter Tryd.func3, Tryd.ntmps3
    go_wp2_with fail
    refine (awake_any _).mono ?_
    rintro e w1 ⟨rfl, b1⟩
    have B1 := Lib.hid b1
    clear b1
    go_wp2_with fail
    refine (HG.out _).mono ?_
    rintro e w2 ⟨rfl, b2⟩
    have B2 := Lib.hid (two B1.out b2)
    clear b2
    go_wp2_with fail
    refine (HR.out _).mono ?_
    rintro e w3 ⟨rfl, b3⟩
    have hX3 := new4 b3
    have B3 := Lib.hid (two (two B2.out (alloc1 _ _)) b3)
    clear b3
    go_wp2_with fail
    refine (HH.out _).mono ?_
    rintro e w4 ⟨rfl, b4⟩
    have hX4 := later4 (two (alloc1 _ _) b4) hX3
    have hY4 := new4 b4
    have B4 := Lib.hid (two (two B3.out (alloc1 _ _)) b4)
    clear b4 hX3
    go_wp2_with fail
    refine (HK.out _).mono ?_
    rintro e w5 ⟨rfl, b5⟩
    have hX5 := later4 (two (alloc1 _ _) b5) hX4
    have hY5 := later4 (two (alloc1 _ _) b5) hY4
    have hZ5 := new4 b5
    have B5 := Lib.hid (two (two B4.out (alloc1 _ _)) b5)
    clear b5 hX4 hY4
    go_wp2_with fail
    refine (awake_any _).mono ?_
    rintro e w6 ⟨rfl, b6⟩
    have hX6 := later4 (two (alloc1 _ _) b6) hX5
    have hY6 := later4 (two (alloc1 _ _) b6) hY5
    have hZ6 := later4 (two (alloc1 _ _) b6) hZ5
    have hQ6 := new4 b6
    have B6 := Lib.hid (two (two B5.out (alloc1 _ _)) b6)
    clear b6 hX5 hY5 hZ5
    go_wp2_with fail
    go_ret
    exact ⟨rfl, B6.out⟩

end Go.Proofs.YtndnfalkpkbpjabDoor.Fr
