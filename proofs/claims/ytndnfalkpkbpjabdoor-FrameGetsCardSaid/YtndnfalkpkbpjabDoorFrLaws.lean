/-
  What the laws on package frame lean on: Get of anything, of what was put; the examples.
-/
import Derived.Test.YtndnfalkpkbpjabDoorFrOwnGetB
namespace Go.Proofs.YtndnfalkpkbpjabDoor.Fr
open Go.RowKit

/-- Get. -/
theorem get_any (s : ByteArray) (hs : s.size ≤ 4000000) (w : World) :
    Calls Tryd.prog 9 #[.string s] w fun e w' =>
      e = .returned (.tuple #[unitV s.data.toList, .int .i64 (getE s.data.toList : Nat)]) ∧ Below w.heap.size w w' := by
  by_cases h1 : s.size < 21
  · exact get_no s hs (Or.inl h1) w
  · by_cases h2 : 1048576 < cnt s.data.toList
    · exact get_no s hs (Or.inr (Or.inl h2)) w
    · by_cases h3 : s.size < room (cnt s.data.toList)
      · exact get_no s hs (Or.inr (Or.inr h3)) w
      · exact get_main s hs (by omega) (by omega) (by omega) w

/-- Get of what was put, whatever stands behind it. -/
theorem get_unit (serial seq K : Nat) (b : ByteArray) (rest : List UInt8) (h1 : serial < 4294967296) (h2 : seq < 18446744073709551616) (h3 : K ≤ 255) (h4 : b.size ≤ 1048576) (h5 : rest.length ≤ 1000000) (w : World) :
    Calls Tryd.prog 9 #[.string (S (unitL serial seq K b.data.toList ++ rest))] w fun e w' =>
      e = .returned (.tuple #[.agg #[.int .u32 (serial : Int), .int .u64 (seq : Int), .int .i64 (K : Int), .string b], .int .i64 0]) ∧ Below w.heap.size w w' := by
  have hl := list_size b
  obtain ⟨g0, g1, g2, g3, g4, g5⟩ := get_put serial seq K b.data.toList rest (by omega) (by omega) (by omega) (by rw [hl]; omega)
  have hu : unitV (unitL serial seq K b.data.toList ++ rest) = .agg #[.int .u32 (serial : Int), .int .u64 (seq : Int), .int .i64 (K : Int), .string b] := by
    unfold unitV
    rw [g0, if_pos rfl, g1, g2, g3, g4, g5, S_list]
  have h := get_any (S (unitL serial seq K b.data.toList ++ rest)) (by
    rw [S_size, List.length_append, unitL_length, hl]
    unfold room; omega) w
  rw [S_toList, g0, hu] at h
  exact h

theorem put_yes (serial seq K : Nat) (b : ByteArray) (h1 : serial < 4294967296) (h2 : seq < 18446744073709551616) (h3 : K ≤ 255) (h4 : b.size ≤ 1048576) (w : World) :
    Calls Tryd.prog 15 #[.agg #[.int .u32 (serial : Int), .int .u64 (seq : Int), .int .i64 (K : Int), .string b]] w fun e w' =>
      e = .returned (.tuple #[.string (S (unitL serial seq K b.data.toList)), .int .i64 0]) ∧ Below w.heap.size w w' := by
  have h := put_any serial seq K b h1 h2 w
  have hl := list_size b
  have e : putE (K : Int) b.size = 0 := by unfold putE; rw [if_neg (by omega), if_neg (by omega)]
  have e2 : putS serial seq K b.data.toList = unitL serial seq K b.data.toList := by unfold putS; rw [hl, e]; rfl
  rw [e, e2] at h
  exact h

theorem sectors_const (n k : Nat) (h : secs n = k) (w : World) :
    Calls Tryd.prog 16 #[.int .i64 (n : Int)] w fun e w' => e = .returned (.int .i64 (k : Int)) ∧ w = w' := by
  have := sectors_any n w
  rw [h] at this
  exact this

def abc : ByteArray := ⟨#[97, 98, 99]⟩

set_option maxRecDepth 100000 in
set_option maxHeartbeats 1600000 in
/-- The chapter's examples. -/
theorem awake_any (w : World) :
    Calls Tryd.prog 8 #[] w fun e w' => e = .returned (.bool true) ∧ Below w.heap.size w w' := by
  have hp := fun w => put_yes 1 2 3 abc (by omega) (by omega) (by omega) (by show 3 ≤ _; omega) w
  have hg := fun w => get_unit 1 2 3 abc [] (by omega) (by omega) (by omega) (by show 3 ≤ _; omega) (by simp) w
  rw [List.append_nil] at hg
  have hz : (S (unitL 1 2 3 abc.data.toList)).size = 64 := by rw [S_size, unitL_length]; rfl
  have h43 := fun w => sectors_const 43 1 rfl w
  have h44 := fun w => sectors_const 44 2 rfl w
  generalize unitL 1 2 3 abc.data.toList = ul at *
  have HP := Lib.hid hp
  have HG := Lib.hid hg
  have HZ := Lib.hid hz
  have H43 := Lib.hid h43
  have H44 := Lib.hid h44
  clear hp hg hz h43 h44
  unfold abc at HP HG
  go_enter Tryd.func8, Tryd.ntmps8
  go_wp2_with fail
  refine (HP.out _).mono ?_
  rintro e w1 ⟨rfl, b1⟩
  have B1 := Lib.hid b1
  clear b1
  go_wp2_with fail
  refine (HG.out _).mono ?_
  rintro e w2 ⟨rfl, b2⟩
  have B2 := Lib.hid b2
  clear b2
  go_wp2_with fail
  refine (H43.out _).mono ?_
  rintro e w3 ⟨rfl, rfl⟩
  go_wp2_with fail
  refine (H44.out _).mono ?_
  rintro e w4 ⟨rfl, rfl⟩
  have hz := HZ.out
  go_wp2_with fail
  go_ret
  exact ⟨rfl, (two B1.out B2.out).alloc (two B1.out B2.out).size _⟩

end Go.Proofs.YtndnfalkpkbpjabDoor.Fr
