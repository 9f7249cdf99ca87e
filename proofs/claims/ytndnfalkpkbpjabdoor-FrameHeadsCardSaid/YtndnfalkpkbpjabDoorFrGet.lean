/-
  The walk over the document's own Get of package frame.
-/
import Derived.Test.YtndnfalkpkbpjabDoorFrRef
import Derived.Laws.ResultCell
namespace Go.Proofs.YtndnfalkpkbpjabDoor.Fr
open Go.RowKit

theorem S_cut (s : ByteArray) (a b : Nat) : (s.extract a b).data.toList = cut s.data.toList a b := by
  rw [S_extract, S_toList]; rfl
theorem extract_sz (s : ByteArray) (a b : Nat) (h : b ≤ s.size) : (s.extract a b).size = b - a := by
  rw [S_extract, S_size]; simp; omega

/-- value: of a piece. -/
theorem refValue_cut (s : ByteArray) (a b : Nat) (h : b ≤ s.size) (h2 : b - a ≤ 8) (w : World) :
    Calls Tryd.prog 21 #[.string (s.extract a b)] w fun e w' => e = .returned (.int .u64 (val (cut s.data.toList a b) : Nat)) ∧ w = w' := by
  have := refValue_any (s.extract a b) (by rw [extract_sz s a b h]; exact h2) w
  rwa [S_cut] at this

/-- No unit. -/
def noUnit : Value := .agg #[.int .u32 0, .int .u64 0, .int .i64 0, .string ⟨#[]⟩]
/-- The unit that Get answers. -/
def unitV (l : List UInt8) : Value :=
  if getE l = 0 then .agg #[.int .u32 (val (cut l 4 8) : Nat), .int .u64 (val (cut l 8 16) : Nat), .int .i64 (val (cut l 16 17) : Nat), .string (S (cut l 21 (21 + cnt l)))] else noUnit

set_option maxRecDepth 100000 in
set_option maxHeartbeats 1600000 in
/-- Get, of bytes that are too few, or that tell too many. -/
theorem refGet_no (s : ByteArray) (hs : s.size ≤ 4000000) (hno : s.size < 21 ∨ 1048576 < cnt s.data.toList ∨ s.size < room (cnt s.data.toList)) (w : World) :
    Calls Tryd.prog 10 #[.string s] w fun e w' =>
      e = .returned (.tuple #[unitV s.data.toList, .int .i64 (getE s.data.toList : Nat)]) ∧ Below w.heap.size w w' := by
  have HL := Lib.hid (list_size s)
  have hb0 := (Below.refl w.heap.size w).alloc (Nat.le_refl _) (.cells #[.int .u32 0, .int .u64 0, .int .i64 0, .string ⟨#[]⟩] 30)
  have HB0 := Lib.hid hb0
  clear hb0
  by_cases h1 : s.size < 21
  · have he : getE s.data.toList = 3 := by unfold getE; rw [HL.out, if_pos h1]
    have hv : unitV s.data.toList = noUnit := by unfold unitV; rw [he]; rfl
    rw [he, hv]
    clear he hv
    unfold noUnit
    go_enter Tryd.func10, Tryd.ntmps10
    go_wp2_with fail
    try simp only [Exit.inBlock, Exit.then]
    refine bodyPost_ret (v := (.tuple #[.agg #[.int .u32 0, .int .u64 0, .int .i64 0, .string ⟨#[]⟩], .int .i64 3])) ?_ rfl ⟨rfl, ?_⟩
    focus (rw [results_cell_tmp rfl]; go_simp)
    exact HB0.out
  · have hc := refValue_cut s 17 21 (by omega) (by omega)
    by_cases h2 : 1048576 < cnt s.data.toList
    · have he : getE s.data.toList = 4 := by unfold getE; rw [HL.out, if_neg h1, if_pos h2]
      have hv : unitV s.data.toList = noUnit := by unfold unitV; rw [he]; rfl
      rw [he, hv]
      clear he hv
      unfold noUnit
      go_enter Tryd.func10, Tryd.ntmps10
      go_wp2_with fail
      refine (hc _).mono ?_
      rintro e w1 ⟨rfl, rfl⟩
      rw [show val (cut s.data.toList 17 21) = cnt s.data.toList from rfl]
      go_wp2_with fail
      try simp only [Exit.inBlock, Exit.then]
      refine bodyPost_ret (v := (.tuple #[.agg #[.int .u32 0, .int .u64 0, .int .i64 0, .string ⟨#[]⟩], .int .i64 4])) ?_ rfl ⟨rfl, ?_⟩
      focus (rw [results_cell_tmp rfl]; go_simp)
      exact HB0.out
    · have hE : getE s.data.toList = if s.size < room (cnt s.data.toList) then 3 else if told s.data.toList = s.data.toList.take (room (cnt s.data.toList)) then 0 else 4 := by
        unfold getE; rw [HL.out, if_neg h1, if_neg h2]
      have hroom := room_ge (cnt s.data.toList)
      have hrm : room (cnt s.data.toList) = (cnt s.data.toList + 84) / 64 * 64 := rfl
      obtain ⟨R, hR⟩ : ∃ R, room (cnt s.data.toList) = R := ⟨_, rfl⟩
      obtain ⟨N, hN⟩ : ∃ N, cnt s.data.toList = N := ⟨_, rfl⟩
      rw [hR] at hE hroom hrm
      rw [hN] at hroom hrm h2
      have h2' : N ≤ 1048576 := by omega
      by_cases h3 : s.size < R
      · have he : getE s.data.toList = 3 := by rw [hE, if_pos h3]
        have hv : unitV s.data.toList = noUnit := by unfold unitV; rw [he]; rfl
        rw [he, hv]
        clear he hv hE
        unfold noUnit
        go_enter Tryd.func10, Tryd.ntmps10
        go_wp2_with fail
        refine (hc _).mono ?_
        rintro e w1 ⟨rfl, rfl⟩
        rw [show val (cut s.data.toList 17 21) = N from hN]
        go_wp2_with fail
        try simp only [Exit.inBlock, Exit.then]
        refine bodyPost_ret (v := (.tuple #[.agg #[.int .u32 0, .int .u64 0, .int .i64 0, .string ⟨#[]⟩], .int .i64 3])) ?_ rfl ⟨rfl, ?_⟩
        focus (rw [results_cell_tmp rfl]; go_simp)
        exact HB0.out
      · exfalso; rw [hR] at hno; omega

end Go.Proofs.YtndnfalkpkbpjabDoor.Fr
