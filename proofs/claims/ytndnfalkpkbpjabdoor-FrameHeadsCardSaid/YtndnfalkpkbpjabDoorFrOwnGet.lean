/-
  The walk over package frame's own Get.
-/
import Derived.Test.YtndnfalkpkbpjabDoorFrOwnPut
import Derived.Test.YtndnfalkpkbpjabDoorFrGet
import Derived.Test.YtndnfalkpkbpjabDoorFrOwnMem
import Derived.Test.YtndnfalkpkbpjabDoorShelf
namespace Go.Proofs.YtndnfalkpkbpjabDoor.Fr
open Go.RowKit

theorem clone_any (s : ByteArray) (hs : s.size ≤ 281474976710656) (w : World) :
    Calls Tryd.prog 20 #[.string s] w fun e w' => e = .returned (.string s) ∧ Below w.heap.size w w' := by
  go_enter Tryd.func20, Tryd.ntmps20
  go_wp2_with fail
  refine (Tryd.stringslite_Clone s _ hs).mono ?_
  rintro e w' ⟨rfl, hb⟩
  have HB := Lib.hid hb
  clear hb
  go_wp2_with fail
  go_ret
  exact ⟨rfl, HB.out⟩

theorem cut_cut (l : List UInt8) (a b c : Nat) (h1 : a ≤ b) (h2 : b ≤ c) : cut l a b ++ cut l b c = cut l a c := by
  unfold cut
  have e : l.drop b = (l.drop a).drop (b - a) := by rw [List.drop_drop]; congr 1; omega
  rw [e, show c - a = (b - a) + (c - b) by omega, List.take_add]
theorem cut_all (l : List UInt8) (n : Nat) : cut l 0 n = l.take n := by simp [cut]

theorem zeros_rep (l : List UInt8) : zerosB l = true ↔ l = List.replicate l.length 0 := by
  unfold zerosB
  constructor
  · intro h
    apply List.eq_replicate_iff.2
    refine ⟨rfl, ?_⟩
    intro b hb
    have := List.all_eq_true.1 h b hb
    simpa using this
  · intro h
    rw [h]
    simp

/-- Bytes begin with the unit that they tell just where their sum is that of what stands behind it, and noughts stand behind the body. -/
theorem told_iff (l : List UInt8) (h : room (cnt l) ≤ l.length) :
    told l = l.take (room (cnt l)) ↔ (cut l 0 4 = sumB (cut l 4 (21 + cnt l)) ∧ zerosB (cut l (21 + cnt l) (room (cnt l))) = true) := by
  have hr := room_ge (cnt l)
  have c1 : (cut l 4 8).length = 4 := by rw [cut_length _ _ _ (by omega)]
  have c2 : (cut l 8 16).length = 8 := by rw [cut_length _ _ _ (by omega)]
  have c3 : (cut l 16 17).length = 1 := by rw [cut_length _ _ _ (by omega)]
  have c4 : (cut l 17 21).length = 4 := by rw [cut_length _ _ _ (by omega)]
  have c5 : (cut l 21 (21 + cnt l)).length = cnt l := by rw [cut_length _ _ _ (by omega)]; omega
  have hb : bodyL (val (cut l 4 8)) (val (cut l 8 16)) (val (cut l 16 17)) (cut l 21 (21 + cnt l)) = cut l 4 (21 + cnt l) := by
    unfold bodyL
    rw [c5, be_val _ _ c1, be_val _ _ c2, be_val _ _ c3]
    have e4 : be 4 (cnt l) = cut l 17 21 := be_val _ _ c4
    rw [e4, cut_cut _ _ _ _ (by omega) (by omega), cut_cut _ _ _ _ (by omega) (by omega), cut_cut _ _ _ _ (by omega) (by omega), cut_cut _ _ _ _ (by omega) (by omega)]
  have ht : told l = sumB (cut l 4 (21 + cnt l)) ++ (cut l 4 (21 + cnt l) ++ List.replicate (room (cnt l) - (21 + cnt l)) 0) := by
    unfold told unitL
    rw [hb, c5]
  have hl : l.take (room (cnt l)) = cut l 0 4 ++ (cut l 4 (21 + cnt l) ++ cut l (21 + cnt l) (room (cnt l))) := by
    rw [cut_cut _ _ _ _ (by omega) (by omega), cut_cut _ _ _ _ (by omega) (by omega), cut_all]
  have l0 : (cut l 0 4).length = 4 := by rw [cut_length _ _ _ (by omega)]
  have l1 := sumB_length (cut l 4 (21 + cnt l))
  have l2 : (cut l (21 + cnt l) (room (cnt l))).length = room (cnt l) - (21 + cnt l) := by rw [cut_length _ _ _ (by omega)]
  rw [ht, hl, zeros_rep, l2]
  constructor
  · intro e
    obtain ⟨e1, e2⟩ := List.append_inj e (by omega)
    obtain ⟨_, e3⟩ := List.append_inj e2 rfl
    exact ⟨e1.symm, e3.symm⟩
  · rintro ⟨e1, e2⟩
    rw [e1, e2]

/-- number: of a piece. -/
theorem numberC (s : ByteArray) (a b : Nat) (h : b ≤ s.size) (h2 : b - a ≤ 8) (w : World) :
    Calls Tryd.prog 17 #[.string (s.extract a b)] w fun e w' => e = .returned (.int .u64 (val (cut s.data.toList a b) : Nat)) ∧ Below w.heap.size w w' := by
  have := number_any (s.extract a b) (by rw [extract_sz s a b h]; exact h2) w
  rwa [S_cut] at this

/-- The result's block as Get finds it. -/
theorem unit0 (w : World) : Fr4 (w.alloc (.cells #[.int .u32 0, .int .u64 0, .int .i64 0, .string ⟨#[]⟩] 26)) w.heap.size (.int .u32 0) (.int .u64 0) (.int .i64 0) (.string ⟨#[]⟩) := Fr4.alloc w

set_option maxRecDepth 100000 in
set_option maxHeartbeats 1600000 in
/-- Get, of bytes that are too few, or that tell too many. -/
theorem get_no (s : ByteArray) (hs : s.size ≤ 4000000) (hno : s.size < 21 ∨ 1048576 < cnt s.data.toList ∨ s.size < room (cnt s.data.toList)) (w : World) :
    Calls Tryd.prog 9 #[.string s] w fun e w' =>
      e = .returned (.tuple #[unitV s.data.toList, .int .i64 (getE s.data.toList : Nat)]) ∧ Below w.heap.size w w' := by
  have HL := Lib.hid (list_size s)
  have hb0 := (Below.refl w.heap.size w).alloc (Nat.le_refl _) (.cells #[.int .u32 0, .int .u64 0, .int .i64 0, .string ⟨#[]⟩] 26)
  have HB0 := Lib.hid hb0
  clear hb0
  by_cases h1 : s.size < 21
  · have he : getE s.data.toList = 3 := by unfold getE; rw [HL.out, if_pos h1]
    have hv : unitV s.data.toList = noUnit := by unfold unitV; rw [he]; rfl
    rw [he, hv]
    clear he hv
    unfold noUnit
    go_enter Tryd.func9, Tryd.ntmps9
    go_wp2_with fail
    try simp only [Exit.inBlock, Exit.then]
    refine bodyPost_ret (v := (.tuple #[.agg #[.int .u32 0, .int .u64 0, .int .i64 0, .string ⟨#[]⟩], .int .i64 3])) ?_ rfl ⟨rfl, ?_⟩
    focus (rw [results_cell_tmp rfl]; go_simp)
    exact HB0.out
  · have hc := numberC s 17 21 (by omega) (by omega)
    rw [show val (cut s.data.toList 17 21) = cnt s.data.toList from rfl] at hc
    have HC := Lib.hid hc
    clear hc
    by_cases h2 : 1048576 < cnt s.data.toList
    · have he : getE s.data.toList = 4 := by unfold getE; rw [HL.out, if_neg h1, if_pos h2]
      have hv : unitV s.data.toList = noUnit := by unfold unitV; rw [he]; rfl
      rw [he, hv]
      clear he hv
      unfold noUnit
      go_enter Tryd.func9, Tryd.ntmps9
      go_wp2_with fail
      refine (HC.out _).mono ?_
      rintro e w1 ⟨rfl, b1⟩
      have hF := later4 b1 (unit0 w)
      have HB1 := Lib.hid (keepB (w := w) b1 ⟨rfl, rfl, rfl, by simp, fun _ _ => rfl⟩)
      clear b1
      go_wp2_with fail
      try simp only [Exit.inBlock, Exit.then]
      refine bodyPost_ret (v := (.tuple #[.agg #[.int .u32 0, .int .u64 0, .int .i64 0, .string ⟨#[]⟩], .int .i64 4])) ?_ rfl ⟨rfl, ?_⟩
      focus (rw [results_cell_tmp rfl]; go_simp)
      exact keepR HB1.out
    · have hE : getE s.data.toList = if s.size < room (cnt s.data.toList) then 3 else if told s.data.toList = s.data.toList.take (room (cnt s.data.toList)) then 0 else 4 := by
        unfold getE; rw [HL.out, if_neg h1, if_neg h2]
      have hroom := room_ge (cnt s.data.toList)
      have hrm : room (cnt s.data.toList) = (cnt s.data.toList + 84) / 64 * 64 := rfl
      obtain ⟨R, hR⟩ : ∃ R, room (cnt s.data.toList) = R := ⟨_, rfl⟩
      obtain ⟨N, hN⟩ : ∃ N, cnt s.data.toList = N := ⟨_, rfl⟩
      rw [hR] at hE hroom hrm
      rw [hN] at hroom hrm h2 HC
      have h2' : N ≤ 1048576 := by omega
      by_cases h3 : s.size < R
      · have he : getE s.data.toList = 3 := by rw [hE, if_pos h3]
        have hv : unitV s.data.toList = noUnit := by unfold unitV; rw [he]; rfl
        rw [he, hv]
        clear he hv hE
        unfold noUnit
        have hsec := sectorsB N h2'
        obtain ⟨M, hM⟩ : ∃ M, (N + 84) / 64 = M := ⟨_, rfl⟩
        rw [hM] at hsec hrm
        have hM2 : M ≤ 16385 := by omega
        have h3' : s.size < M * 64 := by omega
        have HSEC := Lib.hid hsec
        clear hsec hM hrm h3 hR hN
        go_enter Tryd.func9, Tryd.ntmps9
        go_wp2_with fail
        refine (HC.out _).mono ?_
        rintro e w1 ⟨rfl, b1⟩
        have hF := later4 b1 (unit0 w)
        have HB1 := Lib.hid (keepB (w := w) b1 ⟨rfl, rfl, rfl, by simp, fun _ _ => rfl⟩)
        clear b1
        go_wp2_with fail
        refine (HSEC.out _).mono ?_
        rintro e w2 ⟨rfl, b2⟩
        have hF2 := later4 b2 hF
        have HB2 := Lib.hid (keepB b2 HB1.out)
        clear b2 hF
        go_wp2_with fail
        try simp only [Exit.inBlock, Exit.then]
        refine bodyPost_ret (v := (.tuple #[.agg #[.int .u32 0, .int .u64 0, .int .i64 0, .string ⟨#[]⟩], .int .i64 3])) ?_ rfl ⟨rfl, ?_⟩
        focus (rw [results_cell_tmp rfl]; go_simp)
        exact keepR HB2.out
      · exfalso; rw [hR] at hno; omega

end Go.Proofs.YtndnfalkpkbpjabDoor.Fr
