/-
  The walk over the document's own GetHead of package frame.
-/
import Derived.Test.YtndnfalkpkbpjabDoorFrOwnHead
import Derived.Test.YtndnfalkpkbpjabDoorFrRefHeadNo
namespace Go.Proofs.YtndnfalkpkbpjabDoor.Fr
open Go.RowKit

theorem refValueB (s : ByteArray) (a b : Nat) (h : b ≤ s.size) (h2 : b - a ≤ 8) (w : World) :
    Calls Tryd.prog 21 #[.string (s.extract a b)] w fun e w' => e = .returned (.int .u64 (val (cut s.data.toList a b) : Nat)) ∧ Below w.heap.size w w' :=
  (refValue_cut s a b h h2 w).mono fun _ _ ⟨he, hw⟩ => ⟨he, by rw [← hw]; exact Below.refl _ _⟩

set_option maxRecDepth 100000 in
set_option maxHeartbeats 8000000 in
/-- GetHead. -/
theorem refGetHead_any (s : ByteArray) (w : World) :
    Calls Tryd.prog 12 #[.string s] w fun e w' =>
      e = .returned (.tuple #[headV s.data.toList, .bool (gotH s.data.toList)]) ∧ Below w.heap.size w w' := by
  have HL := Lib.hid (list_size s)
  have hb0 := (Below.refl w.heap.size w).alloc (Nat.le_refl _) (.cells #[.int .u32 0, .int .u32 0, .int .u32 0, .int .u64 0] 37)
  have HB0 := Lib.hid hb0
  clear hb0
  by_cases h1 : s.size = 64
  · have hv1 := val4 s.data.toList 5 9 (by rw [HL.out]; omega) rfl
    have hv2 := val4 s.data.toList 9 13 (by rw [HL.out]; omega) rfl
    have hv3 := val4 s.data.toList 13 17 (by rw [HL.out]; omega) rfl
    have hv4 := val8 s.data.toList 17 25 (by rw [HL.out]; omega) rfl
    have n1 := refValueB s 5 9 (by omega) (by omega)
    have n2 := refValueB s 9 13 (by omega) (by omega)
    have n3 := refValueB s 13 17 (by omega) (by omega)
    have n4 := refValueB s 17 25 (by omega) (by omega)
    have hput := refPutHead_any (val (cut s.data.toList 5 9)) (val (cut s.data.toList 9 13)) (val (cut s.data.toList 13 17)) (val (cut s.data.toList 17 25)) hv1 hv2 hv3 hv4
    have HPUT := Lib.hid hput
    clear hput
    have hgot : gotH s.data.toList = (isHead (val (cut s.data.toList 5 9)) (val (cut s.data.toList 9 13)) (val (cut s.data.toList 13 17)) && decide (headL (val (cut s.data.toList 5 9)) (val (cut s.data.toList 9 13)) (val (cut s.data.toList 13 17)) (val (cut s.data.toList 17 25)) = s.data.toList)) := by
      unfold gotH; rw [HL.out, h1]; simp
    have hvv : headV s.data.toList = if gotH s.data.toList = true then .agg #[.int .u32 (val (cut s.data.toList 5 9) : Nat), .int .u32 (val (cut s.data.toList 9 13) : Nat), .int .u32 (val (cut s.data.toList 13 17) : Nat), .int .u64 (val (cut s.data.toList 17 25) : Nat)] else noHead := rfl
    generalize val (cut s.data.toList 5 9) = a1 at *
    generalize val (cut s.data.toList 9 13) = a2 at *
    generalize val (cut s.data.toList 13 17) = a3 at *
    generalize val (cut s.data.toList 17 25) = a4 at *
    have p1 : IntKind.u32.wrap (a1 : Int) = a1 := by rw [IntKind.wrap_u32]; omega
    have p2 : IntKind.u32.wrap (a2 : Int) = a2 := by rw [IntKind.wrap_u32]; omega
    have p3 : IntKind.u32.wrap (a3 : Int) = a3 := by rw [IntKind.wrap_u32]; omega
    generalize gotH s.data.toList = ok at *
    generalize headV s.data.toList = V at *
    have HGOT := Lib.hid hgot
    have HVV := Lib.hid hvv
    have H1 := Lib.hid h1
    have q1 : s.size = 64 := h1
    have q2 : (5 : Nat) ≤ s.size := by omega
    have q3 : (9 : Nat) ≤ s.size := by omega
    have q4 : (13 : Nat) ≤ s.size := by omega
    have q5 : (17 : Nat) ≤ s.size := by omega
    have q6 : (25 : Nat) ≤ s.size := by omega
    clear hgot hvv h1 hv4
    go_enter Tryd.func12, Tryd.ntmps12
    go_upto_region 3 with fail
    go_cut [4] (fun s4 wx => ∃ B : Nat, s4 = .pointer (some ⟨B, 0, none⟩) ∧ Fr4 wx B (.int .u32 (a1 : Int)) (.int .u32 (a2 : Int)) (.int .u32 (a3 : Int)) (.int .u64 (a4 : Int)) ∧ Below (w.heap.size + 1) (w.alloc (.cells #[.int .u32 0, .int .u32 0, .int .u32 0, .int .u64 0] 37)) wx)
    case first =>
      go_region_held3 (fun w' => Below (w.heap.size + 1) (w.alloc (.cells #[.int .u32 0, .int .u32 0, .int .u32 0, .int .u64 0] 37)) w')
        (first
          | exact (Below.refl _ _).drew
          | exact keepB (by assumption) (by assumption)
          | exact keepA (by assumption) _
          | exact keepC (by assumption) (by first | assumption | (simp; done)) _
          | exact ((((by assumption : Below (w.heap.size + 1) _ _).setCell (by first | assumption | (simp; done)) _).setCell (by first | assumption | (simp; done)) _).setCell (by first | assumption | (simp; done)) _).setCell (by first | assumption | (simp; done)) _)
        (first
          | (go_at_call 21; (with_reducible refine (n1 _).mono ?_); rintro e w' ⟨rfl, hq⟩; have hsz := szB hq (by assumption); first | (have hT := newF hq) | (have hT := new4 hq) | (have hT := later4 hq (by assumption)) | skip)
          | (go_at_call 21; (with_reducible refine (n2 _).mono ?_); rintro e w' ⟨rfl, hq⟩; have hsz := szB hq (by assumption); first | (have hT := newF hq) | (have hT := new4 hq) | (have hT := later4 hq (by assumption)) | skip)
          | (go_at_call 21; (with_reducible refine (n3 _).mono ?_); rintro e w' ⟨rfl, hq⟩; have hsz := szB hq (by assumption); first | (have hT := newF hq) | (have hT := new4 hq) | (have hT := later4 hq (by assumption)) | skip)
          | (go_at_call 21; (with_reducible refine (n4 _).mono ?_); rintro e w' ⟨rfl, hq⟩; have hsz := szB hq (by assumption); first | (have hT := newF hq) | (have hT := new4 hq) | (have hT := later4 hq (by assumption)) | skip))
      all_goals
        go_wp2_with fail
        go_meet
        refine ⟨_, rfl, ?_, by assumption⟩
        first
          | with_reducible exact Fr4.alloc _
          | with_reducible exact Fr4.set (by assumption)
    case rest =>
      obtain ⟨B, rfl, hF, hB⟩ := hcut
      have hR := later4 (hB.mono (by simp)) (Fr4.alloc (c0 := .int .u32 0) (c1 := .int .u32 0) (c2 := .int .u32 0) (c3 := .int .u64 0) (T := 37) w)
      have HB := Lib.hid hB
      have HF := Lib.hid hF
      unfold Fr4 at hF
      clear hB n1 n2 n3 n4 p1 p2 p3 q1 q2 q3 q4 q5 q6
      go_wp2_with fail
      refine (HPUT.out _).mono ?_
      rintro e w5 ⟨rfl, b5⟩
      have hF5 := later4 b5 HF.out
      have hR5 := later4 b5 hR
      have HB5 := Lib.hid (keepB b5 HB.out)
      clear b5 hF hR
      cases hh : isHead a1 a2 a3 with
      | false =>
        have e1 : headE a1 a2 a3 = 2 := by unfold headE; rw [hh]; rfl
        have e2 : ok = false := by rw [HGOT.out, hh]; rfl
        have E2 := Lib.hid e2
        rw [e1]
        clear e1 e2 hh
        go_wp2_with fail
        try simp only [Exit.inBlock, Exit.then]
        refine bodyPost_ret (v := (.tuple #[.agg #[.int .u32 0, .int .u32 0, .int .u32 0, .int .u64 0], .bool false])) ?_ rfl ⟨by rw [HVV.out, E2.out]; rfl, ?_⟩
        focus (rw [results_cell_tmp rfl]; go_simp)
        exact keepR HB5.out
      | true =>
        have e1 : headE a1 a2 a3 = 0 := by unfold headE; rw [hh]; rfl
        have e4 : headS a1 a2 a3 a4 = headL a1 a2 a3 a4 := by unfold headS; rw [hh]; rfl
        rw [e1, e4]
        by_cases hq : headL a1 a2 a3 a4 = s.data.toList
        · have e2 : ok = true := by rw [HGOT.out, hh]; simp [hq]
          have E2 := Lib.hid e2
          have e5 : ((S (headL a1 a2 a3 a4)).toList == s.toList) = true := by rw [ByteArray.toList_eq, ByteArray.toList_eq, S_toList, hq]; simp
          clear e1 e4 e2 hh hq
          generalize headL a1 a2 a3 a4 = hl at *
          go_wp2_with fail
          try simp only [Exit.inBlock, Exit.then]
          refine bodyPost_ret (v := (.tuple #[.agg #[.int .u32 (a1 : Int), .int .u32 (a2 : Int), .int .u32 (a3 : Int), .int .u64 (a4 : Int)], .bool true])) ?_ rfl ⟨by rw [HVV.out, E2.out]; rfl, ?_⟩
          focus (rw [results_cell_tmp rfl]; go_simp)
          exact keepR HB5.out
        · have e2 : ok = false := by rw [HGOT.out, hh]; simp [hq]
          have E2 := Lib.hid e2
          have e5 : ((S (headL a1 a2 a3 a4)).toList == s.toList) = false := by rw [ByteArray.toList_eq, ByteArray.toList_eq, S_toList]; simpa using hq
          clear e1 e4 e2 hh hq
          generalize headL a1 a2 a3 a4 = hl at *
          go_wp2_with fail
          try simp only [Exit.inBlock, Exit.then]
          refine bodyPost_ret (v := (.tuple #[.agg #[.int .u32 0, .int .u32 0, .int .u32 0, .int .u64 0], .bool false])) ?_ rfl ⟨by rw [HVV.out, E2.out]; rfl, ?_⟩
          focus (rw [results_cell_tmp rfl]; go_simp)
          exact keepR HB5.out
  · have e2 : gotH s.data.toList = false := by unfold gotH; rw [HL.out]; simp [h1]
    have e3 : headV s.data.toList = noHead := by unfold headV; rw [e2]; rfl
    rw [e2, e3]
    have h2 : ((s.size : Int) == 64) = false := by simp; omega
    have h3 : (s.size == 64) = false := by simpa using h1
    clear h1 e2 e3
    unfold noHead
    go_enter Tryd.func12, Tryd.ntmps12
    go_wp2_with fail
    try simp only [Exit.inBlock, Exit.then]
    refine bodyPost_ret (v := (.tuple #[.agg #[.int .u32 0, .int .u32 0, .int .u32 0, .int .u64 0], .bool false])) ?_ rfl ⟨rfl, ?_⟩
    focus (rw [results_cell_tmp rfl]; go_simp)
    exact HB0.out

end Go.Proofs.YtndnfalkpkbpjabDoor.Fr
