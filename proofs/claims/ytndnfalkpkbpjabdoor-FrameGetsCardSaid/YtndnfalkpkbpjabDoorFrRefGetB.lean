/-
  The walk over the document's own Get of package frame, of bytes that are long enough.
-/
import Derived.Test.YtndnfalkpkbpjabDoorFrOwnGetB
import Derived.Deep.DeepCutAuto
namespace Go.Proofs.YtndnfalkpkbpjabDoor.Fr
open Go.RowKit

theorem refValueC (s : ByteArray) (a b : Nat) (h : b ≤ s.size) (h2 : b - a ≤ 8) (w : World) :
    Calls Tryd.prog 21 #[.string (s.extract a b)] w fun e w' => e = .returned (.int .u64 (val (cut s.data.toList a b) : Nat)) ∧ Below w.heap.size w w' :=
  (refValue_cut s a b h h2 w).mono fun _ _ ⟨he, hw⟩ => ⟨he, by rw [← hw]; exact Below.refl _ _⟩

set_option maxRecDepth 100000 in
set_option maxHeartbeats 8000000 in
/-- Get, of bytes that are enough. -/
theorem refGet_main (s : ByteArray) (hs : s.size ≤ 4000000) (h1 : 21 ≤ s.size) (h2 : cnt s.data.toList ≤ 1048576) (h3 : room (cnt s.data.toList) ≤ s.size) (w : World) :
    Calls Tryd.prog 10 #[.string s] w fun e w' =>
      e = .returned (.tuple #[unitV s.data.toList, .int .i64 (getE s.data.toList : Nat)]) ∧ Below w.heap.size w w' := by
  have h16 : 16 < s.size := Nat.lt_of_lt_of_le (by omega) h1
  have hl := list_size s
  have hE : getE s.data.toList = if told s.data.toList = s.data.toList.take (room (cnt s.data.toList)) then 0 else 4 := by
    unfold getE; rw [hl, if_neg (by omega), if_neg (by omega), if_neg (by omega)]
  have hU : unitV s.data.toList = if getE s.data.toList = 0 then .agg #[.int .u32 (val (cut s.data.toList 4 8) : Nat), .int .u64 (val (cut s.data.toList 8 16) : Nat), .int .i64 (val (cut s.data.toList 16 17) : Nat), .string (S (cut s.data.toList 21 (21 + cnt s.data.toList)))] else noUnit := rfl
  have hroom := room_ge (cnt s.data.toList)
  have hrm : room (cnt s.data.toList) = (cnt s.data.toList + 84) / 64 * 64 := rfl
  have nc := refValueC s 17 21 (by omega) (by omega)
  rw [show val (cut s.data.toList 17 21) = cnt s.data.toList from rfl] at nc
  have n1 := refValueC s 4 8 (by omega) (by omega)
  have n2 := refValueC s 8 16 (by omega) (by omega)
  have hv1 : val (cut s.data.toList 4 8) < 4294967296 := by
    have := val_lt (cut s.data.toList 4 8) 4 (by rw [cut_length _ _ _ (by rw [hl]; omega)]); omega
  have hv2 : val (cut s.data.toList 8 16) < 18446744073709551616 := by
    have := val_lt (cut s.data.toList 8 16) 8 (by rw [cut_length _ _ _ (by rw [hl]; omega)]); omega
  have hk := val_one s 16 h16
  have hbl : (cut s.data.toList 21 (21 + cnt s.data.toList)).length = cnt s.data.toList := by rw [cut_length _ _ _ (by rw [hl]; omega)]; omega
  have hput := refPut_any (val (cut s.data.toList 4 8)) (val (cut s.data.toList 8 16)) (s[16].toNat : Int) (s.extract 21 (21 + cnt s.data.toList)) hv1 hv2
  have hpS : putS (val (cut s.data.toList 4 8)) (val (cut s.data.toList 8 16)) (s[16].toNat : Int) (s.extract 21 (21 + cnt s.data.toList)).data.toList = told s.data.toList := by
    rw [S_cut]
    unfold putS told
    have hc : s[16].toNat < 256 := s[16].toNat_lt
    rw [if_pos (by unfold putE; rw [hbl, if_neg (by omega), if_neg (by omega)]), hk]
    rfl
  rw [hpS] at hput
  rw [hk] at hU
  generalize hN : cnt s.data.toList = N at *
  generalize hR : room N = R at *
  have hx : s.extract 21 (21 + N) = S (cut s.data.toList 21 (21 + N)) := S_extract s 21 (21 + N)
  have hx0 : (s.extract 0 R).data.toList = s.data.toList.take R := by rw [S_cut, cut_all]
  generalize putE (s[16].toNat : Int) (s.extract 21 (21 + N)).size = pe at *
  obtain ⟨M, hM⟩ : ∃ M, (N + 84) / 64 = M := ⟨_, rfl⟩
  rw [hM] at hrm
  have hM2 : M ≤ 16385 := by omega
  subst hrm
  generalize getE s.data.toList = E at *
  generalize unitV s.data.toList = U at *
  generalize told s.data.toList = tl at *
  generalize s.data.toList.take (M * 64) = sl at *
  generalize cut s.data.toList 21 (21 + N) = bd at *
  generalize val (cut s.data.toList 4 8) = a1 at *
  generalize val (cut s.data.toList 8 16) = a2 at *
  have HE := Lib.hid hE
  have HU := Lib.hid hU
  have HX := Lib.hid hx
  have HX0 := Lib.hid hx0
  have hdm : ((N : Int) + 21 + 63) / 64 = (M : Int) := by omega
  have t1 : (21 + (N : Int)).toNat = 21 + N := by omega
  have t2 : ((M : Int) * 64).toNat = M * 64 := by omega
  have t3 : (0 : Int) ≤ 21 + (N : Int) := by omega
  have t5 : 21 + (N : Int) ≤ (s.size : Int) := by omega
  have t7 : (M : Int) * 64 ≤ (s.size : Int) := by omega
  have t8 : (21 : Int) ≤ 21 + (N : Int) := by omega
  have t9 : (4 : Int) ≤ (s.size : Int) := by omega
  have t10 : ¬ ((s.size : Int) < (M : Int) * 64) := by omega
  have t11 : (8 : Int) ≤ (s.size : Int) := by omega
  have t12 : (16 : Int) ≤ (s.size : Int) := by omega
  have t13 : (16 : Int) < (s.size : Int) := by omega
  have t14 : (4 : Nat) ≤ s.size := by omega
  have t15 : (8 : Nat) ≤ s.size := by omega
  have t16 : (16 : Nat) ≤ s.size := by omega
  have t19 : 21 + N ≤ s.size := by omega
  have t21 : M * 64 ≤ s.size := by omega
  have t22 : 21 ≤ 21 + N := by omega
  have t23 : (0 : Int) ≤ (M : Int) * 64 := by omega
  have p1 : IntKind.u32.wrap (a1 : Int) = a1 := by rw [IntKind.wrap_u32]; omega
  have hb16 : ((s[16].toNat : Nat) : Int) < 256 := byte_lt s[16]
  have p2 : IntKind.i64.wrap (s[16].toNat : Int) = (s[16].toNat : Int) := by rw [IntKind.wrap_i64]; omega
  have p3 : IntKind.i64.wrap (21 + (N : Int)) = 21 + (N : Int) := by rw [IntKind.wrap_i64]; omega
  have p4 : IntKind.i64.wrap (N : Int) = (N : Int) := by rw [IntKind.wrap_i64]; omega
  clear hE hU hx hx0 hroom hk hM h3 hl hR hN hpS hbl hv2
  have NC := Lib.hid nc
  have HPUT := Lib.hid hput
  have HDM := Lib.hid hdm
  clear nc hput hdm
  go_enter Tryd.func10, Tryd.ntmps10
  go_wp2_with fail
  refine (NC.out _).mono ?_
  rintro e w1 ⟨rfl, b1⟩
  have HB1 := Lib.hid (keepB (w := w) (o := .cells #[.int .u32 0, .int .u64 0, .int .i64 0, .string ⟨#[]⟩] 30) b1 ⟨rfl, rfl, rfl, by simp, fun _ _ => rfl⟩)
  have HS1 := Lib.hid (szB (w := w) (o := .cells #[.int .u32 0, .int .u64 0, .int .i64 0, .string ⟨#[]⟩] 30) b1 ⟨rfl, rfl, rfl, by simp, fun _ _ => rfl⟩)
  clear b1
  have hdm := HDM.out
  go_upto_region 9 with fail
  go_cut [6] (fun s6 wx => ∃ B : Nat, s6 = .pointer (some ⟨B, 0, none⟩) ∧ Fr4 wx B (.int .u32 (a1 : Int)) (.int .u64 (a2 : Int)) (.int .i64 (s[16].toNat : Int)) (.string (s.extract 21 (21 + N))) ∧ Below (w.heap.size + 1) (w.alloc (.cells #[.int .u32 0, .int .u64 0, .int .i64 0, .string ⟨#[]⟩] 30)) wx)
  case first =>
    have hs1 := HS1.out
    go_region_held3 (fun w' => Below (w.heap.size + 1) (w.alloc (.cells #[.int .u32 0, .int .u64 0, .int .i64 0, .string ⟨#[]⟩] 30)) w')
      (first
        | assumption
        | exact HB1.out.drew
        | exact keepB (by assumption) (by assumption)
        | exact keepA (by assumption) _
        | exact keepC (by assumption) (by first | assumption | (simp; done)) _
        | exact ((((by assumption : Below (w.heap.size + 1) _ _).setCell (by first | assumption | (simp; done)) _).setCell (by first | assumption | (simp; done)) _).setCell (by first | assumption | (simp; done)) _).setCell (by first | assumption | (simp; done)) _)
      (first
        | (go_at_call 21; (with_reducible refine (n1 _).mono ?_); rintro e w' ⟨rfl, hq⟩; have hsz := szB hq (by assumption); first | (have hT := newD hq) | (have hT := new4 hq) | (have hT := later4 hq (by assumption)) | skip)
        | (go_at_call 21; (with_reducible refine (n2 _).mono ?_); rintro e w' ⟨rfl, hq⟩; have hsz := szB hq (by assumption); first | (have hT := newD hq) | (have hT := new4 hq) | (have hT := later4 hq (by assumption)) | skip))
    all_goals
      go_wp2_with fail
      go_meet
      refine ⟨_, rfl, ?_, by assumption⟩
      first
        | with_reducible exact Fr4.alloc _
        | with_reducible exact Fr4.set (by assumption)
  case rest =>
    obtain ⟨B, rfl, hF, hB⟩ := hcut
    have hR := later4 (hB.mono (by simp)) (Fr4.alloc (c0 := .int .u32 0) (c1 := .int .u64 0) (c2 := .int .i64 0) (c3 := .string ⟨#[]⟩) (T := 30) w)
    have HB := Lib.hid hB
    have HF := Lib.hid hF
    unfold Fr4 at hF
    clear hB n1 n2 p1 p2 p3 p4
    go_wp2_with fail
    refine (HPUT.out _).mono ?_
    rintro e w5 ⟨rfl, b5⟩
    have hF5 := later4 b5 HF.out
    have hR5 := later4 b5 hR
    have HB5 := Lib.hid (keepB b5 HB.out)
    clear b5 hF hR
    by_cases hq : tl = sl
    · have e2 : E = 0 := by rw [HE.out]; simp [hq]
      have E2 := Lib.hid e2
      have e5 : ((S tl).toList == (s.extract 0 (M * 64)).toList) = true := by rw [ByteArray.toList_eq, ByteArray.toList_eq, S_toList, HX0.out, hq]; simp
      clear e2 hq
      go_wp2_with fail
      try simp only [Exit.inBlock, Exit.then]
      refine bodyPost_ret (v := (.tuple #[.agg #[.int .u32 (a1 : Int), .int .u64 (a2 : Int), .int .i64 (s[16].toNat : Int), .string (s.extract 21 (21 + N))], .int .i64 0])) ?_ rfl ⟨by rw [HU.out, E2.out, HX.out]; rfl, ?_⟩
      focus (rw [results_cell_tmp rfl]; go_simp)
      exact keepR HB5.out
    · have e2 : E = 4 := by rw [HE.out]; simp [hq]
      have E2 := Lib.hid e2
      have e5 : ((S tl).toList == (s.extract 0 (M * 64)).toList) = false := by rw [ByteArray.toList_eq, ByteArray.toList_eq, S_toList, HX0.out]; simpa using hq
      clear e2 hq
      go_wp2_with fail
      try simp only [Exit.inBlock, Exit.then]
      refine bodyPost_ret (v := (.tuple #[.agg #[.int .u32 0, .int .u64 0, .int .i64 0, .string ⟨#[]⟩], .int .i64 4])) ?_ rfl ⟨by rw [HU.out, E2.out]; rfl, ?_⟩
      focus (rw [results_cell_tmp rfl]; go_simp)
      exact keepR HB5.out

end Go.Proofs.YtndnfalkpkbpjabDoor.Fr
