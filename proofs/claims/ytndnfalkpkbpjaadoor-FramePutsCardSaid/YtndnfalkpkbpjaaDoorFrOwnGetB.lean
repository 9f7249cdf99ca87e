/-
  The walk over package frame's own Get, of bytes that are long enough.
-/
import Derived.Test.YtndnfalkpkbpjaaDoorFrOwnGet
import Derived.Deep.RegionHeld
namespace Go.Proofs.YtndnfalkpkbpjaaDoor.Fr
open Go.RowKit

theorem val_one (s : ByteArray) (k : Nat) (h : k < s.size) : val (cut s.data.toList k (k + 1)) = s[k].toNat := by
  have e : cut s.data.toList k (k + 1) = [s[k]] := by
    unfold cut
    rw [show k + 1 - k = 1 by omega, List.take_one]
    have hd : k < s.data.toList.length := by simpa using h
    rw [List.head?_drop, List.getElem?_eq_getElem hd]
    rfl
  rw [e]
  simp [val]

theorem keepW {w a b : World} (h : Below a.heap.size a b) (k : Below w.heap.size w a) : Below w.heap.size w b := two k h

set_option maxRecDepth 100000 in
set_option maxHeartbeats 8000000 in
/-- Get, of bytes that are enough. -/
theorem get_main (s : ByteArray) (hs : s.size ≤ 4000000) (h1 : 21 ≤ s.size) (h2 : cnt s.data.toList ≤ 1048576) (h3 : room (cnt s.data.toList) ≤ s.size) (w : World) :
    Calls Tryd.prog 9 #[.string s] w fun e w' =>
      e = .returned (.tuple #[unitV s.data.toList, .int .i64 (getE s.data.toList : Nat)]) ∧ Below w.heap.size w w' := by
  have h16 : 16 < s.size := Nat.lt_of_lt_of_le (by omega) h1
  have hl := list_size s
  have hti := told_iff s.data.toList (by rw [hl]; exact h3)
  have hE : getE s.data.toList = if told s.data.toList = s.data.toList.take (room (cnt s.data.toList)) then 0 else 4 := by
    unfold getE; rw [hl, if_neg (by omega), if_neg (by omega), if_neg (by omega)]
  have hU : unitV s.data.toList = if getE s.data.toList = 0 then .agg #[.int .u32 (val (cut s.data.toList 4 8) : Nat), .int .u64 (val (cut s.data.toList 8 16) : Nat), .int .i64 (val (cut s.data.toList 16 17) : Nat), .string (S (cut s.data.toList 21 (21 + cnt s.data.toList)))] else noUnit := rfl
  have hroom := room_ge (cnt s.data.toList)
  have hrm : room (cnt s.data.toList) = (cnt s.data.toList + 84) / 64 * 64 := rfl
  have nc := numberC s 17 21 (by omega) (by omega)
  rw [show val (cut s.data.toList 17 21) = cnt s.data.toList from rfl] at nc
  have n1 := numberC s 4 8 (by omega) (by omega)
  have n2 := numberC s 8 16 (by omega) (by omega)
  have hv1 : val (cut s.data.toList 4 8) < 4294967296 := by
    have := val_lt (cut s.data.toList 4 8) 4 (by rw [cut_length _ _ _ (by rw [hl]; omega)]); omega
  have hk := val_one s 16 h16
  rw [hk] at hU
  generalize hN : cnt s.data.toList = N at *
  generalize hR : room N = R at *
  have hck := checksum_any (s.extract 4 (21 + N)) (by unfold maxLen; rw [extract_sz _ _ _ (by omega)]; omega)
  have hzs := zeros_any (s.extract (21 + N) R) (by unfold maxLen; rw [extract_sz _ _ _ (by omega)]; omega)
  rw [S_cut] at hck hzs
  have hcl := clone_any (s.extract 21 (21 + N)) (by rw [extract_sz _ _ _ (by omega)]; omega)
  have hx : s.extract 21 (21 + N) = S (cut s.data.toList 21 (21 + N)) := S_extract s 21 (21 + N)
  have hx0 : (s.extract 0 4).data.toList = cut s.data.toList 0 4 := S_cut s 0 4
  have hsec := sectorsB N h2
  obtain ⟨M, hM⟩ : ∃ M, (N + 84) / 64 = M := ⟨_, rfl⟩
  rw [hM] at hsec hrm
  have hM2 : M ≤ 16385 := by omega
  subst hrm
  generalize getE s.data.toList = E at *
  generalize unitV s.data.toList = U at *
  generalize cut s.data.toList 0 4 = l0 at *
  generalize sumB (cut s.data.toList 4 (21 + N)) = l1 at *
  generalize zerosB (cut s.data.toList (21 + N) (M * 64)) = zb at *
  generalize cut s.data.toList 21 (21 + N) = bd at *
  generalize val (cut s.data.toList 4 8) = a1 at *
  generalize val (cut s.data.toList 8 16) = a2 at *
  have hE2 : E = if l0 = l1 ∧ zb = true then 0 else 4 := by rw [hE]; simp only [hti]
  have HE := Lib.hid hE2
  have HU := Lib.hid hU
  have HX := Lib.hid hx
  have HX0 := Lib.hid hx0
  have hsz : s.size ≤ 4000000 := hs
  have t1 : (21 + (N : Int)).toNat = 21 + N := by omega
  have t2 : ((M : Int) * 64).toNat = M * 64 := by omega
  have t3 : (0 : Int) ≤ 21 + (N : Int) := by omega
  have t4 : (4 : Int) ≤ 21 + (N : Int) := by omega
  have t5 : 21 + (N : Int) ≤ (s.size : Int) := by omega
  have t6 : 21 + (N : Int) ≤ (M : Int) * 64 := by omega
  have t7 : (M : Int) * 64 ≤ (s.size : Int) := by omega
  have t8 : (21 : Int) ≤ 21 + (N : Int) := by omega
  have t9 : (4 : Int) ≤ (s.size : Int) := by omega
  have t10 : ¬ ((s.size : Int) < (M : Int) * 64) := by omega
  have t11 : (8 : Int) ≤ (s.size : Int) := by omega
  have t12 : (16 : Int) ≤ (s.size : Int) := by omega
  have t13 : (16 : Int) < (s.size : Int) := by omega
  have t14 : (4 : Nat) ≤ s.size := by omega
  have t15 : (8 : Nat) ≤ s.size := by omega
  have t16 : (16 : Nat) ≤ s.size := by omega
  have t18 : 4 ≤ 21 + N := by omega
  have t19 : 21 + N ≤ s.size := by omega
  have t20 : 21 + N ≤ M * 64 := by omega
  have t21 : M * 64 ≤ s.size := by omega
  have t22 : 21 ≤ 21 + N := by omega
  have p1 : IntKind.u32.wrap (a1 : Int) = a1 := by rw [IntKind.wrap_u32]; omega
  have hb16 : ((s[16].toNat : Nat) : Int) < 256 := byte_lt s[16]
  have p2 : IntKind.i64.wrap (s[16].toNat : Int) = (s[16].toNat : Int) := by rw [IntKind.wrap_i64]; omega
  clear hE hti hU hx hx0 hE2 hroom hk hM h3 hl hR hN
  have NC := Lib.hid nc
  have HSEC := Lib.hid hsec
  have HCK := Lib.hid hck
  have HZS := Lib.hid hzs
  have HCL := Lib.hid hcl
  have N1 := Lib.hid n1
  have N2 := Lib.hid n2
  have T1 := Lib.hid t1
  have T2 := Lib.hid t2
  have P1 := Lib.hid p1
  have P2 := Lib.hid p2
  clear nc hsec hck hzs hcl n1 n2 p1 p2
  go_enter Tryd.func9, Tryd.ntmps9
  go_wp2_with fail
  refine (NC.out _).mono ?_
  rintro e w1 ⟨rfl, b1⟩
  have hF1 := later4 b1 (unit0 w)
  have HB1 := Lib.hid (keepB (w := w) b1 ⟨rfl, rfl, rfl, by simp, fun _ _ => rfl⟩)
  clear b1
  go_wp2_with fail
  refine (HSEC.out _).mono ?_
  rintro e w2 ⟨rfl, b2⟩
  have hF2 := later4 b2 hF1
  have HB2 := Lib.hid (keepB b2 HB1.out)
  have HF2 := Lib.hid hF2
  have HF2d := Lib.hid (later4 (a := w2) (b := w2.drew) ((Below.refl _ _).drew) hF2)
  clear b2 hF1 hF2
  go_wp2_with fail
  by_cases hl01 : l0 = l1
  · have e5 : ((s.extract 0 4).toList == (S l1).toList) = true := by rw [ByteArray.toList_eq, ByteArray.toList_eq, S_toList, HX0.out, hl01]; simp
    have hck := HCK.out
    have hzs : ∀ w : World, Calls Tryd.prog 17 #[.string (s.extract (21 + N) (M * 64))] w fun e w' => e = .returned (.bool zb) ∧ Below w.heap.size w w' :=
      fun w => (HZS.out w).mono fun _ _ ⟨he, hw⟩ => ⟨he, by rw [← hw]; exact Below.refl _ _⟩
    go_region_held3 (fun w' => Below (w.heap.size + 1) (w.alloc (.cells #[.int .u32 0, .int .u64 0, .int .i64 0, .string ⟨#[]⟩] 25)) w')
      (first
        | assumption
        | exact HB2.out.drew
        | exact keepB (by assumption) (by assumption))
      (first
        | (go_at_call 12; (with_reducible refine (hck _).mono ?_); rintro e w' ⟨rfl, hq⟩; have hT := later4 hq HF2d.out)
        | (go_at_call 17; (with_reducible refine (hzs _).mono ?_); rintro e w' ⟨rfl, hq⟩; have hT := later4 hq (by assumption)))
    have HT := Lib.hid hT
    have HB4 := Lib.hid (by assumption : Below (w.heap.size + 1) _ _)
    clear hT hck hzs HCK HZS HSEC NC
    cases hz : zb with
    | false =>
      have e0 : E = 4 := by rw [HE.out, hz]; simp
      have E0 := Lib.hid e0
      have hT := HT.out
      clear e0 hz
      go_wp2_with fail
      try simp only [Exit.inBlock, Exit.then]
      refine bodyPost_ret (v := (.tuple #[.agg #[.int .u32 0, .int .u64 0, .int .i64 0, .string ⟨#[]⟩], .int .i64 4])) ?_ rfl ⟨by rw [HU.out, E0.out]; rfl, ?_⟩
      focus (rw [results_cell_tmp rfl]; go_simp)
      exact keepR HB4.out
    | true =>
      have e0 : E = 0 := by rw [HE.out, hz]; simp [hl01]
      have E0 := Lib.hid e0
      clear e0 hz
      have hn1 := N1.out
      have hn2 := N2.out
      have hcl := HCL.out
      have p1 := P1.out
      have p2 := P2.out
      go_wp2_with fail
      have HTd := Lib.hid (later4 (Below.refl _ _).drew HT.out)
      have hbw := ((Below.refl w.heap.size w).alloc (Nat.le_refl _) (.cells #[.int .u32 0, .int .u64 0, .int .i64 0, .string ⟨#[]⟩] 25)).trans (HB4.out.mono (by omega))
      have HBW := Lib.hid hbw
      clear hbw
      go_region_held3 (fun w' => Below w.heap.size w w')
        (first
          | assumption
          | exact HBW.out.drew
          | exact keepW (by assumption) (by assumption)
          | exact ((((by assumption : Below w.heap.size w _).setCell (Nat.le_refl _) _).setCell (Nat.le_refl _) _).setCell (Nat.le_refl _) _).setCell (Nat.le_refl _) _)
        (first
          | (go_at_call 16; (with_reducible refine (hn1 _).mono ?_); rintro e w' ⟨rfl, hq⟩; first | (have hT := later4 hq HTd.out) | (have hT := later4 hq (by assumption)))
          | (go_at_call 16; (with_reducible refine (hn2 _).mono ?_); rintro e w' ⟨rfl, hq⟩; first | (have hT := later4 hq HTd.out) | (have hT := later4 hq (by assumption)))
          | (go_at_call 18; (with_reducible refine (hcl _).mono ?_); rintro e w' ⟨rfl, hq⟩; first | (have hT := later4 hq HTd.out) | (have hT := later4 hq (by assumption))))
      all_goals
        go_wp2_with fail
        try simp only [Exit.inBlock, Exit.then]
        refine bodyPost_ret (v := (.tuple #[.agg #[.int .u32 (a1 : Int), .int .u64 (a2 : Int), .int .i64 (s[16].toNat : Int), .string (s.extract 21 (21 + N))], .int .i64 0])) ?_ rfl ⟨by rw [HU.out, E0.out, HX.out]; rfl, by assumption⟩
        focus (rw [results_cell_tmp rfl]; go_simp)
  · have e5 : ((s.extract 0 4).toList == (S l1).toList) = false := by rw [ByteArray.toList_eq, ByteArray.toList_eq, S_toList, HX0.out]; simpa using hl01
    have e0 : E = 4 := by rw [HE.out]; simp [hl01]
    have E0 := Lib.hid e0
    have hck := HCK.out
    have HB2d := Lib.hid HB2.out.drew
    clear e0 hl01
    first
      | (go_region_held (fun w' => Below (w.heap.size + 1) (w.alloc (.cells #[.int .u32 0, .int .u64 0, .int .i64 0, .string ⟨#[]⟩] 25)) w')
          (first
            | assumption
            | exact HB2d.out
            | exact keepB (by assumption) (by assumption))
          (first
            | (go_at_call 12; (with_reducible refine (hck _).mono ?_); rintro e w' ⟨rfl, hq⟩; have hT := later4 hq HF2d.out)))
      | fail
    all_goals
      have HB4 := Lib.hid (by assumption : Below (w.heap.size + 1) _ _)
      go_wp2_with fail
      try simp only [Exit.inBlock, Exit.then]
      refine bodyPost_ret (v := (.tuple #[.agg #[.int .u32 0, .int .u64 0, .int .i64 0, .string ⟨#[]⟩], .int .i64 4])) ?_ rfl ⟨by rw [HU.out, E0.out]; rfl, ?_⟩
      focus (rw [results_cell_tmp rfl]; go_simp)
      exact keepR HB4.out

end Go.Proofs.YtndnfalkpkbpjaaDoor.Fr
