/-
  Several texts in one: EvSh1, EvSh2.
-/
import Derived.Test.YtabbdkdpmpjchaaGreatDoorZTzSa
namespace Go.Proofs.YtabbdkdpmpjchaaGreatDoor.Ev
open Go.RowKit
open Ex Lx Va Ty
set_option linter.unusedVariables false
set_option linter.unusedSimpArgs false
set_option maxRecDepth 100000 in
set_option maxHeartbeats 8000000 in
theorem short_1 (a : T) (pa : Option Addr) (ca : Nat) (b : T) (pb : Option Addr) (cb : Nat) (v : En) (r : Rows) (w : World) (hfa : FAt w (fun _ => True) a.args pa) (hfita : a.row.fits) (hnumsa : a.row.nums) (hfb : FAt w (fun _ => True) b.args pb) (hfitb : b.row.fits) (hnumsb : b.row.nums) (hen : EnAt w r.pa r.pv r.pn r.pf v) (hB : EnBig v) (htab : Va.Tab w) (hC : ConsAt w) (h1 : smallV v = false) :
    Calls Tryz.prog 9 #[.agg #[.int .i64 a.op, .int .i64 a.num, .string (S a.text), .slice pa a.args.len ca], .agg #[.int .i64 b.op, .int .i64 b.num, .string (S b.text), .slice pb b.args.len cb], .agg (envC v r)] w fun e w' => e = .returned (.bool true) ∧ Below w.heap.size w w' := by
  have hb1 := (((Below.refl w.heap.size w).alloc (Nat.le_refl _) (.cells #[.int .i64 a.op, .int .i64 a.num, .string (S a.text), .slice pa a.args.len ca] 24)).alloc (by simp) (.cells #[.int .i64 b.op, .int .i64 b.num, .string (S b.text), .slice pb b.args.len cb] 24)).alloc (by simp; omega) (.cells #[.slice r.pa v.attrs.length r.ca, .slice r.pv v.vals.length r.cv, .slice r.pn v.names.length r.cn, .slice r.pf v.fields.length r.cf] 55)
  have hv1 : ShV a b pa pb ca cb v r w.heap.size (((w.alloc (.cells #[.int .i64 a.op, .int .i64 a.num, .string (S a.text), .slice pa a.args.len ca] 24)).alloc (.cells #[.int .i64 b.op, .int .i64 b.num, .string (S b.text), .slice pb b.args.len cb] 24)).alloc (.cells #[.slice r.pa v.attrs.length r.ca, .slice r.pv v.vals.length r.cv, .slice r.pn v.names.length r.cn, .slice r.pf v.fields.length r.cf] 55)) := ⟨laterE (laterE (Bx.new w _ _ _ _) ((Below.refl _ _).alloc (Nat.le_refl _) _)) ((Below.refl _ _).alloc (Nat.le_refl _) _), laterE (new_box (w.alloc (.cells #[.int .i64 a.op, .int .i64 a.num, .string (S a.text), .slice pa a.args.len ca] 24)) _ _ _ (by simp)) ((Below.refl _ _).alloc (Nat.le_refl _) _), new_box _ _ _ _ (by simp)⟩
  have AW := Lib.hid (fun W (k : Below w.heap.size w W) => awake_any W (htab.below k) (hC.keep (Kept.of_below (ok := fun _ => True) k) trivial))
  have PR := Lib.hid (fun (o : Int) W (k : Below w.heap.size w W) => rprint_any ⟨o, 0, [], Ex.two a b⟩ (junc_fits o hfita hfitb) (junc_nums o hnumsa hnumsb) (some ⟨W.heap.size, 0, none⟩) 2 (W.alloc (ab8 a b pa pb ca cb)) (ab_at hfa hfb k))
  have SM := Lib.hid (fun W (k : Below w.heap.size w W) => Ev.small_any v r W (en_later hen k) hB)
  have OA := Lib.hid (fun (hsm : smallV v = true) W (k : Below w.heap.size w W) => evOf_any v r (hB.fit hsm) a hfita hnumsa pa ca W (en_later hen k) (hfa.keep (Kept.of_below k)) (htab.below k) (hC.keep (Kept.of_below (ok := fun _ => True) k) trivial))
  have OB := Lib.hid (fun (hsm : smallV v = true) W (k : Below w.heap.size w W) => evOf_any v r (hB.fit hsm) b hfitb hnumsb pb cb W (en_later hen k) (hfb.keep (Kept.of_below k)) (htab.below k) (hC.keep (Kept.of_below (ok := fun _ => True) k) trivial))
  have OJ := Lib.hid (fun (hsm : smallV v = true) (o : Int) W (k : Below w.heap.size w W) => have k2 := k.alloc k.size (ab8 a b pa pb ca cb); evOf_any v r (hB.fit hsm) ⟨o, 0, [], Ex.two a b⟩ (junc_fits o hfita hfitb) (junc_nums o hnumsa hnumsb) (some ⟨W.heap.size, 0, none⟩) 2 (W.alloc (ab8 a b pa pb ca cb)) (en_later hen k2) (ab_at hfa hfb k) (htab.below k2) (hC.keep (Kept.of_below (ok := fun _ => True) k2) trivial))
  have GA := Lib.hid (fun (hsm : smallV v = true) => evM_good v (hB.fit hsm) a hnumsa)
  have GB := Lib.hid (fun (hsm : smallV v = true) => evM_good v (hB.fit hsm) b hnumsb)
  have GJ := Lib.hid (fun (hsm : smallV v = true) (o : Int) => evM_good v (hB.fit hsm) ⟨o, 0, [], Ex.two a b⟩ (junc_nums o hnumsa hnumsb))
  have B1 := Lib.hid hb1
  have V1 := Lib.hid hv1
  clear hb1 hv1 hfa hfb hen hB htab hC hfita hnumsa hfitb hnumsb
  rw [h1] at SM
  clear h1 OA OB OJ GA GB GJ
  have HK : Hid ((printM ⟨40, 0, [], Ex.two a b⟩).2 = (printM ⟨40, 0, [], Ex.two a b⟩).2 ∧ (printM ⟨41, 0, [], Ex.two a b⟩).2 = (printM ⟨41, 0, [], Ex.two a b⟩).2) := Lib.hid ⟨rfl, rfl⟩
  obtain ⟨⟨s40, k40⟩, hP40⟩ : ∃ P, P = printM ⟨40, 0, [], Ex.two a b⟩ := ⟨_, rfl⟩
  obtain ⟨⟨s41, k41⟩, hP41⟩ : ∃ P, P = printM ⟨41, 0, [], Ex.two a b⟩ := ⟨_, rfl⟩
  have P40 := Lib.hid (PR.out 40)
  have P41 := Lib.hid (PR.out 41)
  rw [← hP40] at P40
  rw [← hP41] at P41
  rw [← hP40] at HK
  rw [← hP41] at HK
  clear PR hP40 hP41
  simp only at HK P40 P41
  unfold ab8 at P40 P41
  unfold envC at *
  go_enter Tryz.func9, Tryz.ntmps9
  go_wp2_with fail
  refine (AW.out _ B1.out).mono ?_
  rintro e w2 ⟨rfl, b2⟩
  have V2 := Lib.hid (V1.out.later b2)
  have B2 := Lib.hid (B1.out.trans (b2.mono B1.out.size))
  clear b2
  have hb3 := (Below.refl w2.heap.size w2).alloc (Nat.le_refl _) (.cells #[.int .i64 40, .int .i64 41] 3)
  have V3 := Lib.hid (V2.out.later hb3)
  have B3 := Lib.hid (B2.out.trans (hb3.mono B2.out.size))
  have R3 := Lib.hid (heap_alloc_new w2 (.cells #[.int .i64 40, .int .i64 41] 3))
  have Z3 := Lib.hid (show w2.heap.size < (w2.alloc (.cells #[.int .i64 40, .int .i64 41] 3)).heap.size by simp)
  obtain ⟨G, hG⟩ : ∃ G, w2.heap.size = G := ⟨_, rfl⟩
  obtain ⟨W3, hW3⟩ : ∃ W3, W3 = (w2.alloc (.cells #[.int .i64 40, .int .i64 41] 3)) := ⟨_, rfl⟩
  rw [← hW3] at V3 B3 R3 Z3
  rw [hG] at R3 Z3
  have HW3 := Lib.hid hW3
  have HG := Lib.hid hG
  clear hb3 hW3 hG
  go_wp2_with fail
  rw [HG.out, ← HW3.out]
  clear HW3 HG
  go_loopw [23] (fun iv wr => ∃ k : Nat, k ≤ 2 ∧ iv = .int .i64 k ∧ (1 ≤ k → k40 = 0) ∧ (2 ≤ k → k41 = 0) ∧ Below W3.heap.size W3 wr) (fun iv _ => 2 - (intOf iv).toNat)
  case atStart => exact ⟨0, by omega, rfl, fun h => absurd h (by omega), fun h => absurd h (by omega), Below.refl _ _⟩
  case round =>
    obtain ⟨k, hk, rfl, h40, h41, hb⟩ := hrel
    by_cases hk2 : k = 2
    · subst hk2
      obtain rfl := h40 (by omega)
      obtain rfl := h41 (by omega)
      have BL := Lib.hid (B3.out.trans (hb.mono B3.out.size))
      have VL := Lib.hid (V3.out.later hb)
      clear hb h40 h41 hk P40 P41 R3 Z3 V1 V2 V3 B1 B2 B3
      have r0 := VL.out.v.c0
      have r1 := VL.out.v.c1
      have r2 := VL.out.v.c2
      have r3 := VL.out.v.c3
      go_wp2_with fail
      refine (SM.out _ BL.out).mono ?_
      rintro e w4 ⟨rfl, b4⟩
      have B4 := Lib.hid (BL.out.trans (b4.mono BL.out.size))
      clear b4 r0 r1 r2 r3
      go_wp2_with fail
      refine (AW.out _ B4.out).mono ?_
      rintro e w5 ⟨rfl, b5⟩
      have B5 := Lib.hid (B4.out.trans (b5.mono B4.out.size))
      clear b5
      go_wp2_with fail
      go_ret
      exact ⟨rfl, B5.out⟩
    · have hv := V3.out.later hb
      have hr := (hb.block _ Z3.out).trans R3.out
      have d0 := cell_of_row wr G 0 _ _ (0, 0) hr
      have d1 := cell_of_row wr G 1 _ _ (0, 0) hr
      have p0 := hv.a.c0
      have p1 := hv.a.c1
      have p2 := hv.a.c2
      have p3 := hv.a.c3
      have q0 := hv.b.c0
      have q1 := hv.b.c1
      have q2 := hv.b.c2
      have q3 := hv.b.c3
      have BR := Lib.hid (B3.out.trans (hb.mono B3.out.size))
      have BA := Lib.hid (BR.out.alloc BR.out.size (.cells #[.int .i64 a.op, .int .i64 a.num, .string (S a.text), .slice pa a.args.len ca, .int .i64 b.op, .int .i64 b.num, .string (S b.text), .slice pb b.args.len cb] 24))
      have BW := Lib.hid (hb.alloc hb.size (.cells #[.int .i64 a.op, .int .i64 a.num, .string (S a.text), .slice pa a.args.len ca, .int .i64 b.op, .int .i64 b.num, .string (S b.text), .slice pb b.args.len cb] 24))
      have hk01 : k = 0 ∨ k = 1 := by omega
      clear hb hv hr hk2 hk
      rcases hk01 with rfl | rfl
      · have Q40 := Lib.hid (P40.out wr BR.out)
        clear P40
        by_cases hz : k40 = 0
        · subst hz
          go_wp2_with fail
          refine Q40.out.mono ?_
          rintro e w4 ⟨rfl, b4⟩
          have BN := Lib.hid (BW.out.trans (b4.mono BW.out.size))
          clear b4 p0 p1 p2 p3 q0 q1 q2 q3 d0 d1
          go_wp2_with fail
          go_roundw
          case rel => exact ⟨1, by omega, by go_num, fun _ => (by first | rfl | trivial), fun h => absurd h (by omega), BN.out⟩
          case measure => simp [intOf]
        · have hz2 : ((k40 : Int) != 0) = true := by simp; exact hz
          have HZ := Lib.hid hz
          clear hz
          go_wp2_with fail
          refine Q40.out.mono ?_
          rintro e w4 ⟨rfl, b4⟩
          have BN := Lib.hid (BA.out.trans (b4.mono BA.out.size))
          clear b4 p0 p1 p2 p3 q0 q1 q2 q3 d0 d1
          go_wp2_with fail
          refine (AW.out _ BN.out).mono ?_
          rintro e w5 ⟨rfl, b5⟩
          have B5 := Lib.hid (BN.out.trans (b5.mono BN.out.size))
          clear b5
          go_wp2_with fail
          go_ret
          exact ⟨rfl, B5.out⟩
      · obtain rfl := h40 (by omega)
        have Q41 := Lib.hid (P41.out wr BR.out)
        clear P41
        by_cases hz : k41 = 0
        · subst hz
          go_wp2_with fail
          refine Q41.out.mono ?_
          rintro e w4 ⟨rfl, b4⟩
          have BN := Lib.hid (BW.out.trans (b4.mono BW.out.size))
          clear b4 p0 p1 p2 p3 q0 q1 q2 q3 d0 d1
          go_wp2_with fail
          go_roundw
          case rel => exact ⟨2, by omega, by go_num, fun _ => (by first | rfl | trivial), fun _ => (by first | rfl | trivial), BN.out⟩
          case measure => simp [intOf]
        · have hz2 : ((k41 : Int) != 0) = true := by simp; exact hz
          have HZ := Lib.hid hz
          clear hz
          go_wp2_with fail
          refine Q41.out.mono ?_
          rintro e w4 ⟨rfl, b4⟩
          have BN := Lib.hid (BA.out.trans (b4.mono BA.out.size))
          clear b4 p0 p1 p2 p3 q0 q1 q2 q3 d0 d1
          go_wp2_with fail
          refine (AW.out _ BN.out).mono ?_
          rintro e w5 ⟨rfl, b5⟩
          have B5 := Lib.hid (BN.out.trans (b5.mono BN.out.size))
          clear b5
          go_wp2_with fail
          go_ret
          exact ⟨rfl, B5.out⟩
end Go.Proofs.YtabbdkdpmpjchaaGreatDoor.Ev

namespace Go.Proofs.YtabbdkdpmpjchaaGreatDoor.Ev
open Go.RowKit
open Ex Lx Va Ty
set_option linter.unusedVariables false
set_option linter.unusedSimpArgs false
set_option maxRecDepth 100000 in
set_option maxHeartbeats 8000000 in
theorem short_2 (a : T) (pa : Option Addr) (ca : Nat) (b : T) (pb : Option Addr) (cb : Nat) (v : En) (r : Rows) (w : World) (hfa : FAt w (fun _ => True) a.args pa) (hfita : a.row.fits) (hnumsa : a.row.nums) (hfb : FAt w (fun _ => True) b.args pb) (hfitb : b.row.fits) (hnumsb : b.row.nums) (hen : EnAt w r.pa r.pv r.pn r.pf v) (hB : EnBig v) (htab : Va.Tab w) (hC : ConsAt w) (h1 : smallV v = true) (h2 : ¬ ((printM ⟨40, 0, [], Ex.two a b⟩).2 = 0 ∧ (printM ⟨41, 0, [], Ex.two a b⟩).2 = 0)) :
    Calls Tryz.prog 9 #[.agg #[.int .i64 a.op, .int .i64 a.num, .string (S a.text), .slice pa a.args.len ca], .agg #[.int .i64 b.op, .int .i64 b.num, .string (S b.text), .slice pb b.args.len cb], .agg (envC v r)] w fun e w' => e = .returned (.bool true) ∧ Below w.heap.size w w' := by
  have hb1 := (((Below.refl w.heap.size w).alloc (Nat.le_refl _) (.cells #[.int .i64 a.op, .int .i64 a.num, .string (S a.text), .slice pa a.args.len ca] 24)).alloc (by simp) (.cells #[.int .i64 b.op, .int .i64 b.num, .string (S b.text), .slice pb b.args.len cb] 24)).alloc (by simp; omega) (.cells #[.slice r.pa v.attrs.length r.ca, .slice r.pv v.vals.length r.cv, .slice r.pn v.names.length r.cn, .slice r.pf v.fields.length r.cf] 55)
  have hv1 : ShV a b pa pb ca cb v r w.heap.size (((w.alloc (.cells #[.int .i64 a.op, .int .i64 a.num, .string (S a.text), .slice pa a.args.len ca] 24)).alloc (.cells #[.int .i64 b.op, .int .i64 b.num, .string (S b.text), .slice pb b.args.len cb] 24)).alloc (.cells #[.slice r.pa v.attrs.length r.ca, .slice r.pv v.vals.length r.cv, .slice r.pn v.names.length r.cn, .slice r.pf v.fields.length r.cf] 55)) := ⟨laterE (laterE (Bx.new w _ _ _ _) ((Below.refl _ _).alloc (Nat.le_refl _) _)) ((Below.refl _ _).alloc (Nat.le_refl _) _), laterE (new_box (w.alloc (.cells #[.int .i64 a.op, .int .i64 a.num, .string (S a.text), .slice pa a.args.len ca] 24)) _ _ _ (by simp)) ((Below.refl _ _).alloc (Nat.le_refl _) _), new_box _ _ _ _ (by simp)⟩
  have AW := Lib.hid (fun W (k : Below w.heap.size w W) => awake_any W (htab.below k) (hC.keep (Kept.of_below (ok := fun _ => True) k) trivial))
  have PR := Lib.hid (fun (o : Int) W (k : Below w.heap.size w W) => rprint_any ⟨o, 0, [], Ex.two a b⟩ (junc_fits o hfita hfitb) (junc_nums o hnumsa hnumsb) (some ⟨W.heap.size, 0, none⟩) 2 (W.alloc (ab8 a b pa pb ca cb)) (ab_at hfa hfb k))
  have SM := Lib.hid (fun W (k : Below w.heap.size w W) => Ev.small_any v r W (en_later hen k) hB)
  have OA := Lib.hid (fun (hsm : smallV v = true) W (k : Below w.heap.size w W) => evOf_any v r (hB.fit hsm) a hfita hnumsa pa ca W (en_later hen k) (hfa.keep (Kept.of_below k)) (htab.below k) (hC.keep (Kept.of_below (ok := fun _ => True) k) trivial))
  have OB := Lib.hid (fun (hsm : smallV v = true) W (k : Below w.heap.size w W) => evOf_any v r (hB.fit hsm) b hfitb hnumsb pb cb W (en_later hen k) (hfb.keep (Kept.of_below k)) (htab.below k) (hC.keep (Kept.of_below (ok := fun _ => True) k) trivial))
  have OJ := Lib.hid (fun (hsm : smallV v = true) (o : Int) W (k : Below w.heap.size w W) => have k2 := k.alloc k.size (ab8 a b pa pb ca cb); evOf_any v r (hB.fit hsm) ⟨o, 0, [], Ex.two a b⟩ (junc_fits o hfita hfitb) (junc_nums o hnumsa hnumsb) (some ⟨W.heap.size, 0, none⟩) 2 (W.alloc (ab8 a b pa pb ca cb)) (en_later hen k2) (ab_at hfa hfb k) (htab.below k2) (hC.keep (Kept.of_below (ok := fun _ => True) k2) trivial))
  have GA := Lib.hid (fun (hsm : smallV v = true) => evM_good v (hB.fit hsm) a hnumsa)
  have GB := Lib.hid (fun (hsm : smallV v = true) => evM_good v (hB.fit hsm) b hnumsb)
  have GJ := Lib.hid (fun (hsm : smallV v = true) (o : Int) => evM_good v (hB.fit hsm) ⟨o, 0, [], Ex.two a b⟩ (junc_nums o hnumsa hnumsb))
  have B1 := Lib.hid hb1
  have V1 := Lib.hid hv1
  clear hb1 hv1 hfa hfb hen hB htab hC hfita hnumsa hfitb hnumsb
  clear h1 OA OB OJ GA GB GJ SM
  have HK := Lib.hid h2
  clear h2
  obtain ⟨⟨s40, k40⟩, hP40⟩ : ∃ P, P = printM ⟨40, 0, [], Ex.two a b⟩ := ⟨_, rfl⟩
  obtain ⟨⟨s41, k41⟩, hP41⟩ : ∃ P, P = printM ⟨41, 0, [], Ex.two a b⟩ := ⟨_, rfl⟩
  have P40 := Lib.hid (PR.out 40)
  have P41 := Lib.hid (PR.out 41)
  rw [← hP40] at P40
  rw [← hP41] at P41
  rw [← hP40] at HK
  rw [← hP41] at HK
  clear PR hP40 hP41
  simp only at HK P40 P41
  unfold ab8 at P40 P41
  unfold envC at *
  go_enter Tryz.func9, Tryz.ntmps9
  go_wp2_with fail
  refine (AW.out _ B1.out).mono ?_
  rintro e w2 ⟨rfl, b2⟩
  have V2 := Lib.hid (V1.out.later b2)
  have B2 := Lib.hid (B1.out.trans (b2.mono B1.out.size))
  clear b2
  have hb3 := (Below.refl w2.heap.size w2).alloc (Nat.le_refl _) (.cells #[.int .i64 40, .int .i64 41] 3)
  have V3 := Lib.hid (V2.out.later hb3)
  have B3 := Lib.hid (B2.out.trans (hb3.mono B2.out.size))
  have R3 := Lib.hid (heap_alloc_new w2 (.cells #[.int .i64 40, .int .i64 41] 3))
  have Z3 := Lib.hid (show w2.heap.size < (w2.alloc (.cells #[.int .i64 40, .int .i64 41] 3)).heap.size by simp)
  obtain ⟨G, hG⟩ : ∃ G, w2.heap.size = G := ⟨_, rfl⟩
  obtain ⟨W3, hW3⟩ : ∃ W3, W3 = (w2.alloc (.cells #[.int .i64 40, .int .i64 41] 3)) := ⟨_, rfl⟩
  rw [← hW3] at V3 B3 R3 Z3
  rw [hG] at R3 Z3
  have HW3 := Lib.hid hW3
  have HG := Lib.hid hG
  clear hb3 hW3 hG
  go_wp2_with fail
  rw [HG.out, ← HW3.out]
  clear HW3 HG
  go_loopw [23] (fun iv wr => ∃ k : Nat, k ≤ 2 ∧ iv = .int .i64 k ∧ (1 ≤ k → k40 = 0) ∧ (2 ≤ k → k41 = 0) ∧ Below W3.heap.size W3 wr) (fun iv _ => 2 - (intOf iv).toNat)
  case atStart => exact ⟨0, by omega, rfl, fun h => absurd h (by omega), fun h => absurd h (by omega), Below.refl _ _⟩
  case round =>
    obtain ⟨k, hk, rfl, h40, h41, hb⟩ := hrel
    by_cases hk2 : k = 2
    · subst hk2
      obtain rfl := h40 (by omega)
      obtain rfl := h41 (by omega)
      have BL := Lib.hid (B3.out.trans (hb.mono B3.out.size))
      have VL := Lib.hid (V3.out.later hb)
      clear hb h40 h41 hk P40 P41 R3 Z3 V1 V2 V3 B1 B2 B3
      exact absurd ⟨rfl, rfl⟩ HK.out
    · have hv := V3.out.later hb
      have hr := (hb.block _ Z3.out).trans R3.out
      have d0 := cell_of_row wr G 0 _ _ (0, 0) hr
      have d1 := cell_of_row wr G 1 _ _ (0, 0) hr
      have p0 := hv.a.c0
      have p1 := hv.a.c1
      have p2 := hv.a.c2
      have p3 := hv.a.c3
      have q0 := hv.b.c0
      have q1 := hv.b.c1
      have q2 := hv.b.c2
      have q3 := hv.b.c3
      have BR := Lib.hid (B3.out.trans (hb.mono B3.out.size))
      have BA := Lib.hid (BR.out.alloc BR.out.size (.cells #[.int .i64 a.op, .int .i64 a.num, .string (S a.text), .slice pa a.args.len ca, .int .i64 b.op, .int .i64 b.num, .string (S b.text), .slice pb b.args.len cb] 24))
      have BW := Lib.hid (hb.alloc hb.size (.cells #[.int .i64 a.op, .int .i64 a.num, .string (S a.text), .slice pa a.args.len ca, .int .i64 b.op, .int .i64 b.num, .string (S b.text), .slice pb b.args.len cb] 24))
      have hk01 : k = 0 ∨ k = 1 := by omega
      clear hb hv hr hk2 hk
      rcases hk01 with rfl | rfl
      · have Q40 := Lib.hid (P40.out wr BR.out)
        clear P40
        by_cases hz : k40 = 0
        · subst hz
          go_wp2_with fail
          refine Q40.out.mono ?_
          rintro e w4 ⟨rfl, b4⟩
          have BN := Lib.hid (BW.out.trans (b4.mono BW.out.size))
          clear b4 p0 p1 p2 p3 q0 q1 q2 q3 d0 d1
          go_wp2_with fail
          go_roundw
          case rel => exact ⟨1, by omega, by go_num, fun _ => (by first | rfl | trivial), fun h => absurd h (by omega), BN.out⟩
          case measure => simp [intOf]
        · have hz2 : ((k40 : Int) != 0) = true := by simp; exact hz
          have HZ := Lib.hid hz
          clear hz
          go_wp2_with fail
          refine Q40.out.mono ?_
          rintro e w4 ⟨rfl, b4⟩
          have BN := Lib.hid (BA.out.trans (b4.mono BA.out.size))
          clear b4 p0 p1 p2 p3 q0 q1 q2 q3 d0 d1
          go_wp2_with fail
          refine (AW.out _ BN.out).mono ?_
          rintro e w5 ⟨rfl, b5⟩
          have B5 := Lib.hid (BN.out.trans (b5.mono BN.out.size))
          clear b5
          go_wp2_with fail
          go_ret
          exact ⟨rfl, B5.out⟩
      · obtain rfl := h40 (by omega)
        have Q41 := Lib.hid (P41.out wr BR.out)
        clear P41
        by_cases hz : k41 = 0
        · subst hz
          go_wp2_with fail
          refine Q41.out.mono ?_
          rintro e w4 ⟨rfl, b4⟩
          have BN := Lib.hid (BW.out.trans (b4.mono BW.out.size))
          clear b4 p0 p1 p2 p3 q0 q1 q2 q3 d0 d1
          go_wp2_with fail
          go_roundw
          case rel => exact ⟨2, by omega, by go_num, fun _ => (by first | rfl | trivial), fun _ => (by first | rfl | trivial), BN.out⟩
          case measure => simp [intOf]
        · have hz2 : ((k41 : Int) != 0) = true := by simp; exact hz
          have HZ := Lib.hid hz
          clear hz
          go_wp2_with fail
          refine Q41.out.mono ?_
          rintro e w4 ⟨rfl, b4⟩
          have BN := Lib.hid (BA.out.trans (b4.mono BA.out.size))
          clear b4 p0 p1 p2 p3 q0 q1 q2 q3 d0 d1
          go_wp2_with fail
          refine (AW.out _ BN.out).mono ?_
          rintro e w5 ⟨rfl, b5⟩
          have B5 := Lib.hid (BN.out.trans (b5.mono BN.out.size))
          clear b5
          go_wp2_with fail
          go_ret
          exact ⟨rfl, B5.out⟩
end Go.Proofs.YtabbdkdpmpjchaaGreatDoor.Ev
