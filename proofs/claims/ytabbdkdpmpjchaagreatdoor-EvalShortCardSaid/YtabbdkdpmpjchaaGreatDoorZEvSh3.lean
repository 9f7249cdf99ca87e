/- EvSh3 -/
import Derived.Test.YtabbdkdpmpjchaaGreatDoorZTzSa
namespace Go.Proofs.YtabbdkdpmpjchaaGreatDoor.Ev
open Go.RowKit
open Ex Lx Va Ty
set_option linter.unusedVariables false
set_option linter.unusedSimpArgs false
set_option maxRecDepth 100000 in
set_option maxHeartbeats 8000000 in
theorem short_3 (a : T) (pa : Option Addr) (ca : Nat) (b : T) (pb : Option Addr) (cb : Nat) (v : En) (r : Rows) (w : World) (hfa : FAt w (fun _ => True) a.args pa) (hfita : a.row.fits) (hnumsa : a.row.nums) (hfb : FAt w (fun _ => True) b.args pb) (hfitb : b.row.fits) (hnumsb : b.row.nums) (hen : EnAt w r.pa r.pv r.pn r.pf v) (hB : EnBig v) (htab : Va.Tab w) (hC : ConsAt w) (h1 : smallV v = true) (h2 : (printM ⟨40, 0, [], Ex.two a b⟩).2 = 0 ∧ (printM ⟨41, 0, [], Ex.two a b⟩).2 = 0) (hq : ¬ ((evM v a).2 = 0 ∧ (evM v a).1.kind = 2)) :
    Calls Tryz.prog 9 #[.agg #[.int .i64 a.op, .int .i64 a.num, .string (S a.text), .slice pa a.args.len ca], .agg #[.int .i64 b.op, .int .i64 b.num, .string (S b.text), .slice pb b.args.len cb], .agg (envC v r)] w fun e w' => e = .returned (.bool true) ∧ Below w.heap.size w w' := by
  have hb1 := (((Below.refl w.heap.size w).alloc (Nat.le_refl _) (.cells #[.int .i64 a.op, .int .i64 a.num, .string (S a.text), .slice pa a.args.len ca] 24)).alloc (by simp) (.cells #[.int .i64 b.op, .int .i64 b.num, .string (S b.text), .slice pb b.args.len cb] 24)).alloc (by simp; omega) (.cells #[.slice r.pa v.attrs.length r.ca, .slice r.pv v.vals.length r.cv, .slice r.pn v.names.length r.cn, .slice r.pf v.fields.length r.cf] 55)
  have hv1 : ShV a b pa pb ca cb v r w.heap.size (((w.alloc (.cells #[.int .i64 a.op, .int .i64 a.num, .string (S a.text), .slice pa a.args.len ca] 24)).alloc (.cells #[.int .i64 b.op, .int .i64 b.num, .string (S b.text), .slice pb b.args.len cb] 24)).alloc (.cells #[.slice r.pa v.attrs.length r.ca, .slice r.pv v.vals.length r.cv, .slice r.pn v.names.length r.cn, .slice r.pf v.fields.length r.cf] 55)) := ⟨laterE (laterE (Bx.new w _ _ _ _) ((Below.refl _ _).alloc (Nat.le_refl _) _)) ((Below.refl _ _).alloc (Nat.le_refl _) _), laterE (new_box (w.alloc (.cells #[.int .i64 a.op, .int .i64 a.num, .string (S a.text), .slice pa a.args.len ca] 24)) _ _ _ (by simp)) ((Below.refl _ _).alloc (Nat.le_refl _) _), new_box _ _ _ _ (by simp)⟩
  have AW := Lib.hid (fun W (k : Below w.heap.size w W) => awake_any W (htab.below k) (hC.keep (Kept.of_below (ok := fun _ => True) k) trivial))
  have PR := Lib.hid (fun (o : Int) W (k : Below w.heap.size w W) => rprint_any ⟨o, 0, [], Ex.two a b⟩ (junc_fits o hfita hfitb) (junc_nums o hnumsa hnumsb) (some ⟨W.heap.size, 0, none⟩) 2 (W.alloc (ab8 a b pa pb ca cb)) (ab_at hfa hfb k))
  have SM := Lib.hid (fun W (k : Below w.heap.size w W) => Ev.small_any v r W (en_later hen k) hB)
  have OA := Lib.hid (fun (hsm : smallV v = true) W (k : Below w.heap.size w W) => evOf_any v r (hB.fit hsm) a hfita hnumsa pa ca W (en_later hen k) (hfa.keep (Kept.of_below k)) (htab.below k) (hC.keep (Kept.of_below (ok := fun _ => True) k) trivial))
  have OB := Lib.hid (fun (hsm : smallV v = true) W (k : Below w.heap.size w W) => evOf_any v r (hB.fit hsm) b hfitb hnumsb pb cb W (en_later hen k) (hfb.keep (Kept.of_below k)) (htab.below k) (hC.keep (Kept.of_below (ok := fun _ => True) k) trivial))
  have OJ := Lib.hid (fun (hsm : smallV v = true) (o : Int) W (k : Below w.heap.size w W) => have k2 := k.alloc k.size (ab8 a b pa pb ca cb); evOf_any v r (hB.fit hsm) ⟨o, 0, [], Ex.two a b⟩ (junc_fits o hfita hfitb) (junc_nums o hnumsa hnumsb) (some ⟨W.heap.size, 0, none⟩) 2 (W.alloc (ab8 a b pa pb ca cb)) (en_later hen k2) (ab_at hfa hfb k) (htab.below k2) (hC.keep (Kept.of_below (ok := fun _ => True) k2) trivial))
  have GA := Lib.hid (fun (hsm : smallV v = true) => evM_good v (hB.fit hsm) a hnumsa)
  have GB := Lib.hid (fun (hsm : smallV v = true) => evM_good v (hB.fit hsm) b hnumsb)
  have GJ := Lib.hid (fun (hsm : smallV v = true) (o : Int) => evM_good v (hB.fit hsm) ⟨o, 0, [], Ex.two a b⟩ (junc_nums o hnumsa hnumsb))
  have B1 := Lib.hid hb1
  have V1 := Lib.hid hv1
  clear hb1 hv1 hfa hfb hen hB htab hC hfita hnumsa hfitb hnumsb
  rw [h1] at SM
  obtain ⟨h2, h3⟩ := h2
  have HS := Lib.hid (short_says v a b h2 h3 (GA.out h1))
  have HK := Lib.hid (⟨h2, h3⟩ : (printM ⟨40, 0, [], Ex.two a b⟩).2 = 0 ∧ (printM ⟨41, 0, [], Ex.two a b⟩).2 = 0)
  have GA2 := Lib.hid (GA.out h1)
  have GB2 := Lib.hid (GB.out h1)
  clear GA GB
  have GC := Lib.hid (GJ.out h1 40)
  have GD := Lib.hid (GJ.out h1 41)
  have OA := Lib.hid (OA.out h1)
  have OB := Lib.hid (OB.out h1)
  have OC := Lib.hid (OJ.out h1 40)
  have OD := Lib.hid (OJ.out h1 41)
  clear h1 h2 h3 OJ GJ
  simp only at HS
  obtain ⟨A, hA⟩ : ∃ A, A = evM v a := ⟨_, rfl⟩
  obtain ⟨C, hC⟩ : ∃ C, C = evM v ⟨40, 0, [], Ex.two a b⟩ := ⟨_, rfl⟩
  obtain ⟨D, hD⟩ : ∃ D, D = evM v ⟨41, 0, [], Ex.two a b⟩ := ⟨_, rfl⟩
  obtain ⟨Y, hY⟩ : ∃ Y, Y = evM v b := ⟨_, rfl⟩
  have HQ := Lib.hid hq
  clear hq
  rw [← hA] at HS GA2 OA HQ
  rw [← hC] at HS GC OC
  rw [← hD] at HS GD OD
  rw [← hY] at HS GB2 OB
  clear hA hC hD hY
  obtain ⟨⟨xk, xn, xt, xl⟩, xe⟩ := A
  obtain ⟨⟨ck, cn, ct, cl⟩, ce⟩ := C
  obtain ⟨⟨dk, dn, dt, dl⟩, de⟩ := D
  obtain ⟨⟨yk, yn, yt, yl⟩, ye⟩ := Y
  simp only at HS GA2 GB2 GC GD HQ
  obtain ⟨⟨s40, k40⟩, hP40⟩ : ∃ P, P = printM ⟨40, 0, [], Ex.two a b⟩ := ⟨_, rfl⟩
  obtain ⟨⟨s41, k41⟩, hP41⟩ : ∃ P, P = printM ⟨41, 0, [], Ex.two a b⟩ := ⟨_, rfl⟩
  have P40 := Lib.hid (PR.out 40)
  have P41 := Lib.hid (PR.out 41)
  rw [← hP40] at P40
  rw [← hP41] at P41
  rw [← hP40] at HK
  rw [← hP41] at HK
  clear PR hP40 hP41
  simp only at HK P40 P41
  unfold ab8 at P40 P41
  unfold envC at *
  go_enter Tryz.func9, Tryz.ntmps9
  go_wp2_with fail
  refine (AW.out _ B1.out).mono ?_
  rintro e w2 ⟨rfl, b2⟩
  have V2 := Lib.hid (V1.out.later b2)
  have B2 := Lib.hid (B1.out.trans (b2.mono B1.out.size))
  clear b2
  have hb3 := (Below.refl w2.heap.size w2).alloc (Nat.le_refl _) (.cells #[.int .i64 40, .int .i64 41] 3)
  have V3 := Lib.hid (V2.out.later hb3)
  have B3 := Lib.hid (B2.out.trans (hb3.mono B2.out.size))
  have R3 := Lib.hid (heap_alloc_new w2 (.cells #[.int .i64 40, .int .i64 41] 3))
  have Z3 := Lib.hid (show w2.heap.size < (w2.alloc (.cells #[.int .i64 40, .int .i64 41] 3)).heap.size by simp)
  obtain ⟨G, hG⟩ : ∃ G, w2.heap.size = G := ⟨_, rfl⟩
  obtain ⟨W3, hW3⟩ : ∃ W3, W3 = (w2.alloc (.cells #[.int .i64 40, .int .i64 41] 3)) := ⟨_, rfl⟩
  rw [← hW3] at V3 B3 R3 Z3
  rw [hG] at R3 Z3
  have HW3 := Lib.hid hW3
  have HG := Lib.hid hG
  clear hb3 hW3 hG
  go_wp2_with fail
  rw [HG.out, ← HW3.out]
  clear HW3 HG
  go_loopw [23] (fun iv wr => ∃ k : Nat, k ≤ 2 ∧ iv = .int .i64 k ∧ (1 ≤ k → k40 = 0) ∧ (2 ≤ k → k41 = 0) ∧ Below W3.heap.size W3 wr) (fun iv _ => 2 - (intOf iv).toNat)
  case atStart => exact ⟨0, by omega, rfl, fun h => absurd h (by omega), fun h => absurd h (by omega), Below.refl _ _⟩
  case round =>
    obtain ⟨k, hk, rfl, h40, h41, hb⟩ := hrel
    by_cases hk2 : k = 2
    · subst hk2
      obtain rfl := h40 (by omega)
      obtain rfl := h41 (by omega)
      have BL := Lib.hid (B3.out.trans (hb.mono B3.out.size))
      have VL := Lib.hid (V3.out.later hb)
      clear hb h40 h41 hk P40 P41 R3 Z3 V1 V2 V3 B1 B2 B3
      have hv := VL.out
      have r0 := hv.v.c0
      have r1 := hv.v.c1
      have r2 := hv.v.c2
      have r3 := hv.v.c3
      clear hv
      go_wp2_with fail
      refine (SM.out _ BL.out).mono ?_
      rintro e W3b ⟨rfl, b4⟩
      have V4 := Lib.hid (VL.out.later b4)
      have B4 := Lib.hid (BL.out.trans (b4.mono BL.out.size))
      clear b4 r0 r1 r2 r3 VL BL SM
      obtain ⟨W4, rfl⟩ : ∃ W, W = W3b := ⟨_, rfl⟩
      have LT4 := Lib.hid V4.out.v.lt
      have hv := V4.out
      have r0 := hv.v.c0
      have r1 := hv.v.c1
      have r2 := hv.v.c2
      have r3 := hv.v.c3
      have hvl := hv.v.lt
      have p0 := hv.a.c0
      have p1 := hv.a.c1
      have p2 := hv.a.c2
      have p3 := hv.a.c3
      clear hv
      have Qx := Lib.hid (OA.out _ B4.out)
      clear hvl
      go_wp2_with fail
      refine Qx.out.mono ?_
      rintro e w5 ⟨⟨ax, cx, rfl, nx⟩, b5⟩
      have k5 := b5
      obtain ⟨W5, hW5⟩ : ∃ W, W = w5.alloc (.cells #[.int .i64 xk, .int .i64 xn, .string (S xt), .slice ax xl.length cx] 52) := ⟨_, rfl⟩
      have x5 := (Below.refl w5.heap.size w5).alloc (Nat.le_refl _) (.cells #[.int .i64 xk, .int .i64 xn, .string (S xt), .slice ax xl.length cx] 52)
      have hx5 := VB.new w5 (.int .i64 xk) (.int .i64 xn) (.string (S xt)) (.slice ax xl.length cx) _ rfl
      have Nx := nx.1.below x5
      rw [← hW5] at x5 hx5 Nx
      have y5 := k5.trans (x5.mono k5.size)
      have V5 := Lib.hid (V4.out.later y5)
      have B5 := Lib.hid (B4.out.trans (y5.mono B4.out.size))
      obtain ⟨Hx, hHx⟩ : ∃ H, w5.heap.size = H := ⟨_, rfl⟩
      rw [hHx] at hx5
      have Xx := Lib.hid hx5
      have Nx := Lib.hid Nx
      have SEPx := Lib.hid (show ∀ g off, ax = some ⟨g, off, none⟩ → xl ≠ [] → W4.heap.size ≤ g ∧ g < Hx from fun g off e hl => ⟨Nat.le_trans (by first | exact Nat.le_refl _ | simp) (nx.2 g off e hl), by
        rw [← hHx]
        obtain ⟨g2, off2, e2, _, hg⟩ := nx.1 0 (List.length_pos_iff.2 hl)
        rw [e] at e2
        injection e2 with e2
        injection e2 with e2 _ _
        rw [e2]; exact hg⟩)
      have SZx := Lib.hid (show W4.heap.size ≤ Hx ∧ Hx < W5.heap.size from ⟨by rw [← hHx]; exact k5.size, by rw [hW5, ← hHx]; simp⟩)
      have HW5 := Lib.hid hW5
      have HHx := Lib.hid hHx
      clear b5 k5 x5 y5 hx5 nx hW5 hHx Qx V4 B4
      clear r0 r1 r2 r3 p0 p1 p2 p3
      unfold valC
      go_upto_region 13 with fail
      rw [HHx.out, ← HW5.out]
      clear HHx HW5
      have hv := V5.out
      have r0 := hv.v.c0
      have r1 := hv.v.c1
      have r2 := hv.v.c2
      have r3 := hv.v.c3
      have hvl := hv.v.lt
      have p0 := hv.a.c0
      have p1 := hv.a.c1
      have p2 := hv.a.c2
      have p3 := hv.a.c3
      have q0 := hv.b.c0
      have q1 := hv.b.c1
      have q2 := hv.b.c2
      have q3 := hv.b.c3
      clear hv
      have Qc := Lib.hid (OC.out _ B5.out)
      have zv : ∀ o j, (W5.alloc o).cell? ⟨w.heap.size + 1 + 1, j, none⟩ = W5.cell? ⟨w.heap.size + 1 + 1, j, none⟩ := fun o j => Kept.cell (Kept.alloc (ok := fun _ => True) W5 o) trivial hvl
      unfold ab8 at Qc
      clear hvl
      go_wp2_with fail
      refine Qc.out.mono ?_
      rintro e w6 ⟨⟨ac, cc, rfl, nc⟩, b6⟩
      have k6 := ((Below.refl W5.heap.size W5).alloc (Nat.le_refl _) (.cells #[.int .i64 a.op, .int .i64 a.num, .string (S a.text), .slice pa a.args.len ca, .int .i64 b.op, .int .i64 b.num, .string (S b.text), .slice pb b.args.len cb] 24)).trans (b6.mono (by simp))
      obtain ⟨W6, hW6⟩ : ∃ W, W = w6.alloc (.cells #[.int .i64 ck, .int .i64 cn, .string (S ct), .slice ac cl.length cc] 52) := ⟨_, rfl⟩
      have x6 := (Below.refl w6.heap.size w6).alloc (Nat.le_refl _) (.cells #[.int .i64 ck, .int .i64 cn, .string (S ct), .slice ac cl.length cc] 52)
      have hx6 := VB.new w6 (.int .i64 ck) (.int .i64 cn) (.string (S ct)) (.slice ac cl.length cc) _ rfl
      have Nc := nc.1.below x6
      rw [← hW6] at x6 hx6 Nc
      have y6 := k6.trans (x6.mono k6.size)
      have V6 := Lib.hid (V5.out.later y6)
      have B6 := Lib.hid (B5.out.trans (y6.mono B5.out.size))
      obtain ⟨Hc, hHc⟩ : ∃ H, w6.heap.size = H := ⟨_, rfl⟩
      rw [hHc] at hx6
      have Xc := Lib.hid hx6
      have Nc := Lib.hid Nc
      have SEPc := Lib.hid (show ∀ g off, ac = some ⟨g, off, none⟩ → cl ≠ [] → W5.heap.size ≤ g ∧ g < Hc from fun g off e hl => ⟨Nat.le_trans (by first | exact Nat.le_refl _ | simp) (nc.2 g off e hl), by
        rw [← hHc]
        obtain ⟨g2, off2, e2, _, hg⟩ := nc.1 0 (List.length_pos_iff.2 hl)
        rw [e] at e2
        injection e2 with e2
        injection e2 with e2 _ _
        rw [e2]; exact hg⟩)
      have SZc := Lib.hid (show W5.heap.size ≤ Hc ∧ Hc < W6.heap.size from ⟨by rw [← hHc]; exact k6.size, by rw [hW6, ← hHc]; simp⟩)
      have Xx := Lib.hid (Xx.out.later y6)
      have Nx := Lib.hid (Nx.out.below y6)
      have HW6 := Lib.hid hW6
      have HHc := Lib.hid hHc
      clear b6 k6 x6 y6 hx6 nc hW6 hHc Qc V5 B5
      clear r0 r1 r2 r3 zv p0 p1 p2 p3 q0 q1 q2 q3
      unfold valC
      go_upto_region 14 with fail
      rw [HHc.out, ← HW6.out]
      clear HHc HW6
      have hv := V6.out
      have r0 := hv.v.c0
      have r1 := hv.v.c1
      have r2 := hv.v.c2
      have r3 := hv.v.c3
      have hvl := hv.v.lt
      have p0 := hv.a.c0
      have p1 := hv.a.c1
      have p2 := hv.a.c2
      have p3 := hv.a.c3
      have q0 := hv.b.c0
      have q1 := hv.b.c1
      have q2 := hv.b.c2
      have q3 := hv.b.c3
      clear hv
      have Qd := Lib.hid (OD.out _ B6.out)
      have zv : ∀ o j, (W6.alloc o).cell? ⟨w.heap.size + 1 + 1, j, none⟩ = W6.cell? ⟨w.heap.size + 1 + 1, j, none⟩ := fun o j => Kept.cell (Kept.alloc (ok := fun _ => True) W6 o) trivial hvl
      unfold ab8 at Qd
      clear hvl
      go_wp2_with fail
      refine Qd.out.mono ?_
      rintro e w7 ⟨⟨ad, cd, rfl, nd⟩, b7⟩
      have k7 := ((Below.refl W6.heap.size W6).alloc (Nat.le_refl _) (.cells #[.int .i64 a.op, .int .i64 a.num, .string (S a.text), .slice pa a.args.len ca, .int .i64 b.op, .int .i64 b.num, .string (S b.text), .slice pb b.args.len cb] 24)).trans (b7.mono (by simp))
      obtain ⟨W7, hW7⟩ : ∃ W, W = w7.alloc (.cells #[.int .i64 dk, .int .i64 dn, .string (S dt), .slice ad dl.length cd] 52) := ⟨_, rfl⟩
      have x7 := (Below.refl w7.heap.size w7).alloc (Nat.le_refl _) (.cells #[.int .i64 dk, .int .i64 dn, .string (S dt), .slice ad dl.length cd] 52)
      have hx7 := VB.new w7 (.int .i64 dk) (.int .i64 dn) (.string (S dt)) (.slice ad dl.length cd) _ rfl
      have Nd := nd.1.below x7
      rw [← hW7] at x7 hx7 Nd
      have y7 := k7.trans (x7.mono k7.size)
      have V7 := Lib.hid (V6.out.later y7)
      have B7 := Lib.hid (B6.out.trans (y7.mono B6.out.size))
      obtain ⟨Hd, hHd⟩ : ∃ H, w7.heap.size = H := ⟨_, rfl⟩
      rw [hHd] at hx7
      have Xd := Lib.hid hx7
      have Nd := Lib.hid Nd
      have SEPd := Lib.hid (show ∀ g off, ad = some ⟨g, off, none⟩ → dl ≠ [] → W6.heap.size ≤ g ∧ g < Hd from fun g off e hl => ⟨Nat.le_trans (by first | exact Nat.le_refl _ | simp) (nd.2 g off e hl), by
        rw [← hHd]
        obtain ⟨g2, off2, e2, _, hg⟩ := nd.1 0 (List.length_pos_iff.2 hl)
        rw [e] at e2
        injection e2 with e2
        injection e2 with e2 _ _
        rw [e2]; exact hg⟩)
      have SZd := Lib.hid (show W6.heap.size ≤ Hd ∧ Hd < W7.heap.size from ⟨by rw [← hHd]; exact k7.size, by rw [hW7, ← hHd]; simp⟩)
      have Xx := Lib.hid (Xx.out.later y7)
      have Nx := Lib.hid (Nx.out.below y7)
      have Xc := Lib.hid (Xc.out.later y7)
      have Nc := Lib.hid (Nc.out.below y7)
      have HW7 := Lib.hid hW7
      have HHd := Lib.hid hHd
      clear b7 k7 x7 y7 hx7 nd hW7 hHd Qd V6 B6
      clear r0 r1 r2 r3 zv p0 p1 p2 p3 q0 q1 q2 q3
      unfold valC
      go_upto_region 15 with fail
      rw [HHd.out, ← HW7.out]
      clear HHd HW7
      obtain ⟨hs1, hs2, hs3, hs4⟩ := HS.out
      clear HS
      by_cases hxe : xe = 0
      · subst hxe
        by_cases hxk : xk = 2
        · subst hxk
          clear hs1 hs2
          have HS4 := Lib.hid hs4
          clear hs4
          rcases hs3 rfl rfl with ⟨hn, eO, eT⟩ | ⟨hn, eO, eT⟩
          · clear hs3
            subst hn
            injection eO with eO1 eO2
            injection eO1 with e1 e2 e3 e4
            replace e3 := e3.symm
            replace e4 := e4.symm
            subst eO2 e1 e2 e3 e4
            have HT := Lib.hid eT
            clear eT
            exact absurd ⟨rfl, rfl⟩ HQ.out
          · clear hs3
            subst hn
            injection eO with eO1 eO2
            injection eO1 with e1 e2 e3 e4
            replace e3 := e3.symm
            replace e4 := e4.symm
            subst eO2 e1 e2 e3 e4
            have HT := Lib.hid eT
            clear eT
            exact absurd ⟨rfl, rfl⟩ HQ.out
        · have hk2 : (xk != 2) = true := by simpa using hxk
          obtain ⟨e1, e2⟩ := hs2 rfl hxk
          injection e1 with _ e1
          injection e2 with _ e2
          subst e1 e2
          have x0 := Xx.out.c0
          clear hs1 hs2 hs3 hs4 hxk
          go_wp2_with fail
          refine (AW.out _ B7.out).mono ?_
          rintro e w9 ⟨rfl, b9⟩
          have B9 := Lib.hid (B7.out.trans (b9.mono B7.out.size))
          clear b9
          go_wp2_with fail
          go_ret
          exact ⟨rfl, B9.out⟩
      · have hz : ((xe : Int) != 0) = true := by simpa using hxe
        have hz2 : ((xe : Int) == 0) = false := by simpa using hxe
        obtain ⟨e1, e2⟩ := hs1 hxe
        injection e1 with _ e1
        injection e2 with _ e2
        subst e1 e2
        clear hs1 hs2 hs3 hs4 hxe
        go_wp2_with fail
        refine (AW.out _ B7.out).mono ?_
        rintro e w9 ⟨rfl, b9⟩
        have B9 := Lib.hid (B7.out.trans (b9.mono B7.out.size))
        clear b9
        go_wp2_with fail
        go_ret
        exact ⟨rfl, B9.out⟩
    · have hv := V3.out.later hb
      have hr := (hb.block _ Z3.out).trans R3.out
      have d0 := cell_of_row wr G 0 _ _ (0, 0) hr
      have d1 := cell_of_row wr G 1 _ _ (0, 0) hr
      have p0 := hv.a.c0
      have p1 := hv.a.c1
      have p2 := hv.a.c2
      have p3 := hv.a.c3
      have q0 := hv.b.c0
      have q1 := hv.b.c1
      have q2 := hv.b.c2
      have q3 := hv.b.c3
      have BR := Lib.hid (B3.out.trans (hb.mono B3.out.size))
      have BA := Lib.hid (BR.out.alloc BR.out.size (.cells #[.int .i64 a.op, .int .i64 a.num, .string (S a.text), .slice pa a.args.len ca, .int .i64 b.op, .int .i64 b.num, .string (S b.text), .slice pb b.args.len cb] 24))
      have BW := Lib.hid (hb.alloc hb.size (.cells #[.int .i64 a.op, .int .i64 a.num, .string (S a.text), .slice pa a.args.len ca, .int .i64 b.op, .int .i64 b.num, .string (S b.text), .slice pb b.args.len cb] 24))
      have hk01 : k = 0 ∨ k = 1 := by omega
      clear hb hv hr hk2 hk
      rcases hk01 with rfl | rfl
      · have Q40 := Lib.hid (P40.out wr BR.out)
        clear P40
        by_cases hz : k40 = 0
        · subst hz
          go_wp2_with fail
          refine Q40.out.mono ?_
          rintro e w4 ⟨rfl, b4⟩
          have BN := Lib.hid (BW.out.trans (b4.mono BW.out.size))
          clear b4 p0 p1 p2 p3 q0 q1 q2 q3 d0 d1
          go_wp2_with fail
          go_roundw
          case rel => exact ⟨1, by omega, by go_num, fun _ => (by first | rfl | trivial), fun h => absurd h (by omega), BN.out⟩
          case measure => simp [intOf]
        · have hz2 : ((k40 : Int) != 0) = true := by simp; exact hz
          have HZ := Lib.hid hz
          clear hz
          go_wp2_with fail
          refine Q40.out.mono ?_
          rintro e w4 ⟨rfl, b4⟩
          have BN := Lib.hid (BA.out.trans (b4.mono BA.out.size))
          clear b4 p0 p1 p2 p3 q0 q1 q2 q3 d0 d1
          go_wp2_with fail
          refine (AW.out _ BN.out).mono ?_
          rintro e w5 ⟨rfl, b5⟩
          have B5 := Lib.hid (BN.out.trans (b5.mono BN.out.size))
          clear b5
          go_wp2_with fail
          go_ret
          exact ⟨rfl, B5.out⟩
      · obtain rfl := h40 (by omega)
        have Q41 := Lib.hid (P41.out wr BR.out)
        clear P41
        by_cases hz : k41 = 0
        · subst hz
          go_wp2_with fail
          refine Q41.out.mono ?_
          rintro e w4 ⟨rfl, b4⟩
          have BN := Lib.hid (BW.out.trans (b4.mono BW.out.size))
          clear b4 p0 p1 p2 p3 q0 q1 q2 q3 d0 d1
          go_wp2_with fail
          go_roundw
          case rel => exact ⟨2, by omega, by go_num, fun _ => (by first | rfl | trivial), fun _ => (by first | rfl | trivial), BN.out⟩
          case measure => simp [intOf]
        · have hz2 : ((k41 : Int) != 0) = true := by simp; exact hz
          have HZ := Lib.hid hz
          clear hz
          go_wp2_with fail
          refine Q41.out.mono ?_
          rintro e w4 ⟨rfl, b4⟩
          have BN := Lib.hid (BA.out.trans (b4.mono BA.out.size))
          clear b4 p0 p1 p2 p3 q0 q1 q2 q3 d0 d1
          go_wp2_with fail
          refine (AW.out _ BN.out).mono ?_
          rintro e w5 ⟨rfl, b5⟩
          have B5 := Lib.hid (BN.out.trans (b5.mono BN.out.size))
          clear b5
          go_wp2_with fail
          go_ret
          exact ⟨rfl, B5.out⟩
end Go.Proofs.YtabbdkdpmpjchaaGreatDoor.Ev
