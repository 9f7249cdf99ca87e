/-
  EvRnN.
-/
import Derived.Test.YtlmmfhbdebfgkaaGreatDoorVEvRnAQ
set_option linter.unusedVariables false
set_option linter.unusedSimpArgs false
set_option maxHeartbeats 4000000
namespace Go.Proofs.YtlmmfhbdebfgkaaGreatDoor.Ev
open Go.RowKit
open Ex Lx Va Ty
set_option maxRecDepth 100000
theorem vals2 {w : World} {b off : Nat} {x y : V} (h : ValsAt w (some ⟨b, off, none⟩) [x, y]) : b < w.heap.size ∧ w.cell? ⟨b, off + 1, none⟩ = some (.int .i64 x.num) ∧ w.cell? ⟨b, off + 4 + 1, none⟩ = some (.int .i64 y.num) := by
  obtain ⟨b0, o0, e0, ⟨q, c, g0, g1, g2, g3, _⟩, hb⟩ := h 0 (by simp)
  obtain ⟨b1, o1, e1, ⟨q', c', k0, k1, k2, k3, _⟩, _⟩ := h 1 (by simp)
  injection e0 with e0
  injection e0 with e2 e3 _
  subst e2 e3
  injection e1 with e1
  injection e1 with e4 e5 _
  subst e4 e5
  exact ⟨hb, by simpa using g1, by simpa using k1⟩
theorem vals1 {w : World} {b off : Nat} {x : V} (h : ValsAt w (some ⟨b, off, none⟩) [x]) : b < w.heap.size ∧ w.cell? ⟨b, off + 1, none⟩ = some (.int .i64 x.num) := by
  obtain ⟨b0, o0, e0, ⟨q, c, g0, g1, g2, g3, _⟩, hb⟩ := h 0 (by simp)
  injection e0 with e0
  injection e0 with e2 e3 _
  subst e2 e3
  exact ⟨hb, by simpa using g1⟩
theorem num_list (n : Int) (X : V × Nat) (h : X = numE n) : X.1.list = [] := by
  subst h
  unfold numE
  split <;> rfl
theorem rnode_20 (x y : V) (hx : x.kind = 1) (hy : y.kind = 1) (ia : I64 x.num) (ib : I64 y.num)  (b off cap : Nat) (w : World) (hv : ValsAt w (some ⟨b, off, none⟩) [x, y]) :
    Calls Tryz.prog 63 #[.int .i64 20, .slice (some ⟨b, off, none⟩) 2 cap] w fun e w' => e = .returned (RV (numE (x.num * y.num)) none 0) ∧ Below w.heap.size w w' := by
  have hb2 := ((Below.refl w.heap.size w).alloc (Nat.le_refl _) (.cells #[.int .i64 0, .int .i64 0, .string ⟨#[]⟩, .slice none 0 0] 52)).alloc (by simp) (.cells #[.int .i64 0, .int .i64 0, .string ⟨#[]⟩, .slice none 0 0] 52)
  have HX := Lib.hid ((VB.new w (.int .i64 0) (.int .i64 0) (.string ⟨#[]⟩) (.slice none 0 0) _ rfl).later ((Below.refl _ _).alloc (Nat.le_refl _) (.cells #[.int .i64 0, .int .i64 0, .string ⟨#[]⟩, .slice none 0 0] 52)))
  have HW := Lib.hid (VB.new (w.alloc (.cells #[.int .i64 0, .int .i64 0, .string ⟨#[]⟩, .slice none 0 0] 52)) (.int .i64 0) (.int .i64 0) (.string ⟨#[]⟩) (.slice none 0 0) (w.heap.size + 1) (by simp))
  have HA := Lib.hid (rall_any [x, y] (by simp) 1 (some ⟨b, off, none⟩) cap _ (hv.below hb2))
  rw [show allV [x, y] 1 = true by simp [allV, hx, hy]] at HA
  have HV := Lib.hid (vals2 (hv.below hb2))
  have HB := Lib.hid hb2
  have PX := Lib.hid (rproduct_any x.num y.num ia ib)
  clear hb2 hv hx hy ia ib
  obtain ⟨xk, xn, xt, xl⟩ := x
  obtain ⟨yk, yn, yt, yl⟩ := y
  simp only at *
  obtain ⟨NV, hNV⟩ : ∃ NV, NV = numE (xn * yn) := ⟨_, rfl⟩
  rw [← hNV]
  have HNV := Lib.hid hNV
  clear hNV
  go_enter Tryz.func63, Tryz.ntmps63
  go_wp2_with fail
  refine HA.out.mono ?_
  rintro e w1 ⟨rfl, b1⟩
  have hv1 := HV.out
  have c1 := (b1.cell (p := ⟨b, off + 1, none⟩) hv1.1).trans hv1.2.1
  have c2 := (b1.cell (p := ⟨b, off + 4 + 1, none⟩) hv1.1).trans hv1.2.2
  have hx1 := HX.out.later b1
  have hw1 := HW.out.later b1
  have p0 := hx1.c0
  have p1 := hx1.c1
  have p2 := hx1.c2
  have p3 := hx1.c3
  have fz := hx1.fz
  have u0 := hw1.c0
  have u1 := hw1.c1
  have u2 := hw1.c2
  have u3 := hw1.c3
  have HX1 := Lib.hid hx1
  have HB1 := Lib.hid (HB.out.trans (b1.mono HB.out.size))
  clear b1 hv1 hx1 hw1 HA HV HX HW HB
  go_wp2_with fail
  refine (PX.out _).mono ?_
  rintro e w2 ⟨⟨n, ok, rfl, hn⟩, rfl⟩
  have HN := Lib.hid hn
  clear hn
  clear p0 p1 p2 p3 fz u0 u1 u2 u3
  go_wp2_with fail
  refine (rnumber_any _ _ _ HN.out _).mono ?_
  rintro e w3 ⟨rfl, b3⟩
  have hx3 := HX1.out.later b3
  have p0 := hx3.c0
  have p1 := hx3.c1
  have p2 := hx3.c2
  have p3 := hx3.c3
  have fz := hx3.fz
  have HB3 := Lib.hid (HB1.out.trans (b3.mono HB1.out.size))
  rw [← HNV.out]
  clear b3
  have HL := Lib.hid (num_list _ _ HNV.out)
  obtain ⟨⟨nk, nn, nt, nl⟩, ne⟩ := NV
  have hl := HL.out
  simp only at hl
  subst hl
  have HF := Lib.hid (hx3.put (.int .i64 nk) (.int .i64 nn) (.string (S nt)) (.slice none 0 0))
  have HBF := Lib.hid (below4 HB3.out w.heap.size (Nat.le_refl _) (.int .i64 nk) (.int .i64 nn) (.string (S nt)) (.slice none 0 0))
  clear hx3
  unfold RV valC
  simp only [List.length_nil]
  go_wp2_with fail
  refine bodyPost_ret (res_val2 rfl _ _ w.heap.size _ _ _ _ (.int .i64 (ne : Int)) rfl HF.out rfl) rfl ?_
  exact ⟨rfl, HBF.out⟩
theorem rnode_23 (x y : V) (hx : x.kind = 1) (hy : y.kind = 1) (ia : I64 x.num) (ib : I64 y.num)  (b off cap : Nat) (w : World) (hv : ValsAt w (some ⟨b, off, none⟩) [x, y]) :
    Calls Tryz.prog 63 #[.int .i64 23, .slice (some ⟨b, off, none⟩) 2 cap] w fun e w' => e = .returned (RV (numE (x.num + y.num)) none 0) ∧ Below w.heap.size w w' := by
  have hb2 := ((Below.refl w.heap.size w).alloc (Nat.le_refl _) (.cells #[.int .i64 0, .int .i64 0, .string ⟨#[]⟩, .slice none 0 0] 52)).alloc (by simp) (.cells #[.int .i64 0, .int .i64 0, .string ⟨#[]⟩, .slice none 0 0] 52)
  have HX := Lib.hid ((VB.new w (.int .i64 0) (.int .i64 0) (.string ⟨#[]⟩) (.slice none 0 0) _ rfl).later ((Below.refl _ _).alloc (Nat.le_refl _) (.cells #[.int .i64 0, .int .i64 0, .string ⟨#[]⟩, .slice none 0 0] 52)))
  have HW := Lib.hid (VB.new (w.alloc (.cells #[.int .i64 0, .int .i64 0, .string ⟨#[]⟩, .slice none 0 0] 52)) (.int .i64 0) (.int .i64 0) (.string ⟨#[]⟩) (.slice none 0 0) (w.heap.size + 1) (by simp))
  have HA := Lib.hid (rall_any [x, y] (by simp) 1 (some ⟨b, off, none⟩) cap _ (hv.below hb2))
  rw [show allV [x, y] 1 = true by simp [allV, hx, hy]] at HA
  have HV := Lib.hid (vals2 (hv.below hb2))
  have HB := Lib.hid hb2
  have PX := Lib.hid (rsum_any x.num y.num ia ib)
  clear hb2 hv hx hy ia ib
  obtain ⟨xk, xn, xt, xl⟩ := x
  obtain ⟨yk, yn, yt, yl⟩ := y
  simp only at *
  obtain ⟨NV, hNV⟩ : ∃ NV, NV = numE (xn + yn) := ⟨_, rfl⟩
  rw [← hNV]
  have HNV := Lib.hid hNV
  clear hNV
  go_enter Tryz.func63, Tryz.ntmps63
  go_wp2_with fail
  refine HA.out.mono ?_
  rintro e w1 ⟨rfl, b1⟩
  have hv1 := HV.out
  have c1 := (b1.cell (p := ⟨b, off + 1, none⟩) hv1.1).trans hv1.2.1
  have c2 := (b1.cell (p := ⟨b, off + 4 + 1, none⟩) hv1.1).trans hv1.2.2
  have hx1 := HX.out.later b1
  have hw1 := HW.out.later b1
  have p0 := hx1.c0
  have p1 := hx1.c1
  have p2 := hx1.c2
  have p3 := hx1.c3
  have fz := hx1.fz
  have u0 := hw1.c0
  have u1 := hw1.c1
  have u2 := hw1.c2
  have u3 := hw1.c3
  have HX1 := Lib.hid hx1
  have HB1 := Lib.hid (HB.out.trans (b1.mono HB.out.size))
  clear b1 hv1 hx1 hw1 HA HV HX HW HB
  go_wp2_with fail
  refine (PX.out _).mono ?_
  rintro e w2 ⟨⟨n, ok, rfl, hn⟩, rfl⟩
  have HN := Lib.hid hn
  clear hn
  clear p0 p1 p2 p3 fz u0 u1 u2 u3
  go_wp2_with fail
  refine (rnumber_any _ _ _ HN.out _).mono ?_
  rintro e w3 ⟨rfl, b3⟩
  have hx3 := HX1.out.later b3
  have p0 := hx3.c0
  have p1 := hx3.c1
  have p2 := hx3.c2
  have p3 := hx3.c3
  have fz := hx3.fz
  have HB3 := Lib.hid (HB1.out.trans (b3.mono HB1.out.size))
  rw [← HNV.out]
  clear b3
  have HL := Lib.hid (num_list _ _ HNV.out)
  obtain ⟨⟨nk, nn, nt, nl⟩, ne⟩ := NV
  have hl := HL.out
  simp only at hl
  subst hl
  have HF := Lib.hid (hx3.put (.int .i64 nk) (.int .i64 nn) (.string (S nt)) (.slice none 0 0))
  have HBF := Lib.hid (below4 HB3.out w.heap.size (Nat.le_refl _) (.int .i64 nk) (.int .i64 nn) (.string (S nt)) (.slice none 0 0))
  clear hx3
  unfold RV valC
  simp only [List.length_nil]
  go_wp2_with fail
  refine bodyPost_ret (res_val2 rfl _ _ w.heap.size _ _ _ _ (.int .i64 (ne : Int)) rfl HF.out rfl) rfl ?_
  exact ⟨rfl, HBF.out⟩
theorem rnode_21 (x y : V) (hx : x.kind = 1) (hy : y.kind = 1) (ia : I64 x.num) (ib : I64 y.num)  (b off cap : Nat) (w : World) (hv : ValsAt w (some ⟨b, off, none⟩) [x, y]) :
    Calls Tryz.prog 63 #[.int .i64 21, .slice (some ⟨b, off, none⟩) 2 cap] w fun e w' => e = .returned (RV (if y.num = 0 then (zeroV, 31) else numE (x.num.tdiv y.num)) none 0) ∧ Below w.heap.size w w' := by
  have hb2 := ((Below.refl w.heap.size w).alloc (Nat.le_refl _) (.cells #[.int .i64 0, .int .i64 0, .string ⟨#[]⟩, .slice none 0 0] 52)).alloc (by simp) (.cells #[.int .i64 0, .int .i64 0, .string ⟨#[]⟩, .slice none 0 0] 52)
  have HX := Lib.hid ((VB.new w (.int .i64 0) (.int .i64 0) (.string ⟨#[]⟩) (.slice none 0 0) _ rfl).later ((Below.refl _ _).alloc (Nat.le_refl _) (.cells #[.int .i64 0, .int .i64 0, .string ⟨#[]⟩, .slice none 0 0] 52)))
  have HW := Lib.hid (VB.new (w.alloc (.cells #[.int .i64 0, .int .i64 0, .string ⟨#[]⟩, .slice none 0 0] 52)) (.int .i64 0) (.int .i64 0) (.string ⟨#[]⟩) (.slice none 0 0) (w.heap.size + 1) (by simp))
  have HA := Lib.hid (rall_any [x, y] (by simp) 1 (some ⟨b, off, none⟩) cap _ (hv.below hb2))
  rw [show allV [x, y] 1 = true by simp [allV, hx, hy]] at HA
  have HV := Lib.hid (vals2 (hv.below hb2))
  have HB := Lib.hid hb2
  have PX := Lib.hid (fun (h : y.num ≠ 0) => rquotient_any x.num y.num ia ib h)
  clear hb2 hv hx hy ia ib
  obtain ⟨xk, xn, xt, xl⟩ := x
  obtain ⟨yk, yn, yt, yl⟩ := y
  simp only at *
  by_cases hz : yn = 0
  · subst hz
    rw [if_pos rfl]
    clear PX
    go_enter Tryz.func63, Tryz.ntmps63
    go_wp2_with fail
    refine HA.out.mono ?_
    rintro e w1 ⟨rfl, b1⟩
    have hv1 := HV.out
    have c1 := (b1.cell (p := ⟨b, off + 1, none⟩) hv1.1).trans hv1.2.1
    have c2 := (b1.cell (p := ⟨b, off + 4 + 1, none⟩) hv1.1).trans hv1.2.2
    have hx1 := HX.out.later b1
    have hw1 := HW.out.later b1
    have p0 := hx1.c0
    have p1 := hx1.c1
    have p2 := hx1.c2
    have p3 := hx1.c3
    have fz := hx1.fz
    have u0 := hw1.c0
    have u1 := hw1.c1
    have u2 := hw1.c2
    have u3 := hw1.c3
    have HX1 := Lib.hid hx1
    have HB1 := Lib.hid (HB.out.trans (b1.mono HB.out.size))
    clear b1 hv1 hx1 hw1 HA HV HX HW HB
    go_wp2_with fail
    have HF := Lib.hid (HX1.out.put (.int .i64 0) (.int .i64 0) (.string ⟨#[]⟩) (.slice none 0 0))
    have HBF := Lib.hid (below4 HB1.out w.heap.size (Nat.le_refl _) (.int .i64 0) (.int .i64 0) (.string ⟨#[]⟩) (.slice none 0 0))
    refine bodyPost_ret (res_val2 rfl _ _ w.heap.size _ _ _ _ (.int .i64 31) rfl HF.out rfl) rfl ?_
    exact ⟨rfl, HBF.out⟩
  · rw [if_neg hz]
    have hz1 : (yn == 0) = false := by simpa using hz
    have PX := Lib.hid (PX.out hz)
    clear hz
    obtain ⟨NV, hNV⟩ : ∃ NV, NV = numE (xn.tdiv yn) := ⟨_, rfl⟩
    rw [← hNV]
    have HNV := Lib.hid hNV
    clear hNV
    go_enter Tryz.func63, Tryz.ntmps63
    go_wp2_with fail
    refine HA.out.mono ?_
    rintro e w1 ⟨rfl, b1⟩
    have hv1 := HV.out
    have c1 := (b1.cell (p := ⟨b, off + 1, none⟩) hv1.1).trans hv1.2.1
    have c2 := (b1.cell (p := ⟨b, off + 4 + 1, none⟩) hv1.1).trans hv1.2.2
    have hx1 := HX.out.later b1
    have hw1 := HW.out.later b1
    have p0 := hx1.c0
    have p1 := hx1.c1
    have p2 := hx1.c2
    have p3 := hx1.c3
    have fz := hx1.fz
    have u0 := hw1.c0
    have u1 := hw1.c1
    have u2 := hw1.c2
    have u3 := hw1.c3
    have HX1 := Lib.hid hx1
    have HB1 := Lib.hid (HB.out.trans (b1.mono HB.out.size))
    clear b1 hv1 hx1 hw1 HA HV HX HW HB
    go_wp2_with fail
    refine (PX.out _).mono ?_
    rintro e w2 ⟨⟨n, ok, rfl, hn⟩, rfl⟩
    have HN := Lib.hid hn
    clear hn
    clear p0 p1 p2 p3 fz u0 u1 u2 u3
    go_wp2_with fail
    refine (rnumber_any _ _ _ HN.out _).mono ?_
    rintro e w3 ⟨rfl, b3⟩
    have hx3 := HX1.out.later b3
    have p0 := hx3.c0
    have p1 := hx3.c1
    have p2 := hx3.c2
    have p3 := hx3.c3
    have fz := hx3.fz
    have HB3 := Lib.hid (HB1.out.trans (b3.mono HB1.out.size))
    rw [← HNV.out]
    clear b3
    have HL := Lib.hid (num_list _ _ HNV.out)
    obtain ⟨⟨nk, nn, nt, nl⟩, ne⟩ := NV
    have hl := HL.out
    simp only at hl
    subst hl
    have HF := Lib.hid (hx3.put (.int .i64 nk) (.int .i64 nn) (.string (S nt)) (.slice none 0 0))
    have HBF := Lib.hid (below4 HB3.out w.heap.size (Nat.le_refl _) (.int .i64 nk) (.int .i64 nn) (.string (S nt)) (.slice none 0 0))
    clear hx3
    unfold RV valC
    simp only [List.length_nil]
    go_wp2_with fail
    refine bodyPost_ret (res_val2 rfl _ _ w.heap.size _ _ _ _ (.int .i64 (ne : Int)) rfl HF.out rfl) rfl ?_
    exact ⟨rfl, HBF.out⟩
theorem rnode_22 (x y : V) (hx : x.kind = 1) (hy : y.kind = 1) (ia : I64 x.num) (ib : I64 y.num)  (b off cap : Nat) (w : World) (hv : ValsAt w (some ⟨b, off, none⟩) [x, y]) :
    Calls Tryz.prog 63 #[.int .i64 22, .slice (some ⟨b, off, none⟩) 2 cap] w fun e w' => e = .returned (RV (if y.num = 0 then (zeroV, 31) else numE (x.num.tmod y.num)) none 0) ∧ Below w.heap.size w w' := by
  have hb2 := ((Below.refl w.heap.size w).alloc (Nat.le_refl _) (.cells #[.int .i64 0, .int .i64 0, .string ⟨#[]⟩, .slice none 0 0] 52)).alloc (by simp) (.cells #[.int .i64 0, .int .i64 0, .string ⟨#[]⟩, .slice none 0 0] 52)
  have HX := Lib.hid ((VB.new w (.int .i64 0) (.int .i64 0) (.string ⟨#[]⟩) (.slice none 0 0) _ rfl).later ((Below.refl _ _).alloc (Nat.le_refl _) (.cells #[.int .i64 0, .int .i64 0, .string ⟨#[]⟩, .slice none 0 0] 52)))
  have HW := Lib.hid (VB.new (w.alloc (.cells #[.int .i64 0, .int .i64 0, .string ⟨#[]⟩, .slice none 0 0] 52)) (.int .i64 0) (.int .i64 0) (.string ⟨#[]⟩) (.slice none 0 0) (w.heap.size + 1) (by simp))
  have HA := Lib.hid (rall_any [x, y] (by simp) 1 (some ⟨b, off, none⟩) cap _ (hv.below hb2))
  rw [show allV [x, y] 1 = true by simp [allV, hx, hy]] at HA
  have HV := Lib.hid (vals2 (hv.below hb2))
  have HB := Lib.hid hb2
  have PX := Lib.hid (fun (h : y.num ≠ 0) => (⟨rquotient_any x.num y.num ia ib h, (⟨(tmod_fits2 ia ib h).symm, fun _ => rfl⟩ : NumR (x.num.tmod y.num) (x.num.tmod y.num) true)⟩ : _ ∧ _))
  clear hb2 hv hx hy ia ib
  obtain ⟨xk, xn, xt, xl⟩ := x
  obtain ⟨yk, yn, yt, yl⟩ := y
  simp only at *
  by_cases hz : yn = 0
  · subst hz
    rw [if_pos rfl]
    clear PX
    go_enter Tryz.func63, Tryz.ntmps63
    go_wp2_with fail
    refine HA.out.mono ?_
    rintro e w1 ⟨rfl, b1⟩
    have hv1 := HV.out
    have c1 := (b1.cell (p := ⟨b, off + 1, none⟩) hv1.1).trans hv1.2.1
    have c2 := (b1.cell (p := ⟨b, off + 4 + 1, none⟩) hv1.1).trans hv1.2.2
    have hx1 := HX.out.later b1
    have hw1 := HW.out.later b1
    have p0 := hx1.c0
    have p1 := hx1.c1
    have p2 := hx1.c2
    have p3 := hx1.c3
    have fz := hx1.fz
    have u0 := hw1.c0
    have u1 := hw1.c1
    have u2 := hw1.c2
    have u3 := hw1.c3
    have HX1 := Lib.hid hx1
    have HB1 := Lib.hid (HB.out.trans (b1.mono HB.out.size))
    clear b1 hv1 hx1 hw1 HA HV HX HW HB
    go_wp2_with fail
    have HF := Lib.hid (HX1.out.put (.int .i64 0) (.int .i64 0) (.string ⟨#[]⟩) (.slice none 0 0))
    have HBF := Lib.hid (below4 HB1.out w.heap.size (Nat.le_refl _) (.int .i64 0) (.int .i64 0) (.string ⟨#[]⟩) (.slice none 0 0))
    refine bodyPost_ret (res_val2 rfl _ _ w.heap.size _ _ _ _ (.int .i64 31) rfl HF.out rfl) rfl ?_
    exact ⟨rfl, HBF.out⟩
  · rw [if_neg hz]
    have hz1 : (yn == 0) = false := by simpa using hz
    have PX := Lib.hid (PX.out hz)
    clear hz
    obtain ⟨NV, hNV⟩ : ∃ NV, NV = numE (xn.tmod yn) := ⟨_, rfl⟩
    rw [← hNV]
    have HNV := Lib.hid hNV
    clear hNV
    go_enter Tryz.func63, Tryz.ntmps63
    go_wp2_with fail
    refine HA.out.mono ?_
    rintro e w1 ⟨rfl, b1⟩
    have hv1 := HV.out
    have c1 := (b1.cell (p := ⟨b, off + 1, none⟩) hv1.1).trans hv1.2.1
    have c2 := (b1.cell (p := ⟨b, off + 4 + 1, none⟩) hv1.1).trans hv1.2.2
    have hx1 := HX.out.later b1
    have hw1 := HW.out.later b1
    have p0 := hx1.c0
    have p1 := hx1.c1
    have p2 := hx1.c2
    have p3 := hx1.c3
    have fz := hx1.fz
    have u0 := hw1.c0
    have u1 := hw1.c1
    have u2 := hw1.c2
    have u3 := hw1.c3
    have HX1 := Lib.hid hx1
    have HB1 := Lib.hid (HB.out.trans (b1.mono HB.out.size))
    clear b1 hv1 hx1 hw1 HA HV HX HW HB
    go_wp2_with fail
    refine (PX.out.1 _).mono ?_
    rintro e w2 ⟨⟨n, ok, rfl, hn⟩, rfl⟩
    have HN := Lib.hid hn
    clear hn
    clear p0 p1 p2 p3 fz u0 u1 u2 u3
    go_wp2_with fail
    refine (rnumber_any _ _ _ PX.out.2 _).mono ?_
    rintro e w3 ⟨rfl, b3⟩
    have hx3 := HX1.out.later b3
    have p0 := hx3.c0
    have p1 := hx3.c1
    have p2 := hx3.c2
    have p3 := hx3.c3
    have fz := hx3.fz
    have HB3 := Lib.hid (HB1.out.trans (b3.mono HB1.out.size))
    rw [← HNV.out]
    clear b3
    have HL := Lib.hid (num_list _ _ HNV.out)
    obtain ⟨⟨nk, nn, nt, nl⟩, ne⟩ := NV
    have hl := HL.out
    simp only at hl
    subst hl
    have HF := Lib.hid (hx3.put (.int .i64 nk) (.int .i64 nn) (.string (S nt)) (.slice none 0 0))
    have HBF := Lib.hid (below4 HB3.out w.heap.size (Nat.le_refl _) (.int .i64 nk) (.int .i64 nn) (.string (S nt)) (.slice none 0 0))
    clear hx3
    unfold RV valC
    simp only [List.length_nil]
    go_wp2_with fail
    refine bodyPost_ret (res_val2 rfl _ _ w.heap.size _ _ _ _ (.int .i64 (ne : Int)) rfl HF.out rfl) rfl ?_
    exact ⟨rfl, HBF.out⟩
theorem rnode_11 (x : V) (hx : x.kind = 1) (ia : I64 x.num)  (b off cap : Nat) (w : World) (hv : ValsAt w (some ⟨b, off, none⟩) [x]) :
    Calls Tryz.prog 63 #[.int .i64 11, .slice (some ⟨b, off, none⟩) 1 cap] w fun e w' => e = .returned (RV (numE (-x.num)) none 0) ∧ Below w.heap.size w w' := by
  have hb2 := ((Below.refl w.heap.size w).alloc (Nat.le_refl _) (.cells #[.int .i64 0, .int .i64 0, .string ⟨#[]⟩, .slice none 0 0] 52)).alloc (by simp) (.cells #[.int .i64 0, .int .i64 0, .string ⟨#[]⟩, .slice none 0 0] 52)
  have HX := Lib.hid ((VB.new w (.int .i64 0) (.int .i64 0) (.string ⟨#[]⟩) (.slice none 0 0) _ rfl).later ((Below.refl _ _).alloc (Nat.le_refl _) (.cells #[.int .i64 0, .int .i64 0, .string ⟨#[]⟩, .slice none 0 0] 52)))
  have HW := Lib.hid (VB.new (w.alloc (.cells #[.int .i64 0, .int .i64 0, .string ⟨#[]⟩, .slice none 0 0] 52)) (.int .i64 0) (.int .i64 0) (.string ⟨#[]⟩) (.slice none 0 0) (w.heap.size + 1) (by simp))
  have HA := Lib.hid (rall_any [x] (by simp) 1 (some ⟨b, off, none⟩) cap _ (hv.below hb2))
  rw [show allV [x] 1 = true by simp [allV, hx]] at HA
  have HV := Lib.hid (vals1 (hv.below hb2))
  have HB := Lib.hid hb2
  have PX := Lib.hid (⟨rproduct_any x.num (-1) ia ⟨by omega, by omega⟩, by omega⟩ : _ ∧ x.num * -1 = -x.num)
  clear hb2 hv hx ia
  obtain ⟨xk, xn, xt, xl⟩ := x
  simp only at *
  obtain ⟨PX, hm⟩ := PX.out
  have PX := Lib.hid PX
  rw [← hm]
  clear hm
  obtain ⟨NV, hNV⟩ : ∃ NV, NV = numE (xn * -1) := ⟨_, rfl⟩
  rw [← hNV]
  have HNV := Lib.hid hNV
  clear hNV
  go_enter Tryz.func63, Tryz.ntmps63
  go_wp2_with fail
  refine HA.out.mono ?_
  rintro e w1 ⟨rfl, b1⟩
  have hv1 := HV.out
  have c1 := (b1.cell (p := ⟨b, off + 1, none⟩) hv1.1).trans hv1.2
  have hx1 := HX.out.later b1
  have hw1 := HW.out.later b1
  have p0 := hx1.c0
  have p1 := hx1.c1
  have p2 := hx1.c2
  have p3 := hx1.c3
  have fz := hx1.fz
  have u0 := hw1.c0
  have u1 := hw1.c1
  have u2 := hw1.c2
  have u3 := hw1.c3
  have HX1 := Lib.hid hx1
  have HB1 := Lib.hid (HB.out.trans (b1.mono HB.out.size))
  clear b1 hv1 hx1 hw1 HA HV HX HW HB
  go_wp2_with fail
  refine (PX.out _).mono ?_
  rintro e w2 ⟨⟨n, ok, rfl, hn⟩, rfl⟩
  have HN := Lib.hid hn
  clear hn
  clear p0 p1 p2 p3 fz u0 u1 u2 u3
  go_wp2_with fail
  refine (rnumber_any _ _ _ HN.out _).mono ?_
  rintro e w3 ⟨rfl, b3⟩
  have hx3 := HX1.out.later b3
  have p0 := hx3.c0
  have p1 := hx3.c1
  have p2 := hx3.c2
  have p3 := hx3.c3
  have fz := hx3.fz
  have HB3 := Lib.hid (HB1.out.trans (b3.mono HB1.out.size))
  rw [← HNV.out]
  clear b3
  have HL := Lib.hid (num_list _ _ HNV.out)
  obtain ⟨⟨nk, nn, nt, nl⟩, ne⟩ := NV
  have hl := HL.out
  simp only at hl
  subst hl
  have HF := Lib.hid (hx3.put (.int .i64 nk) (.int .i64 nn) (.string (S nt)) (.slice none 0 0))
  have HBF := Lib.hid (below4 HB3.out w.heap.size (Nat.le_refl _) (.int .i64 nk) (.int .i64 nn) (.string (S nt)) (.slice none 0 0))
  clear hx3
  unfold RV valC
  simp only [List.length_nil]
  go_wp2_with fail
  refine bodyPost_ret (res_val2 rfl _ _ w.heap.size _ _ _ _ (.int .i64 (ne : Int)) rfl HF.out rfl) rfl ?_
  exact ⟨rfl, HBF.out⟩
theorem rnode_24 (x y : V) (hx : x.kind = 1) (hy : y.kind = 1) (ia : I64 x.num) (ib : I64 y.num)  (b off cap : Nat) (w : World) (hv : ValsAt w (some ⟨b, off, none⟩) [x, y]) :
    Calls Tryz.prog 63 #[.int .i64 24, .slice (some ⟨b, off, none⟩) 2 cap] w fun e w' => e = .returned (RV (numE (x.num - y.num)) none 0) ∧ Below w.heap.size w w' := by
  have hb2 := ((Below.refl w.heap.size w).alloc (Nat.le_refl _) (.cells #[.int .i64 0, .int .i64 0, .string ⟨#[]⟩, .slice none 0 0] 52)).alloc (by simp) (.cells #[.int .i64 0, .int .i64 0, .string ⟨#[]⟩, .slice none 0 0] 52)
  have HX := Lib.hid ((VB.new w (.int .i64 0) (.int .i64 0) (.string ⟨#[]⟩) (.slice none 0 0) _ rfl).later ((Below.refl _ _).alloc (Nat.le_refl _) (.cells #[.int .i64 0, .int .i64 0, .string ⟨#[]⟩, .slice none 0 0] 52)))
  have HW := Lib.hid (VB.new (w.alloc (.cells #[.int .i64 0, .int .i64 0, .string ⟨#[]⟩, .slice none 0 0] 52)) (.int .i64 0) (.int .i64 0) (.string ⟨#[]⟩) (.slice none 0 0) (w.heap.size + 1) (by simp))
  have HA := Lib.hid (rall_any [x, y] (by simp) 1 (some ⟨b, off, none⟩) cap _ (hv.below hb2))
  rw [show allV [x, y] 1 = true by simp [allV, hx, hy]] at HA
  have HV := Lib.hid (vals2 (hv.below hb2))
  have HB := Lib.hid hb2
  have PX := Lib.hid (⟨fun (h : y.num ≠ -9223372036854775808) => (show I64 (-y.num) from ⟨by have := ib.hi; omega, by have := ib.lo; omega⟩), ia, ib⟩ : (y.num ≠ -9223372036854775808 → I64 (-y.num)) ∧ I64 x.num ∧ I64 y.num)
  clear hb2 hv hx hy ia ib
  obtain ⟨xk, xn, xt, xl⟩ := x
  obtain ⟨yk, yn, yt, yl⟩ := y
  simp only at *
  obtain ⟨hneg, ja, jb⟩ := PX.out
  have g1 := ja.lo; have g2 := ja.hi; have g3 := jb.lo; have g4 := jb.hi
  clear PX
  by_cases hz : yn = -9223372036854775808
  · subst hz
    clear hneg jb g3 g4
    by_cases hp : 0 ≤ xn
    · have hnf : numE (xn - -9223372036854775808) = (zeroV, 30) := by
        unfold numE
        rw [if_neg (by simp [fits64]; omega)]
      rw [hnf]
      clear hnf ja g1 g2
      go_enter Tryz.func63, Tryz.ntmps63
      go_wp2_with fail
      refine HA.out.mono ?_
      rintro e w1 ⟨rfl, b1⟩
      have hv1 := HV.out
      have c1 := (b1.cell (p := ⟨b, off + 1, none⟩) hv1.1).trans hv1.2.1
      have c2 := (b1.cell (p := ⟨b, off + 4 + 1, none⟩) hv1.1).trans hv1.2.2
      have hx1 := HX.out.later b1
      have hw1 := HW.out.later b1
      have p0 := hx1.c0
      have p1 := hx1.c1
      have p2 := hx1.c2
      have p3 := hx1.c3
      have fz := hx1.fz
      have u0 := hw1.c0
      have u1 := hw1.c1
      have u2 := hw1.c2
      have u3 := hw1.c3
      have HX1 := Lib.hid hx1
      have HB1 := Lib.hid (HB.out.trans (b1.mono HB.out.size))
      clear b1 hv1 hx1 hw1 HA HV HX HW HB
      go_wp2_with fail
      have HF := Lib.hid (HX1.out.put (.int .i64 0) (.int .i64 0) (.string ⟨#[]⟩) (.slice none 0 0))
      have HBF := Lib.hid (below4 HB1.out w.heap.size (Nat.le_refl _) (.int .i64 0) (.int .i64 0) (.string ⟨#[]⟩) (.slice none 0 0))
      refine bodyPost_ret (res_val2 rfl _ _ w.heap.size _ _ _ _ (.int .i64 30) rfl HF.out rfl) rfl ?_
      exact ⟨rfl, HBF.out⟩
    · obtain ⟨s1, e1⟩ : ∃ s1, IntKind.i64.wrap (xn + 9223372036854775807) = s1 := ⟨_, rfl⟩
      obtain ⟨s2, e2⟩ : ∃ s2, IntKind.i64.wrap (s1 + 1) = s2 := ⟨_, rfl⟩
      have hs : s2 = xn - -9223372036854775808 := by rw [wrap64] at e1 e2; omega
      have HN := Lib.hid (show NumR (xn - -9223372036854775808) s2 true from ⟨by simp [fits64]; omega, fun _ => hs⟩)
      clear hs ja g1 g2
      obtain ⟨NV, hNV⟩ : ∃ NV, NV = numE (xn - -9223372036854775808) := ⟨_, rfl⟩
      rw [← hNV]
      have HNV := Lib.hid hNV
      clear hNV
      go_enter Tryz.func63, Tryz.ntmps63
      go_wp2_with fail
      refine HA.out.mono ?_
      rintro e w1 ⟨rfl, b1⟩
      have hv1 := HV.out
      have c1 := (b1.cell (p := ⟨b, off + 1, none⟩) hv1.1).trans hv1.2.1
      have c2 := (b1.cell (p := ⟨b, off + 4 + 1, none⟩) hv1.1).trans hv1.2.2
      have hx1 := HX.out.later b1
      have hw1 := HW.out.later b1
      have p0 := hx1.c0
      have p1 := hx1.c1
      have p2 := hx1.c2
      have p3 := hx1.c3
      have fz := hx1.fz
      have u0 := hw1.c0
      have u1 := hw1.c1
      have u2 := hw1.c2
      have u3 := hw1.c3
      have HX1 := Lib.hid hx1
      have HB1 := Lib.hid (HB.out.trans (b1.mono HB.out.size))
      clear b1 hv1 hx1 hw1 HA HV HX HW HB
      go_wp2_with fail
      refine (rnumber_any _ _ _ HN.out _).mono ?_
      rintro e w3 ⟨rfl, b3⟩
      have hx3 := HX1.out.later b3
      have p0 := hx3.c0
      have p1 := hx3.c1
      have p2 := hx3.c2
      have p3 := hx3.c3
      have fz := hx3.fz
      have HB3 := Lib.hid (HB1.out.trans (b3.mono HB1.out.size))
      rw [← HNV.out]
      clear b3
      have HL := Lib.hid (num_list _ _ HNV.out)
      obtain ⟨⟨nk, nn, nt, nl⟩, ne⟩ := NV
      have hl := HL.out
      simp only at hl
      subst hl
      have HF := Lib.hid (hx3.put (.int .i64 nk) (.int .i64 nn) (.string (S nt)) (.slice none 0 0))
      have HBF := Lib.hid (below4 HB3.out w.heap.size (Nat.le_refl _) (.int .i64 nk) (.int .i64 nn) (.string (S nt)) (.slice none 0 0))
      clear hx3
      unfold RV valC
      simp only [List.length_nil]
      go_wp2_with fail
      refine bodyPost_ret (res_val2 rfl _ _ w.heap.size _ _ _ _ (.int .i64 (ne : Int)) rfl HF.out rfl) rfl ?_
      exact ⟨rfl, HBF.out⟩
  · have hz1 : (yn == -9223372036854775808) = false := by simpa using hz
    obtain ⟨s1, e1⟩ : ∃ s1, IntKind.i64.wrap (-yn) = s1 := ⟨_, rfl⟩
    have hs : s1 = -yn := by rw [wrap64] at e1; omega
    have hi := hneg hz
    rw [← hs] at hi
    have PX := Lib.hid (rsum_any xn s1 ja hi)
    have e3 : xn + s1 = xn - yn := by omega
    rw [e3] at PX
    clear hs ja jb g1 g2 g3 g4 hneg hi hz e3
    obtain ⟨NV, hNV⟩ : ∃ NV, NV = numE (xn - yn) := ⟨_, rfl⟩
    rw [← hNV]
    have HNV := Lib.hid hNV
    clear hNV
    go_enter Tryz.func63, Tryz.ntmps63
    go_wp2_with fail
    refine HA.out.mono ?_
    rintro e w1 ⟨rfl, b1⟩
    have hv1 := HV.out
    have c1 := (b1.cell (p := ⟨b, off + 1, none⟩) hv1.1).trans hv1.2.1
    have c2 := (b1.cell (p := ⟨b, off + 4 + 1, none⟩) hv1.1).trans hv1.2.2
    have hx1 := HX.out.later b1
    have hw1 := HW.out.later b1
    have p0 := hx1.c0
    have p1 := hx1.c1
    have p2 := hx1.c2
    have p3 := hx1.c3
    have fz := hx1.fz
    have u0 := hw1.c0
    have u1 := hw1.c1
    have u2 := hw1.c2
    have u3 := hw1.c3
    have HX1 := Lib.hid hx1
    have HB1 := Lib.hid (HB.out.trans (b1.mono HB.out.size))
    clear b1 hv1 hx1 hw1 HA HV HX HW HB
    go_wp2_with fail
    refine (PX.out _).mono ?_
    rintro e w2 ⟨⟨n, ok, rfl, hn⟩, rfl⟩
    have HN := Lib.hid hn
    clear hn
    clear p0 p1 p2 p3 fz u0 u1 u2 u3
    go_wp2_with fail
    refine (rnumber_any _ _ _ HN.out _).mono ?_
    rintro e w3 ⟨rfl, b3⟩
    have hx3 := HX1.out.later b3
    have p0 := hx3.c0
    have p1 := hx3.c1
    have p2 := hx3.c2
    have p3 := hx3.c3
    have fz := hx3.fz
    have HB3 := Lib.hid (HB1.out.trans (b3.mono HB1.out.size))
    rw [← HNV.out]
    clear b3
    have HL := Lib.hid (num_list _ _ HNV.out)
    obtain ⟨⟨nk, nn, nt, nl⟩, ne⟩ := NV
    have hl := HL.out
    simp only at hl
    subst hl
    have HF := Lib.hid (hx3.put (.int .i64 nk) (.int .i64 nn) (.string (S nt)) (.slice none 0 0))
    have HBF := Lib.hid (below4 HB3.out w.heap.size (Nat.le_refl _) (.int .i64 nk) (.int .i64 nn) (.string (S nt)) (.slice none 0 0))
    clear hx3
    unfold RV valC
    simp only [List.length_nil]
    go_wp2_with fail
    refine bodyPost_ret (res_val2 rfl _ _ w.heap.size _ _ _ _ (.int .i64 (ne : Int)) rfl HF.out rfl) rfl ?_
    exact ⟨rfl, HBF.out⟩
end Go.Proofs.YtlmmfhbdebfgkaaGreatDoor.Ev
