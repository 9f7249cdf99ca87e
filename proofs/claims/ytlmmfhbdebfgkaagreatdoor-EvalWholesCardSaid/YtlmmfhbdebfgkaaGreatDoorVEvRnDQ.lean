/-
  EvRnD, EvRnE, ExWrA.
-/
import Derived.Test.YtlmmfhbdebfgkaaGreatDoorVEvRnN
import Derived.Test.YtlmmfhbdebfgkaaGreatDoorVVaOrdQ
import Derived.Test.YtlmmfhbdebfgkaaGreatDoorVEvJuncHQ
import Derived.Test.YtlmmfhbdebfgkaaGreatDoorVVlQuoteQ
import Derived.Deep.RegionHeld3
import Derived.Deep.QuietTactic
import Derived.BigQuiet
import Derived.Lib.SmallJoins
set_option linter.unusedVariables false
set_option linter.unusedSimpArgs false
set_option maxRecDepth 100000
set_option maxHeartbeats 8000000
namespace Go.Proofs.YtlmmfhbdebfgkaaGreatDoor.Ev
open Go.RowKit
open Ex Lx Va Ty
set_option maxRecDepth 100000
structure Two8 (w : World) (b off : Nat) (x y : V) (qx qy : Option Addr) (cx cy : Nat) : Prop where
  lt : b < w.heap.size
  c0 : w.cell? ⟨b, off, none⟩ = some (.int .i64 x.kind)
  c1 : w.cell? ⟨b, off + 1, none⟩ = some (.int .i64 x.num)
  c2 : w.cell? ⟨b, off + 2, none⟩ = some (.string (S x.text))
  c3 : w.cell? ⟨b, off + 3, none⟩ = some (.slice qx x.list.length cx)
  d0 : w.cell? ⟨b, off + 4, none⟩ = some (.int .i64 y.kind)
  d1 : w.cell? ⟨b, off + 4 + 1, none⟩ = some (.int .i64 y.num)
  d2 : w.cell? ⟨b, off + 4 + 2, none⟩ = some (.string (S y.text))
  d3 : w.cell? ⟨b, off + 4 + 3, none⟩ = some (.slice qy y.list.length cy)
theorem Two8.later {w w' : World} {b off : Nat} {x y : V} {qx qy : Option Addr} {cx cy : Nat} (h : Two8 w b off x y qx qy cx cy) (k : Below w.heap.size w w') : Two8 w' b off x y qx qy cx cy :=
  ⟨Nat.lt_of_lt_of_le h.lt k.size, (k.cell (p := ⟨b, off, none⟩) h.lt).trans h.c0, (k.cell (p := ⟨b, off + 1, none⟩) h.lt).trans h.c1, (k.cell (p := ⟨b, off + 2, none⟩) h.lt).trans h.c2, (k.cell (p := ⟨b, off + 3, none⟩) h.lt).trans h.c3,
   (k.cell (p := ⟨b, off + 4, none⟩) h.lt).trans h.d0, (k.cell (p := ⟨b, off + 4 + 1, none⟩) h.lt).trans h.d1, (k.cell (p := ⟨b, off + 4 + 2, none⟩) h.lt).trans h.d2, (k.cell (p := ⟨b, off + 4 + 3, none⟩) h.lt).trans h.d3⟩
theorem two8_of {w : World} {b off : Nat} {x y : V} (h : ValsAt w (some ⟨b, off, none⟩) [x, y]) : ∃ qx qy cx cy, Two8 w b off x y qx qy cx cy ∧ NumsAt w qx x.list ∧ NumsAt w qy y.list := by
  obtain ⟨b0, o0, e0, ⟨q, c, g0, g1, g2, g3, g4⟩, hb⟩ := h 0 (by simp)
  obtain ⟨b1, o1, e1, ⟨q', c', k0, k1, k2, k3, k4⟩, _⟩ := h 1 (by simp)
  injection e0 with e0
  injection e0 with e2 e3 _
  subst e2 e3
  injection e1 with e1
  injection e1 with e4 e5 _
  subst e4 e5
  exact ⟨q, q', c, c', ⟨hb, by simpa using g0, by simpa using g1, by simpa using g2, by simpa using g3, by simpa using k0, by simpa using k1, by simpa using k2, by simpa using k3⟩, g4, k4⟩
theorem rnode_30 (x y : V) (hk : x.kind = y.kind) (okx : VOk x) (oky : VOk y) (b off cap : Nat) (w : World) (hv : ValsAt w (some ⟨b, off, none⟩) [x, y]) :
    Calls Tryz.prog 63 #[.int .i64 30, .slice (some ⟨b, off, none⟩) 2 cap] w fun e w' => e = .returned (RV (boolV (sameV x y == true), 0) none 0) ∧ Below w.heap.size w w' := by
  obtain ⟨qx, qy, cx, cy, h8, nx, ny⟩ := two8_of hv
  obtain ⟨W2, hW2⟩ : ∃ W2, W2 = (w.alloc (.cells #[.int .i64 0, .int .i64 0, .string ⟨#[]⟩, .slice none 0 0] 52)).alloc (.cells #[.int .i64 0, .int .i64 0, .string ⟨#[]⟩, .slice none 0 0] 52) := ⟨_, rfl⟩
  have hb2 : Below w.heap.size w W2 := by rw [hW2]; exact ((Below.refl w.heap.size w).alloc (Nat.le_refl _) _).alloc (by simp) _
  have hx2 : VB W2 w.heap.size (.int .i64 0) (.int .i64 0) (.string ⟨#[]⟩) (.slice none 0 0) := by rw [hW2]; exact (VB.new w _ _ _ _ _ rfl).later ((Below.refl _ _).alloc (Nat.le_refl _) _)
  have H8 := Lib.hid (h8.later hb2)
  have HX := Lib.hid hx2
  have HB := Lib.hid hb2
  have HW2 := Lib.hid hW2
  have NX := Lib.hid (nx.below hb2)
  have NY := Lib.hid (ny.below hb2)
  have SM := Lib.hid (fun W (k : Below W2.heap.size W2 W) => refSame_any x y okx oky qx qy cx cy W (NX.out.below k) (NY.out.below k))
  have TR := Lib.hid (fun W => rtruth_any (sameV x y == true) W)
  generalize sameV x y = sm at *
  generalize hT : (sm == true) = tb at *
  obtain ⟨T, hTT⟩ : ∃ T, T = boolV tb := ⟨_, rfl⟩
  have hl : T.list = [] := by rw [hTT]; rfl
  rw [← hTT] at TR ⊢
  obtain ⟨tk, tn, tt, tl⟩ := T
  simp only at hl
  subst hl
  unfold RV valC at *
  simp only at *
  clear hW2 hb2 hx2 h8 nx ny hv hTT
  obtain ⟨xk, xn, xt, xl⟩ := x
  obtain ⟨yk, yn, yt, yl⟩ := y
  simp only at *
  subst hk
  have h8 := H8.out
  have f0 := h8.c0
  have f1 := h8.c1
  have f2 := h8.c2
  have f3 := h8.c3
  have g0 := h8.d0
  have g1 := h8.d1
  have g2 := h8.d2
  have g3 := h8.d3
  clear h8
  have HLT := Lib.hid H8.out.lt
  go_enter Tryz.func63, Tryz.ntmps63
  go_wp2_with fail
  rw [← HW2.out]
  go_quiet (fail)
  go_wp2_with fail
  obtain ⟨W3, hW3⟩ : ∃ W3, W3 = W2.drewN nq := ⟨_, rfl⟩
  have hb3 : Below W2.heap.size W2 W3 := by rw [hW3]; exact Go.Joins.below_draws _ _ _
  have H83 := Lib.hid (H8.out.later hb3)
  have HX3 := Lib.hid (HX.out.later hb3)
  have SM3 := Lib.hid (fun W (k : Below W3.heap.size W3 W) => SM.out W (hb3.trans (k.mono hb3.size)))
  have HB3 := Lib.hid (HB.out.trans (hb3.mono HB.out.size))
  rw [← hW3]
  clear hb3 hW3 SM H8 HX HB HLT NX NY f0 f1 f2 f3 g0 g1 g2 g3
  have h8 := H83.out
  have HLT := Lib.hid h8.lt
  have HF := Lib.hid (show W3.cell? ⟨b, off, none⟩ = some (.int .i64 xk) ∧ W3.cell? ⟨b, off + 1, none⟩ = some (.int .i64 xn) ∧ W3.cell? ⟨b, off + 2, none⟩ = some (.string (S xt)) ∧ W3.cell? ⟨b, off + 3, none⟩ = some (.slice qx xl.length cx) ∧ W3.cell? ⟨b, off + 4, none⟩ = some (.int .i64 xk) ∧ W3.cell? ⟨b, off + 4 + 1, none⟩ = some (.int .i64 yn) ∧ W3.cell? ⟨b, off + 4 + 2, none⟩ = some (.string (S yt)) ∧ W3.cell? ⟨b, off + 4 + 3, none⟩ = some (.slice qy yl.length cy) from ⟨h8.c0, h8.c1, h8.c2, h8.c3, h8.d0, h8.d1, h8.d2, h8.d3⟩)
  clear h8
  obtain ⟨f0, f1, f2, f3, g0, g1, g2, g3⟩ := HF.out
  have SM4 := Lib.hid (fun W (k : Below W3.heap.size W3 W) => (SM3.out W k).mono (fun e w' (h : e = .returned (.bool sm) ∧ Below W.heap.size W w') => (⟨h.1, (HX3.out.later k).later h.2, (HB3.out.trans (k.mono HB3.out.size)).trans (h.2.mono (HB3.out.trans (k.mono HB3.out.size)).size)⟩ : e = .returned (.bool sm) ∧ VB w' w.heap.size (.int .i64 0) (.int .i64 0) (.string ⟨#[]⟩) (.slice none 0 0) ∧ Below w.heap.size w w')))
  have TR4 := Lib.hid (fun W (hx : VB W w.heap.size (.int .i64 0) (.int .i64 0) (.string ⟨#[]⟩) (.slice none 0 0)) (hb : Below w.heap.size w W) => (TR.out W).mono (fun e w' (h : e = .returned (.tuple #[.agg #[.int .i64 tk, .int .i64 tn, .string (S tt), .slice none 0 0], .int .i64 0]) ∧ Below W.heap.size W w') => (⟨h.1, hx.later h.2, hb.trans (h.2.mono hb.size)⟩ : e = .returned (.tuple #[.agg #[.int .i64 tk, .int .i64 tn, .string (S tt), .slice none 0 0], .int .i64 0]) ∧ VB w' w.heap.size (.int .i64 0) (.int .i64 0) (.string ⟨#[]⟩) (.slice none 0 0) ∧ Below w.heap.size w w')))
  clear SM3 TR HX3 HB3 H83 HLT HF
  go_region_with (first
    | (refine (SM4.out _ (by first | exact Below.refl _ _ | exact (Below.refl _ _).drew | exact Go.Joins.below_draws _ _ _)).mono ?_; rintro e w6 ⟨rfl, hx6, hb6⟩; have HX6 := Lib.hid hx6; have HB6 := Lib.hid hb6; clear hx6 hb6)
    | (refine (TR4.out _ (by first | exact HX6.out | exact (show VB w6.drew _ _ _ _ _ from HX6.out)) (by first | exact HB6.out | exact HB6.out.drew)).mono ?_; rintro e w7 ⟨rfl, hx7, hb7⟩; have fz := hx7.fz; have k0 := hx7.c0; have k1 := hx7.c1; have k2 := hx7.c2; have k3 := hx7.c3; have HX7 := Lib.hid hx7; have HB7 := Lib.hid hb7; clear hx7 hb7))
  all_goals
    (try simp only [Exit.inBlock, Exit.then])
    (try go_wp2_with fail)
    refine bodyPost_ret (res_val2 rfl _ _ w.heap.size _ _ _ _ (.int .i64 0) rfl (HX7.out.put (.int .i64 tk) (.int .i64 tn) (.string (S tt)) (.slice none 0 0)) rfl) rfl ?_
    exact ⟨rfl, below4 HB7.out w.heap.size (Nat.le_refl _) _ _ _ _⟩
theorem rnode_31 (x y : V) (hk : x.kind = y.kind) (okx : VOk x) (oky : VOk y) (b off cap : Nat) (w : World) (hv : ValsAt w (some ⟨b, off, none⟩) [x, y]) :
    Calls Tryz.prog 63 #[.int .i64 31, .slice (some ⟨b, off, none⟩) 2 cap] w fun e w' => e = .returned (RV (boolV (sameV x y == false), 0) none 0) ∧ Below w.heap.size w w' := by
  obtain ⟨qx, qy, cx, cy, h8, nx, ny⟩ := two8_of hv
  obtain ⟨W2, hW2⟩ : ∃ W2, W2 = (w.alloc (.cells #[.int .i64 0, .int .i64 0, .string ⟨#[]⟩, .slice none 0 0] 52)).alloc (.cells #[.int .i64 0, .int .i64 0, .string ⟨#[]⟩, .slice none 0 0] 52) := ⟨_, rfl⟩
  have hb2 : Below w.heap.size w W2 := by rw [hW2]; exact ((Below.refl w.heap.size w).alloc (Nat.le_refl _) _).alloc (by simp) _
  have hx2 : VB W2 w.heap.size (.int .i64 0) (.int .i64 0) (.string ⟨#[]⟩) (.slice none 0 0) := by rw [hW2]; exact (VB.new w _ _ _ _ _ rfl).later ((Below.refl _ _).alloc (Nat.le_refl _) _)
  have H8 := Lib.hid (h8.later hb2)
  have HX := Lib.hid hx2
  have HB := Lib.hid hb2
  have HW2 := Lib.hid hW2
  have NX := Lib.hid (nx.below hb2)
  have NY := Lib.hid (ny.below hb2)
  have SM := Lib.hid (fun W (k : Below W2.heap.size W2 W) => refSame_any x y okx oky qx qy cx cy W (NX.out.below k) (NY.out.below k))
  have TR := Lib.hid (fun W => rtruth_any (sameV x y == false) W)
  generalize sameV x y = sm at *
  generalize hT : (sm == false) = tb at *
  obtain ⟨T, hTT⟩ : ∃ T, T = boolV tb := ⟨_, rfl⟩
  have hl : T.list = [] := by rw [hTT]; rfl
  rw [← hTT] at TR ⊢
  obtain ⟨tk, tn, tt, tl⟩ := T
  simp only at hl
  subst hl
  unfold RV valC at *
  simp only at *
  clear hW2 hb2 hx2 h8 nx ny hv hTT
  obtain ⟨xk, xn, xt, xl⟩ := x
  obtain ⟨yk, yn, yt, yl⟩ := y
  simp only at *
  subst hk
  have h8 := H8.out
  have f0 := h8.c0
  have f1 := h8.c1
  have f2 := h8.c2
  have f3 := h8.c3
  have g0 := h8.d0
  have g1 := h8.d1
  have g2 := h8.d2
  have g3 := h8.d3
  clear h8
  have HLT := Lib.hid H8.out.lt
  go_enter Tryz.func63, Tryz.ntmps63
  go_wp2_with fail
  rw [← HW2.out]
  go_quiet (fail)
  go_wp2_with fail
  obtain ⟨W3, hW3⟩ : ∃ W3, W3 = W2.drewN nq := ⟨_, rfl⟩
  have hb3 : Below W2.heap.size W2 W3 := by rw [hW3]; exact Go.Joins.below_draws _ _ _
  have H83 := Lib.hid (H8.out.later hb3)
  have HX3 := Lib.hid (HX.out.later hb3)
  have SM3 := Lib.hid (fun W (k : Below W3.heap.size W3 W) => SM.out W (hb3.trans (k.mono hb3.size)))
  have HB3 := Lib.hid (HB.out.trans (hb3.mono HB.out.size))
  rw [← hW3]
  clear hb3 hW3 SM H8 HX HB HLT NX NY f0 f1 f2 f3 g0 g1 g2 g3
  have h8 := H83.out
  have HLT := Lib.hid h8.lt
  have HF := Lib.hid (show W3.cell? ⟨b, off, none⟩ = some (.int .i64 xk) ∧ W3.cell? ⟨b, off + 1, none⟩ = some (.int .i64 xn) ∧ W3.cell? ⟨b, off + 2, none⟩ = some (.string (S xt)) ∧ W3.cell? ⟨b, off + 3, none⟩ = some (.slice qx xl.length cx) ∧ W3.cell? ⟨b, off + 4, none⟩ = some (.int .i64 xk) ∧ W3.cell? ⟨b, off + 4 + 1, none⟩ = some (.int .i64 yn) ∧ W3.cell? ⟨b, off + 4 + 2, none⟩ = some (.string (S yt)) ∧ W3.cell? ⟨b, off + 4 + 3, none⟩ = some (.slice qy yl.length cy) from ⟨h8.c0, h8.c1, h8.c2, h8.c3, h8.d0, h8.d1, h8.d2, h8.d3⟩)
  clear h8
  obtain ⟨f0, f1, f2, f3, g0, g1, g2, g3⟩ := HF.out
  have SM4 := Lib.hid (fun W (k : Below W3.heap.size W3 W) => (SM3.out W k).mono (fun e w' (h : e = .returned (.bool sm) ∧ Below W.heap.size W w') => (⟨h.1, (HX3.out.later k).later h.2, (HB3.out.trans (k.mono HB3.out.size)).trans (h.2.mono (HB3.out.trans (k.mono HB3.out.size)).size)⟩ : e = .returned (.bool sm) ∧ VB w' w.heap.size (.int .i64 0) (.int .i64 0) (.string ⟨#[]⟩) (.slice none 0 0) ∧ Below w.heap.size w w')))
  have TR4 := Lib.hid (fun W (hx : VB W w.heap.size (.int .i64 0) (.int .i64 0) (.string ⟨#[]⟩) (.slice none 0 0)) (hb : Below w.heap.size w W) => (TR.out W).mono (fun e w' (h : e = .returned (.tuple #[.agg #[.int .i64 tk, .int .i64 tn, .string (S tt), .slice none 0 0], .int .i64 0]) ∧ Below W.heap.size W w') => (⟨h.1, hx.later h.2, hb.trans (h.2.mono hb.size)⟩ : e = .returned (.tuple #[.agg #[.int .i64 tk, .int .i64 tn, .string (S tt), .slice none 0 0], .int .i64 0]) ∧ VB w' w.heap.size (.int .i64 0) (.int .i64 0) (.string ⟨#[]⟩) (.slice none 0 0) ∧ Below w.heap.size w w')))
  clear SM3 TR HX3 HB3 H83 HLT HF
  go_region_with (first
    | (refine (SM4.out _ (by first | exact Below.refl _ _ | exact (Below.refl _ _).drew | exact Go.Joins.below_draws _ _ _)).mono ?_; rintro e w6 ⟨rfl, hx6, hb6⟩; have HX6 := Lib.hid hx6; have HB6 := Lib.hid hb6; clear hx6 hb6)
    | (refine (TR4.out _ (by first | exact HX6.out | exact (show VB w6.drew _ _ _ _ _ from HX6.out)) (by first | exact HB6.out | exact HB6.out.drew)).mono ?_; rintro e w7 ⟨rfl, hx7, hb7⟩; have fz := hx7.fz; have k0 := hx7.c0; have k1 := hx7.c1; have k2 := hx7.c2; have k3 := hx7.c3; have HX7 := Lib.hid hx7; have HB7 := Lib.hid hb7; clear hx7 hb7))
  all_goals
    (try simp only [Exit.inBlock, Exit.then])
    (try go_wp2_with fail)
    refine bodyPost_ret (res_val2 rfl _ _ w.heap.size _ _ _ _ (.int .i64 0) rfl (HX7.out.put (.int .i64 tk) (.int .i64 tn) (.string (S tt)) (.slice none 0 0)) rfl) rfl ?_
    exact ⟨rfl, below4 HB7.out w.heap.size (Nat.le_refl _) _ _ _ _⟩
end Go.Proofs.YtlmmfhbdebfgkaaGreatDoor.Ev
namespace Go.Proofs.YtlmmfhbdebfgkaaGreatDoor.Ev
open Go.RowKit
open Ex Lx Va Ty
set_option maxRecDepth 100000
theorem rnode_32 (x y : V) (hkx : x.kind = 1) (hky : y.kind = 1) (okx : VOk x) (oky : VOk y) (ho : ordV x y = -1 ∨ ordV x y = 0 ∨ ordV x y = 1) (b off cap : Nat) (w : World) (hv : ValsAt w (some ⟨b, off, none⟩) [x, y]) :
    Calls Tryz.prog 63 #[.int .i64 32, .slice (some ⟨b, off, none⟩) 2 cap] w fun e w' => e = .returned (RV (boolV (decide (ordV x y < 0) || (false && ordV x y == 0)), 0) none 0) ∧ Below w.heap.size w w' := by
  obtain ⟨qx, qy, cx, cy, h8, nx, ny⟩ := two8_of hv
  obtain ⟨W2, hW2⟩ : ∃ W2, W2 = (w.alloc (.cells #[.int .i64 0, .int .i64 0, .string ⟨#[]⟩, .slice none 0 0] 52)).alloc (.cells #[.int .i64 0, .int .i64 0, .string ⟨#[]⟩, .slice none 0 0] 52) := ⟨_, rfl⟩
  have hb2 : Below w.heap.size w W2 := by rw [hW2]; exact ((Below.refl w.heap.size w).alloc (Nat.le_refl _) _).alloc (by simp) _
  have hx2 : VB W2 w.heap.size (.int .i64 0) (.int .i64 0) (.string ⟨#[]⟩) (.slice none 0 0) := by rw [hW2]; exact (VB.new w _ _ _ _ _ rfl).later ((Below.refl _ _).alloc (Nat.le_refl _) _)
  have H8 := Lib.hid (h8.later hb2)
  have HX := Lib.hid hx2
  have HB := Lib.hid hb2
  have HW2 := Lib.hid hW2
  have NX := Lib.hid (nx.below hb2)
  have NY := Lib.hid (ny.below hb2)
  have HAL := Lib.hid (rall_any [x, y] (by simp) 1 (some ⟨b, off, none⟩) cap W2 (hv.below hb2))
  rw [show allV [x, y] 1 = true by simp [allV, hkx, hky]] at HAL
  have OR := Lib.hid (fun W (k : Below W2.heap.size W2 W) => refOrder_any x y okx oky qx qy cx cy W (NX.out.below k) (NY.out.below k))
  obtain ⟨od, hod⟩ : ∃ od, od = ordV x y := ⟨_, rfl⟩
  rw [← hod] at OR ho ⊢
  clear hod
  obtain ⟨tb, hT⟩ : ∃ tb, tb = (decide (od < 0) || (false && od == 0)) := ⟨_, rfl⟩
  rw [← hT]
  have TR := Lib.hid (fun W => rtruth_any tb W)
  obtain ⟨T, hTT⟩ : ∃ T, T = boolV tb := ⟨_, rfl⟩
  have hl : T.list = [] := by rw [hTT]; rfl
  rw [← hTT] at TR ⊢
  obtain ⟨tk, tn, tt, tl⟩ := T
  simp only at hl
  subst hl
  unfold RV valC at *
  simp only at *
  clear hW2 hb2 hx2 h8 nx ny hv hTT
  obtain ⟨xk, xn, xt, xl⟩ := x
  obtain ⟨yk, yn, yt, yl⟩ := y
  simp only at *
  subst hkx hky
  rcases ho with rfl | rfl | rfl
  all_goals
    simp only [show decide ((-1 : Int) < 0) = true by decide, show decide ((0 : Int) < 0) = false by decide, show decide ((1 : Int) < 0) = false by decide, show ((-1 : Int) == 0) = false by decide, show ((0 : Int) == 0) = true by decide, show ((1 : Int) == 0) = false by decide, Bool.true_or, Bool.false_or, Bool.and_true, Bool.and_false, Bool.true_and, Bool.false_and] at hT
    subst hT
    go_enter Tryz.func63, Tryz.ntmps63
    go_wp2_with fail
    rw [← HW2.out]
    refine HAL.out.mono ?_
    rintro e W3 ⟨rfl, hb3⟩
    have h83 := H8.out.later hb3
    have f0 := h83.c0
    have f1 := h83.c1
    have f2 := h83.c2
    have f3 := h83.c3
    have g0 := h83.d0
    have g1 := h83.d1
    have g2 := h83.d2
    have g3 := h83.d3
    have HX3 := Lib.hid (HX.out.later hb3)
    have HB3 := Lib.hid (HB.out.trans (hb3.mono HB.out.size))
    have OR3 := Lib.hid (fun W (k : Below W3.heap.size W3 W) => (OR.out W (hb3.trans (k.mono hb3.size))).mono (fun e w' h => (⟨h.1, (HX3.out.later k).later h.2, (HB3.out.trans (k.mono HB3.out.size)).trans (h.2.mono (HB3.out.trans (k.mono HB3.out.size)).size)⟩ : _ ∧ VB w' w.heap.size (.int .i64 0) (.int .i64 0) (.string ⟨#[]⟩) (.slice none 0 0) ∧ Below w.heap.size w w')))
    clear hb3 h83 OR H8 HX HB NX NY HAL HW2
    go_wp2_with fail
    go_region_with (first
      | (refine (OR3.out _ (by first | exact Below.refl _ _ | exact (Below.refl _ _).drew | exact Go.Joins.below_draws _ _ _)).mono ?_; rintro e w6 ⟨rfl, hx6, hb6⟩; have HX6 := Lib.hid hx6; have HB6 := Lib.hid hb6; clear hx6 hb6))
    all_goals
      (try simp only [Exit.inBlock, Exit.then])
      go_wp2_with fail
      refine (TR.out _).mono ?_
      rintro e w7 ⟨rfl, b7⟩
      have hx7 := (show VB _ w.heap.size (.int .i64 0) (.int .i64 0) (.string ⟨#[]⟩) (.slice none 0 0) from HX6.out).later b7
      have hb7 := (show Below w.heap.size w _ from by first | exact HB6.out | exact HB6.out.drew).trans (b7.mono (by first | exact HB6.out.size | exact HB6.out.drew.size))
      have fz := hx7.fz
      have k0 := hx7.c0
      have k1 := hx7.c1
      have k2 := hx7.c2
      have k3 := hx7.c3
      have HX7 := Lib.hid hx7
      have HB7 := Lib.hid hb7
      clear b7 hx7 hb7
      go_wp2_with fail
      refine bodyPost_ret (res_val2 rfl _ _ w.heap.size _ _ _ _ (.int .i64 0) rfl (HX7.out.put (.int .i64 tk) (.int .i64 tn) (.string (S tt)) (.slice none 0 0)) rfl) rfl ?_
      exact ⟨rfl, below4 HB7.out w.heap.size (Nat.le_refl _) _ _ _ _⟩
theorem rnode_33 (x y : V) (hkx : x.kind = 1) (hky : y.kind = 1) (okx : VOk x) (oky : VOk y) (ho : ordV x y = -1 ∨ ordV x y = 0 ∨ ordV x y = 1) (b off cap : Nat) (w : World) (hv : ValsAt w (some ⟨b, off, none⟩) [x, y]) :
    Calls Tryz.prog 63 #[.int .i64 33, .slice (some ⟨b, off, none⟩) 2 cap] w fun e w' => e = .returned (RV (boolV (decide (ordV x y < 0) || (true && ordV x y == 0)), 0) none 0) ∧ Below w.heap.size w w' := by
  obtain ⟨qx, qy, cx, cy, h8, nx, ny⟩ := two8_of hv
  obtain ⟨W2, hW2⟩ : ∃ W2, W2 = (w.alloc (.cells #[.int .i64 0, .int .i64 0, .string ⟨#[]⟩, .slice none 0 0] 52)).alloc (.cells #[.int .i64 0, .int .i64 0, .string ⟨#[]⟩, .slice none 0 0] 52) := ⟨_, rfl⟩
  have hb2 : Below w.heap.size w W2 := by rw [hW2]; exact ((Below.refl w.heap.size w).alloc (Nat.le_refl _) _).alloc (by simp) _
  have hx2 : VB W2 w.heap.size (.int .i64 0) (.int .i64 0) (.string ⟨#[]⟩) (.slice none 0 0) := by rw [hW2]; exact (VB.new w _ _ _ _ _ rfl).later ((Below.refl _ _).alloc (Nat.le_refl _) _)
  have H8 := Lib.hid (h8.later hb2)
  have HX := Lib.hid hx2
  have HB := Lib.hid hb2
  have HW2 := Lib.hid hW2
  have NX := Lib.hid (nx.below hb2)
  have NY := Lib.hid (ny.below hb2)
  have HAL := Lib.hid (rall_any [x, y] (by simp) 1 (some ⟨b, off, none⟩) cap W2 (hv.below hb2))
  rw [show allV [x, y] 1 = true by simp [allV, hkx, hky]] at HAL
  have OR := Lib.hid (fun W (k : Below W2.heap.size W2 W) => refOrder_any x y okx oky qx qy cx cy W (NX.out.below k) (NY.out.below k))
  obtain ⟨od, hod⟩ : ∃ od, od = ordV x y := ⟨_, rfl⟩
  rw [← hod] at OR ho ⊢
  clear hod
  obtain ⟨tb, hT⟩ : ∃ tb, tb = (decide (od < 0) || (true && od == 0)) := ⟨_, rfl⟩
  rw [← hT]
  have TR := Lib.hid (fun W => rtruth_any tb W)
  obtain ⟨T, hTT⟩ : ∃ T, T = boolV tb := ⟨_, rfl⟩
  have hl : T.list = [] := by rw [hTT]; rfl
  rw [← hTT] at TR ⊢
  obtain ⟨tk, tn, tt, tl⟩ := T
  simp only at hl
  subst hl
  unfold RV valC at *
  simp only at *
  clear hW2 hb2 hx2 h8 nx ny hv hTT
  obtain ⟨xk, xn, xt, xl⟩ := x
  obtain ⟨yk, yn, yt, yl⟩ := y
  simp only at *
  subst hkx hky
  rcases ho with rfl | rfl | rfl
  all_goals
    simp only [show decide ((-1 : Int) < 0) = true by decide, show decide ((0 : Int) < 0) = false by decide, show decide ((1 : Int) < 0) = false by decide, show ((-1 : Int) == 0) = false by decide, show ((0 : Int) == 0) = true by decide, show ((1 : Int) == 0) = false by decide, Bool.true_or, Bool.false_or, Bool.and_true, Bool.and_false, Bool.true_and, Bool.false_and] at hT
    subst hT
    go_enter Tryz.func63, Tryz.ntmps63
    go_wp2_with fail
    rw [← HW2.out]
    refine HAL.out.mono ?_
    rintro e W3 ⟨rfl, hb3⟩
    have h83 := H8.out.later hb3
    have f0 := h83.c0
    have f1 := h83.c1
    have f2 := h83.c2
    have f3 := h83.c3
    have g0 := h83.d0
    have g1 := h83.d1
    have g2 := h83.d2
    have g3 := h83.d3
    have HX3 := Lib.hid (HX.out.later hb3)
    have HB3 := Lib.hid (HB.out.trans (hb3.mono HB.out.size))
    have OR3 := Lib.hid (fun W (k : Below W3.heap.size W3 W) => (OR.out W (hb3.trans (k.mono hb3.size))).mono (fun e w' h => (⟨h.1, (HX3.out.later k).later h.2, (HB3.out.trans (k.mono HB3.out.size)).trans (h.2.mono (HB3.out.trans (k.mono HB3.out.size)).size)⟩ : _ ∧ VB w' w.heap.size (.int .i64 0) (.int .i64 0) (.string ⟨#[]⟩) (.slice none 0 0) ∧ Below w.heap.size w w')))
    clear hb3 h83 OR H8 HX HB NX NY HAL HW2
    go_wp2_with fail
    go_region_with (first
      | (refine (OR3.out _ (by first | exact Below.refl _ _ | exact (Below.refl _ _).drew | exact Go.Joins.below_draws _ _ _)).mono ?_; rintro e w6 ⟨rfl, hx6, hb6⟩; have HX6 := Lib.hid hx6; have HB6 := Lib.hid hb6; clear hx6 hb6))
    all_goals
      (try simp only [Exit.inBlock, Exit.then])
      go_wp2_with fail
      refine (TR.out _).mono ?_
      rintro e w7 ⟨rfl, b7⟩
      have hx7 := (show VB _ w.heap.size (.int .i64 0) (.int .i64 0) (.string ⟨#[]⟩) (.slice none 0 0) from HX6.out).later b7
      have hb7 := (show Below w.heap.size w _ from by first | exact HB6.out | exact HB6.out.drew).trans (b7.mono (by first | exact HB6.out.size | exact HB6.out.drew.size))
      have fz := hx7.fz
      have k0 := hx7.c0
      have k1 := hx7.c1
      have k2 := hx7.c2
      have k3 := hx7.c3
      have HX7 := Lib.hid hx7
      have HB7 := Lib.hid hb7
      clear b7 hx7 hb7
      go_wp2_with fail
      refine bodyPost_ret (res_val2 rfl _ _ w.heap.size _ _ _ _ (.int .i64 0) rfl (HX7.out.put (.int .i64 tk) (.int .i64 tn) (.string (S tt)) (.slice none 0 0)) rfl) rfl ?_
      exact ⟨rfl, below4 HB7.out w.heap.size (Nat.le_refl _) _ _ _ _⟩
end Go.Proofs.YtlmmfhbdebfgkaaGreatDoor.Ev
namespace Go.Proofs.YtlmmfhbdebfgkaaGreatDoor.Ex
open Go.RowKit
open Lx
theorem app_s (H : Nat) (v : Value) (n : Nat) (xs : List Value) (w : World) (hown : w.ownsRow H 5 1 v n xs) (s : ByteArray) (h63 : n + s.size ≤ 140737488355328) (hH : H ≤ w.heap.size) :
    ∃ v' w', (Builtin.append_ #[67, 9] 67 #[v, .string s]).run Tryz.prog w = .ok v' w' ∧ w'.ownsRow H 5 1 v' (n + s.size) (xs ++ Lib.strCells s) ∧ w.grownBy w' v.ownBlock ∧
      (v'.ownBlock = v.ownBlock ∨ ∃ g, v'.ownBlock = some g ∧ w.heap.size ≤ g) := by
  obtain ⟨i0, hi, hz0, hz1, hz2⟩ := info_parts info_u8
  have hm : n + s.size ≤ maxLen := by unfold maxLen; omega
  obtain ⟨v', w', hr, h2, h3, h4⟩ := Lib.run_append_own_string (P := Tryz.prog) w H 67 9 67 5 i0 Tryz.underlying67 Tryz.underlying9 hi hz0 hz1 hz2 v n xs hown s hm h63 hH
  refine ⟨v', w', hr, h2, h3, ?_⟩
  by_cases hs : 0 < s.size
  · obtain ⟨v2, w2, hr2, _, _, h⟩ := Va.app_string H v n xs w (World.ownsRowF_of hown) s hs h63 hH
    rw [hr] at hr2
    obtain ⟨rfl, rfl⟩ : v' = v2 ∧ w' = w2 := by injection hr2 with e1 e2; exact ⟨e1, e2⟩
    exact h
  · rcases (World.ownsRowF_of hown).2 with ⟨rfl, rfl⟩ | ⟨g, cap, cur, fz, rfl, _, hg, hfz, hnc, _, hcs, _⟩
    · rw [h4.2 ⟨rfl, by omega⟩]; exact .inl rfl
    · have hr2 := Lib.run_append_room_stringF (P := Tryz.prog) w 67 9 67 5 i0 Tryz.underlying67 Tryz.underlying9 hi hz1 g n cap cur fz hg (by simpa using hfz) s (by omega) (by rw [hcs]; omega)
      rw [hr] at hr2
      injection hr2 with e1 _
      subst e1
      exact .inl rfl
def Oth (w : World) (b g : Nat) : Prop := g ≠ b ∧ ∀ p v o d, WrB w b p v o d → some g ≠ v.ownBlock
structure Wk (b : Nat) (w w' : World) : Prop where
  below : Below b w w'
  block : ∀ g, g < w.heap.size → Oth w b g → w'.heap[g]? = w.heap[g]? ∧ Oth w' b g
theorem WrB.same {w : World} {b : Nat} {p v p' v' : Value} {o d o' d' : Int} (h : WrB w b p v o d) (k : WrB w b p' v' o' d') : v = v' := by
  have e := Option.some.inj (h.c1.symm.trans k.c1)
  exact e
theorem Wk.refl (b : Nat) (w : World) : Wk b w w := ⟨Below.refl b w, fun _ _ h => ⟨rfl, h⟩⟩
theorem Wk.trans {b : Nat} {x y z : World} (h : Wk b x y) (k : Wk b y z) : Wk b x z :=
  ⟨h.below.trans k.below, fun g hg ho => by
    obtain ⟨e1, o1⟩ := h.block g hg ho
    obtain ⟨e2, o2⟩ := k.block g (Nat.lt_of_lt_of_le hg h.below.size) o1
    exact ⟨e2.trans e1, o2⟩⟩
theorem Wk.of_below {b : Nat} {w w' : World} (hb : b < w.heap.size) (h : Below w.heap.size w w') : Wk b w w' :=
  ⟨h.mono (by omega), fun g hg ho => ⟨h.block g hg, ho.1, fun p v o d hw => ho.2 p v o d ((h.block b hb).symm.trans hw)⟩⟩
theorem Wk.alloc {b : Nat} {w w' : World} (h : Wk b w w') (hb : b < w'.heap.size) (o : Obj) : Wk b w (w'.alloc o) := h.trans (Wk.of_below hb ((Below.refl _ _).alloc (Nat.le_refl _) o))
theorem Wk.step {w w' : World} {b : Nat} {p v p' v' : Value} {o d o' d' : Int} (hb : Below b w w') (h : WrB w b p v o d) (k : WrB w' b p' v' o' d')
    (hk : ∀ g, g < w.heap.size → g ≠ b → some g ≠ v.ownBlock → w'.heap[g]? = w.heap[g]?) (hv : v'.ownBlock = v.ownBlock ∨ ∃ g, v'.ownBlock = some g ∧ w.heap.size ≤ g) : Wk b w w' :=
  ⟨hb, fun g hg ho => ⟨hk g hg ho.1 (ho.2 _ _ _ _ h), ho.1, fun p2 v2 o2 d2 h2 => by
    obtain rfl := k.same h2
    rcases hv with e | ⟨g2, e, hl⟩
    · rw [e]; exact ho.2 _ _ _ _ h
    · rw [e]; intro e2; injection e2 with e2; omega⟩⟩
theorem Oth.new {w : World} {b : Nat} {l : List UInt8} {o d : Int} (h : Wr w b l o d) (ob : Obj) : Oth (w.alloc ob) b w.heap.size := by
  obtain ⟨p, v, hw, _, hown⟩ := h.has
  refine ⟨by have := hw.lt; omega, fun p2 v2 o2 d2 h2 => ?_⟩
  have h3 : WrB w b p2 v2 o2 d2 := (((Below.refl w.heap.size w).alloc (Nat.le_refl _) ob).block b hw.lt).symm.trans h2
  obtain rfl := hw.same h3
  intro e
  have := (World.ownsRow.lt hown _ e.symm).2
  omega
theorem Oth.low {w : World} {b g : Nat} {l : List UInt8} {o d : Int} (h : Wr w b l o d) (hg : g < b) : Oth w b g := by
  obtain ⟨p, v, hw, _, hown⟩ := h.has
  refine ⟨by omega, fun p2 v2 o2 d2 h2 => ?_⟩
  obtain rfl := hw.same h2
  intro e
  have := (World.ownsRow.lt hown _ e.symm).1
  omega
theorem FAt.wk {b : Nat} {w w' : World} (k : Wk b w w') {l : F} {p : Option Addr} (h : FAt w (Oth w b) l p) : FAt w' (Oth w' b) l p := by
  have h1 := FAt.mono (ok' := fun g => Oth w b g ∧ g < w.heap.size) (fun g hg ho => ⟨ho, hg⟩) l p h
  have h2 := h1.keep (w' := w') ⟨k.below.size, fun g hg _ => (k.block g hg.2 hg.1).1⟩
  exact FAt.mono (fun g _ hg => (k.block g hg.2 hg.1).2) l p h2
theorem Wr.lt {w : World} {b : Nat} {l : List UInt8} {o d : Int} (h : Wr w b l o d) : b < w.heap.size := by
  obtain ⟨p, v, hw, _⟩ := h.has
  exact hw.lt
theorem Wr.below {w w' : World} {b : Nat} {l : List UInt8} {o d : Int} (h : Wr w b l o d) (k : Below w.heap.size w w') : Wr w' b l o d := by
  obtain ⟨p, v, hw, hp, hown⟩ := h.has
  refine ⟨p, v, (k.block b hw.lt).trans hw, hp, hown.1, ?_⟩
  rcases hown.2 with h2 | ⟨g, cap, cur, rfl, hB, hg, r⟩
  · exact .inl h2
  · exact .inr ⟨g, cap, cur, rfl, hB, (k.block g (Array.getElem?_eq_some_iff.1 hg).1).trans hg, r⟩
theorem Wr.alloc {w : World} {b : Nat} {l : List UInt8} {o d : Int} (h : Wr w b l o d) (ob : Obj) : Wr (w.alloc ob) b l o d := h.below ((Below.refl _ _).alloc (Nat.le_refl _) ob)
theorem wwrite_k (b : Nat) (l s : List UInt8) (o d : Int) (w : World) (h : Wr w b l o d) (hlen : l.length + s.length ≤ 140737488355328) :
    Calls Tryz.prog 38 #[.pointer (some ⟨b, 0, none⟩), .string (S s)] w fun e w' => e = .returned (.tuple #[.int .i64 (s.length : Int), .nilIface]) ∧ Wr w' b (l ++ s) o d ∧ Wk b w w' := by
  obtain ⟨p, v, hb, hp, hown⟩ := h.has
  have hss0 : (S s).size = s.length := S_size s
  have hsc : Lib.strCells (S s) = Lib.byteCells s := by simp [Lib.strCells, Lib.byteCells, S]
  have hlt := hb.lt
  have HC := Lib.hid (wcheck_any b w p v o d hb hp)
  have HOWN := Lib.hid hown
  have HB0 := Lib.hid hb
  clear h hb hp hown
  go_enter Tryz.func38, Tryz.ntmps38
  go_wp2_with fail
  refine HC.out.mono ?_
  rintro e w1 ⟨rfl, hb1, o1, hs1⟩
  have hown1 : w1.ownsRow (b + 1) 5 1 v l.length (Lib.byteCells l) := World.ownsRow.kept (row := some b) HOWN.out o1 (.inr (fun e => by
    have := (World.ownsRow.lt HOWN.out b e).1
    omega))
  obtain ⟨v2, w2, hrun, hown2, hgrow, hv2⟩ := app_s (b + 1) v l.length (Lib.byteCells l) w1 hown1 (S s) (by rw [hss0]; omega) (by omega)
  rw [hsc, hss0] at hown2
  obtain ⟨q2, k2, c2, rfl⟩ : ∃ q k c, v2 = .slice q k c := by
    rcases hown2.2 with ⟨rfl, _⟩ | ⟨g, cap, cur, rfl, _⟩
    · exact ⟨_, _, _, rfl⟩
    · exact ⟨_, _, _, rfl⟩
  have hne : some b ≠ v.ownBlock := fun e => by
    have := (World.ownsRow.lt hown1 b e.symm).1
    omega
  have hb2 : WrB w2 b (.pointer (some ⟨b, 0, none⟩)) v o d := (hgrow.block b (by omega) hne).trans hb1
  have c1 := hb1.c1
  have d1 := hb2.c1
  have f1 := hb2.fz 1
  have hsz2 := hgrow.size
  have hb3 := hb2.set1 (.slice q2 k2 c2)
  have hne2 : (Value.slice q2 k2 c2).ownBlock = none ∨ (Value.slice q2 k2 c2).ownBlock ≠ some b := .inr (fun e => by
    have := (World.ownsRow.lt hown2 b e).1
    omega)
  have hown3 := World.ownsRow.kept (row := some b) hown2 (Only.set b w2 1 (.slice q2 k2 c2)) hne2
  have HF := Lib.hid (show Wr (w2.setCell ⟨b, 1, none⟩ (.slice q2 k2 c2)) b (l ++ s) o d from ⟨_, _, hb3, .inr rfl, by rw [List.length_append, Lib.byteCells_append]; exact hown3⟩)
  have hbel1 : Below b w w1 := (Only.below (Below.refl b w) o1 (by omega) (Nat.le_refl _))
  have hbel : Below b w (w2.setCell ⟨b, 1, none⟩ (.slice q2 k2 c2)) := (hbel1.grown hgrow (by omega) (fun k hk => by have := (World.ownsRow.lt hown1 k hk).1; omega)).setCell (p := ⟨b, 1, none⟩) (Nat.le_refl _) _
  have HWK := Lib.hid (Wk.step hbel HB0.out hb3 (fun g hg hgb hgv => by
      refine (heap_setCell_other w2 ⟨b, 1, none⟩ g _ (fun e => hgb (by simpa using e))).trans ?_
      refine (hgrow.block g (by omega) hgv).trans ?_
      exact o1.block g hg (by simpa using hgb)) (by
      rcases hv2 with e | ⟨g, e, hg⟩
      · exact .inl e
      · exact .inr ⟨g, e, by omega⟩))
  have HRUN := Lib.hid hrun
  clear hown1 hown2 hown3 hgrow hbel hbel1 hrun hb1 hb2 hb3 o1 hne hne2 hsc hv2
  go_wp2_with (at_builtin; refine wpList_apx rfl _ _ _ _ rfl rfl rfl _ _ HRUN.out ?_)
  go_wp2_with fail
  go_ret2
  exact ⟨rfl, HF.out, HWK.out⟩
end Go.Proofs.YtlmmfhbdebfgkaaGreatDoor.Ex
