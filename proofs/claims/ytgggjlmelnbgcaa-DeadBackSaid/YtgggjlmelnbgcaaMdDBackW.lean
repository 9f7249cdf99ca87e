/-
  DeadBack, walked.
-/
import Derived.Test.YtgggjlmelnbgcaaMdDSmall
import Derived.Test.YtgggjlmelnbgcaaMdTake
namespace Go.Proofs.Ytgggjlmelnbgcaa.Md
open Go.RowKit
open Va
set_option linter.unusedVariables false
set_option linter.unusedSimpArgs false

theorem findL_last {l : List DeadP} {x : DeadP} (h : l.any (fun y => y.n == x.n) = false) : findL (l ++ [x]) x.n = some x := by
  unfold findL
  rw [List.find?_append, List.find?_eq_none.2 (fun y hy => by have := List.any_eq_false.1 h y hy; simpa using this)]
  simp
theorem dropL_last {l : List DeadP} {x : DeadP} (h : l.any (fun y => y.n == x.n) = false) : dropL (l ++ [x]) x.n = l := by
  unfold dropL
  rw [List.filter_append, List.filter_eq_self.2 (fun y hy => by have := List.any_eq_false.1 h y hy; simpa using this)]
  simp
theorem countL_last (l : List DeadP) (x : DeadP) : countL (l ++ [x]) x.reason = countL l x.reason + 1 := by
  unfold countL
  rw [List.filter_append, List.length_append]
  simp
theorem countL_le (l : List DeadP) (r : Int) : countL l r ≤ l.length := List.length_filter_le _ _
theorem putE_any {l : List DeadP} {n r most : Int} (h : putE l n r most = 0) : l.any (fun x => x.n == n) = false := by
  unfold putE at h
  split at h
  · cases h
  · split at h
    · cases h
    · rename_i h2; simpa using h2

set_option maxRecDepth 100000 in
set_option maxHeartbeats 8000000 in
theorem deadBack_walk (l : List DeadP) (a : Option Addr) (cap : Nat) (x : DeadP) (ka : Option Addr) (kc : Nat) (fa : Option Addr) (fc : Nat) (w : World) (hl0 : l.length ≤ 281474976710656 ∧ l.length ≤ cap) (hx : DeadsAt w a l) (hb : ∀ y ∈ l, DBig y) (hxn : Num64 x.n) (hxr : Num64 x.reason) (hxm : MBig x.mail) (hka : ValsAt w ka x.mail.key) (hfa : ValsAt w fa x.mail.fields) :
    Calls Try.prog 8 #[.slice a l.length cap, .agg #[.int .i64 x.n, .int .i64 x.mail.id, .string (S x.mail.chan), .slice ka x.mail.key.length kc, .slice fa x.mail.fields.length fc, .int .i64 x.reason]] w fun e w' => e = .returned (.bool true) ∧ Below w.heap.size w w' := by
  have k0 := (Below.refl w.heap.size w).alloc (Nat.le_refl _) (.cells #[.int .i64 x.n, .int .i64 x.mail.id, .string (S x.mail.chan), .slice ka x.mail.key.length kc, .slice fa x.mail.fields.length fc, .int .i64 x.reason] 53)
  have h0 : BD (w.alloc (.cells #[.int .i64 x.n, .int .i64 x.mail.id, .string (S x.mail.chan), .slice ka x.mail.key.length kc, .slice fa x.mail.fields.length fc, .int .i64 x.reason] 53)) w.heap.size (.int .i64 x.n) (.int .i64 x.mail.id) (.string (S x.mail.chan)) (.slice ka x.mail.key.length kc) (.slice fa x.mail.fields.length fc) (.int .i64 x.reason) := heap_alloc_new w _
  obtain ⟨W0, hW0⟩ : ∃ W0, W0 = w.alloc (.cells #[.int .i64 x.n, .int .i64 x.mail.id, .string (S x.mail.chan), .slice ka x.mail.key.length kc, .slice fa x.mail.fields.length fc, .int .i64 x.reason] 53) := ⟨_, rfl⟩
  have HW0 := Lib.hid hW0
  rw [← hW0] at k0 h0
  have K0 := Lib.hid k0
  have D0 := Lib.hid h0
  have HX := Lib.hid hx
  have HBG := Lib.hid hb
  have HDX : Hid (DBig x) := Lib.hid ⟨hxn, hxr, hxm⟩
  have HKF := Lib.hid (And.intro hka hfa)
  have HLL := Lib.hid hl0
  have hl : l.length ≤ 281474976710656 := hl0.1
  have hli : (l.length : Int) ≤ 281474976710656 := by omega
  clear k0 h0 hW0 hx hb hxn hxr hxm hka hfa hl0
  go_enter Try.func8, Try.ntmps8
  go_wp2_with fail
  rw [← HW0.out]
  refine (awake19_any _).mono ?_
  rintro e w1 ⟨rfl, b1⟩
  have B1 := Lib.hid (K0.out.trans (b1.mono K0.out.size))
  have D1 := Lib.hid (D0.out.below b1)
  have HSM := Lib.hid (small_any l hl HBG.out a cap w1 (HX.out.below B1.out))
  clear b1
  cases hs1 : smallB l with
  | false =>
    rw [hs1] at HSM
    clear hs1
    go_wp2_with fail
    refine HSM.out.mono ?_
    rintro e w2 ⟨rfl, b2⟩
    have B2 := Lib.hid (B1.out.trans (b2.mono B1.out.size))
    clear b2
    go_wp2_with fail
    refine (awake19_any _).mono ?_
    rintro e w3 ⟨rfl, b3⟩
    have B3 := Lib.hid (B2.out.trans (b3.mono B2.out.size))
    clear b3
    go_wp2_with fail
    go_ret
    exact ⟨rfl, B3.out⟩
  | true =>
    rw [hs1] at HSM
    have HOK := Lib.hid (smallB_ok HBG.out hs1)
    have hl100 : l.length ≤ 100 := HOK.out.1
    clear hs1
    go_wp2_with fail
    refine HSM.out.mono ?_
    rintro e w2 ⟨rfl, b2⟩
    have B2 := Lib.hid (B1.out.trans (b2.mono B1.out.size))
    have D2 := Lib.hid (D1.out.below b2)
    clear b2
    have x0 := D2.out.c0
    have x1 := D2.out.c1
    have x2 := D2.out.c2
    have x3 := D2.out.c3
    have x4 := D2.out.c4
    have x5 := D2.out.c5
    have k3 := (Below.refl w2.heap.size w2).alloc (Nat.le_refl _) (.cells #[.int .i64 x.n, .int .i64 x.mail.id, .string (S x.mail.chan), .slice ka x.mail.key.length kc, .slice fa x.mail.fields.length fc, .int .i64 x.reason] 53)
    have B3 := Lib.hid (B2.out.trans (k3.mono B2.out.size))
    have D3 := Lib.hid (D2.out.below k3)
    have HS3 := Lib.hid (small_any [x] (by simp) (fun y hy => by
      have : y = x := by simpa using hy
      rw [this]; exact HDX.out) (some ⟨w2.heap.size, 0, none⟩) 1 (w2.alloc (.cells #[.int .i64 x.n, .int .i64 x.mail.id, .string (S x.mail.chan), .slice ka x.mail.key.length kc, .slice fa x.mail.fields.length fc, .int .i64 x.reason] 53)) (deads_one (HKF.out.1.below B3.out) (HKF.out.2.below B3.out)))
    clear k3
    cases hs2 : smallB [x] with
    | false =>
      rw [hs2] at HS3
      clear hs2
      go_wp2_with fail
      refine HS3.out.mono ?_
      rintro e w4 ⟨rfl, b4⟩
      have B4 := Lib.hid (B3.out.trans (b4.mono B3.out.size))
      clear b4
      go_wp2_with fail
      refine (awake19_any _).mono ?_
      rintro e w5 ⟨rfl, b5⟩
      have B5 := Lib.hid (B4.out.trans (b5.mono B4.out.size))
      clear b5
      go_wp2_with fail
      go_ret
      exact ⟨rfl, B5.out⟩
    | true =>
      rw [hs2] at HS3
      have HXO := Lib.hid ((smallB_ok (l := [x]) (fun y hy => by
        have : y = x := by simpa using hy
        rw [this]; exact HDX.out) hs2).2 x (by simp))
      clear hs2
      go_wp2_with fail
      refine HS3.out.mono ?_
      rintro e w4 ⟨rfl, b4⟩
      have B4 := Lib.hid (B3.out.trans (b4.mono B3.out.size))
      have D4 := Lib.hid (D3.out.below b4)
      clear b4 x0 x1 x2 x3 x4 x5
      have x0 := D4.out.c0
      have x1 := D4.out.c1
      have x2 := D4.out.c2
      have x3 := D4.out.c3
      have x4 := D4.out.c4
      have x5 := D4.out.c5
      have HPU := Lib.hid (put_any l (by omega) (fun y hy => (HOK.out.2 y hy).1) x.n x.mail x.reason ((l.length : Int) + 1) HXO.out.1 a cap ka kc fa fc w4 (HX.out.below B4.out) (HKF.out.1.below B4.out) (HKF.out.2.below B4.out))
      go_wp2_with fail
      refine HPU.out.mono ?_
      rintro e w5 ⟨h5, b5⟩
      have B5 := Lib.hid (B4.out.trans (b5.mono B4.out.size))
      have D5 := Lib.hid (D4.out.below b5)
      clear b5 x0 x1 x2 x3 x4 x5
      unfold Putted at h5
      by_cases hpe : putE l x.n x.reason ((l.length : Int) + 1) = 0
      · rw [if_pos hpe] at h5
        obtain ⟨q, cp, rfl, hr5, hc5⟩ := h5
        have HNA := Lib.hid (putE_any hpe)
        have HR5 := Lib.hid hr5
        have x0 := D5.out.c0
        have hok6 : ∀ y ∈ l ++ [x], Dok y := fun y hy => by
          rcases List.mem_append.1 hy with hy | hy
          · exact (HOK.out.2 y hy).1
          · have : y = x := by simpa using hy
            rw [this]; exact HXO.out.1
        have HOK6 := Lib.hid hok6
        have HF := Lib.hid (find_any (l ++ [x]) (by simp; omega) cp (by simp; exact hc5) hok6 x.n q w5 (DwR.deads hr5))
        have HDR := Lib.hid (fun W (k : Below w5.heap.size w5 W) => drop_any (l ++ [x]) (by simp; omega) hok6 x.n q cp W ((DwR.deads hr5).below k))
        have HCT := Lib.hid (fun W (k : Below w5.heap.size w5 W) => count_any (l ++ [x]) (by simp; omega) x.reason q cp W ((DwR.deads hr5).below k))
        rw [findL_last HNA.out, show (l ++ [x]).length = l.length + 1 by simp] at HF
        rw [show (l ++ [x]).length = l.length + 1 by simp] at HDR HCT
        unfold Dropped at HDR
        rw [dropL_last HNA.out, show (l ++ [x]).length = l.length + 1 by simp] at HDR
        rw [countL_last] at HCT
        clear hpe hr5 hc5 hok6
        go_wp2_with fail
        refine HF.out.mono ?_
        rintro e w6 ⟨⟨ky, cy, fy, dy, rfl, tk6, tf6⟩, b6⟩
        have D6 := D5.out.below b6
        have B6 := Lib.hid (B5.out.trans (b6.mono B5.out.size))
        have k7 := (Below.refl w6.heap.size w6).alloc (Nat.le_refl _) (.cells #[.int .i64 x.n, .int .i64 x.mail.id, .string (S x.mail.chan), .slice ky x.mail.key.length cy, .slice fy x.mail.fields.length dy, .int .i64 x.reason] 53)
        have h7 : BD (w6.alloc (.cells #[.int .i64 x.n, .int .i64 x.mail.id, .string (S x.mail.chan), .slice ky x.mail.key.length cy, .slice fy x.mail.fields.length dy, .int .i64 x.reason] 53)) w6.heap.size (.int .i64 x.n) (.int .i64 x.mail.id) (.string (S x.mail.chan)) (.slice ky x.mail.key.length cy) (.slice fy x.mail.fields.length dy) (.int .i64 x.reason) := heap_alloc_new w6 _
        obtain ⟨W7, hW7⟩ : ∃ W7, W7 = w6.alloc (.cells #[.int .i64 x.n, .int .i64 x.mail.id, .string (S x.mail.chan), .slice ky x.mail.key.length cy, .slice fy x.mail.fields.length dy, .int .i64 x.reason] 53) := ⟨_, rfl⟩
        have HW7 := Lib.hid hW7
        rw [← hW7] at k7 h7
        have D7 := Lib.hid (D6.below k7)
        have Y7 := Lib.hid h7
        have B7 := Lib.hid (B6.out.trans (k7.mono B6.out.size))
        have G7 := Lib.hid (show Below w5.heap.size w5 W7 from b6.trans (k7.mono b6.size))
        have TK7 := Lib.hid (TwR.below tk6 k7)
        have TF7 := Lib.hid (TwR.below tf6 k7)
        clear x0
        have x0 : (w6.alloc (.cells #[.int .i64 x.n, .int .i64 x.mail.id, .string (S x.mail.chan), .slice ky x.mail.key.length cy, .slice fy x.mail.fields.length dy, .int .i64 x.reason] 53)).cell? ⟨w.heap.size, 0, none⟩ = some (.int .i64 x.n) := by rw [← hW7]; exact D7.out.c0
        obtain ⟨HY, hHY⟩ : ∃ HY, HY = w6.heap.size := ⟨_, rfl⟩
        have HHY := Lib.hid hHY
        rw [← hHY] at Y7
        clear tk6 tf6 b6 D6 k7 h7 hW7 hHY
        unfold dV
        go_wp2_with fail
        rw [← HW7.out]
        refine (HDR.out W7 G7.out).mono ?_
        rintro e w8 ⟨h8, b8⟩
        rw [if_neg (by omega)] at h8
        obtain ⟨q8, c8, rfl, hr8, hc8⟩ := h8
        rw [← HHY.out]
        have B8 := Lib.hid (B7.out.trans (b8.mono B7.out.size))
        have D8 := Lib.hid (D7.out.below b8)
        have Y8 := Lib.hid (Y7.out.below b8)
        have G8 := Lib.hid (G7.out.trans (b8.mono G7.out.size))
        have TK8 := Lib.hid (TK7.out.below b8)
        have TF8 := Lib.hid (TF7.out.below b8)
        have HR8 := Lib.hid hr8
        obtain ⟨G, rfl, hp5⟩ : ∃ G, q = some ⟨G, 0, none⟩ ∧ DwP w4.heap.size G (l ++ [x]) (l ++ [x]).length w5 := by
          rcases HR5.out with h | h
          · simp at h
          · exact h
        obtain ⟨kz, cz, fz, dz, hz, hzt⟩ := (hp5.below G8.out).cells l.length x (by simp)
        obtain ⟨tkz, tfz⟩ := hzt (by simp)
        have HZ := Lib.hid (show DAt w8 G (l.length * 6) x kz cz fz dz from hz)
        have HZL := Lib.hid (Nat.lt_of_lt_of_le hp5.blk.lt G8.out.size)
        have TKZ := Lib.hid tkz
        have TFZ := Lib.hid tfz
        clear x0 b8 hr8 hc8 hp5 hz hzt tkz tfz
        have HKEEP := Lib.hid (fun W (k : Good w8 W) => show (W.cell? ⟨w.heap.size, 0, none⟩ = some (.int .i64 x.n) ∧ W.cell? ⟨w.heap.size, 1, none⟩ = some (.int .i64 x.mail.id) ∧ W.cell? ⟨w.heap.size, 2, none⟩ = some (.string (S x.mail.chan)) ∧ W.cell? ⟨w.heap.size, 3, none⟩ = some (.slice ka x.mail.key.length kc) ∧ W.cell? ⟨w.heap.size, 4, none⟩ = some (.slice fa x.mail.fields.length fc) ∧ W.cell? ⟨w.heap.size, 5, none⟩ = some (.int .i64 x.reason)) ∧ (W.cell? ⟨HY, 0, none⟩ = some (.int .i64 x.n) ∧ W.cell? ⟨HY, 1, none⟩ = some (.int .i64 x.mail.id) ∧ W.cell? ⟨HY, 2, none⟩ = some (.string (S x.mail.chan)) ∧ W.cell? ⟨HY, 3, none⟩ = some (.slice ky x.mail.key.length cy) ∧ W.cell? ⟨HY, 4, none⟩ = some (.slice fy x.mail.fields.length dy) ∧ W.cell? ⟨HY, 5, none⟩ = some (.int .i64 x.reason)) ∧ (W.cell? ⟨G, l.length * 6, none⟩ = some (.int .i64 x.n) ∧ W.cell? ⟨G, l.length * 6 + 1, none⟩ = some (.int .i64 x.mail.id) ∧ W.cell? ⟨G, l.length * 6 + 2, none⟩ = some (.string (S x.mail.chan)) ∧ W.cell? ⟨G, l.length * 6 + 3, none⟩ = some (.slice kz x.mail.key.length cz) ∧ W.cell? ⟨G, l.length * 6 + 4, none⟩ = some (.slice fz x.mail.fields.length dz) ∧ W.cell? ⟨G, l.length * 6 + 5, none⟩ = some (.int .i64 x.reason)) from
          ⟨⟨(D8.out.below k).c0, (D8.out.below k).c1, (D8.out.below k).c2, (D8.out.below k).c3, (D8.out.below k).c4, (D8.out.below k).c5⟩, ⟨(Y8.out.below k).c0, (Y8.out.below k).c1, (Y8.out.below k).c2, (Y8.out.below k).c3, (Y8.out.below k).c4, (Y8.out.below k).c5⟩, HZ.out.agree (k.block G HZL.out)⟩)
        have HG0 := Lib.hid (Good.refl w8)
        have HST := Lib.hid (HKEEP.out _ HG0.out.drew)
        have HAW := Lib.hid (fun W (k : Good w8 W) => good_call (R := fun e => e = .returned (.bool true)) k (awake19_any W))
        have HS1 := Lib.hid (fun W (k : Good w8 W) => good_call (R := fun e => e = .returned (.bool true)) k (sameDead_refl x HXO.out.2 ka kc fa fc ky cy fy dy W ((HKF.out.1.below B8.out).below k) ((HKF.out.2.below B8.out).below k) (TK8.out.vals.below k) (TF8.out.vals.below k)))
        have HS2 := Lib.hid (fun W (k : Good w8 W) => good_call (R := fun e => e = .returned (.bool true)) k (sameDead_refl x HXO.out.2 kz cz fz dz ka kc fa fc W (TKZ.out.vals.below k) (TFZ.out.vals.below k) ((HKF.out.1.below B8.out).below k) ((HKF.out.2.below B8.out).below k)))
        have HS3' := Lib.hid (fun W (k : Good w8 W) => good_call (R := fun e => e = .returned (.bool true)) k (same_refl l (fun y hy => (HOK.out.2 y hy).2) (by omega) q8 a c8 cap W ((DwR.deads HR8.out).below k) ((HX.out.below B8.out).below k)))
        have HC1 := Lib.hid (fun W (k : Good w8 W) => good_call (R := fun e => e = .returned (.int .i64 ((countL l x.reason + 1 : Nat) : Int))) k (HCT.out W (G8.out.trans (k.mono G8.out.size))))
        have HC2 := Lib.hid (fun W (k : Good w8 W) => good_call (R := fun e => e = .returned (.int .i64 (countL l x.reason : Int))) k (count_any l (by omega) x.reason a cap W ((HX.out.below B8.out).below k)))
        have HFIN := Lib.hid (fun W (k : Good w8 W) => B8.out.trans (k.mono B8.out.size))
        have hcl : countL l x.reason ≤ 100 := Nat.le_trans (countL_le _ _) hl100
        obtain ⟨CL, hCL⟩ : ∃ CL, CL = countL l x.reason := ⟨_, rfl⟩
        rw [← hCL] at HC1 HC2 hcl
        have hci : (CL : Int) ≤ 100 := by omega
        rw [show ((CL + 1 : Nat) : Int) = (CL : Int) + 1 by omega] at HC1
        clear hCL
        have hlt1 : (l.length : Int) < (l.length : Int) + 1 := by omega
        unfold DAt at HZ
        go_wp2_with fail
        refine wp_region_held_drew (S := (fun w7 => (w7.cell? ⟨w.heap.size, 0, none⟩ = some (.int .i64 x.n) ∧ w7.cell? ⟨w.heap.size, 1, none⟩ = some (.int .i64 x.mail.id) ∧ w7.cell? ⟨w.heap.size, 2, none⟩ = some (.string (S x.mail.chan)) ∧ w7.cell? ⟨w.heap.size, 3, none⟩ = some (.slice ka x.mail.key.length kc) ∧ w7.cell? ⟨w.heap.size, 4, none⟩ = some (.slice fa x.mail.fields.length fc) ∧ w7.cell? ⟨w.heap.size, 5, none⟩ = some (.int .i64 x.reason)) ∧ (w7.cell? ⟨HY, 0, none⟩ = some (.int .i64 x.n) ∧ w7.cell? ⟨HY, 1, none⟩ = some (.int .i64 x.mail.id) ∧ w7.cell? ⟨HY, 2, none⟩ = some (.string (S x.mail.chan)) ∧ w7.cell? ⟨HY, 3, none⟩ = some (.slice ky x.mail.key.length cy) ∧ w7.cell? ⟨HY, 4, none⟩ = some (.slice fy x.mail.fields.length dy) ∧ w7.cell? ⟨HY, 5, none⟩ = some (.int .i64 x.reason)) ∧ (w7.cell? ⟨G, l.length * 6, none⟩ = some (.int .i64 x.n) ∧ w7.cell? ⟨G, l.length * 6 + 1, none⟩ = some (.int .i64 x.mail.id) ∧ w7.cell? ⟨G, l.length * 6 + 2, none⟩ = some (.string (S x.mail.chan)) ∧ w7.cell? ⟨G, l.length * 6 + 3, none⟩ = some (.slice kz x.mail.key.length cz) ∧ w7.cell? ⟨G, l.length * 6 + 4, none⟩ = some (.slice fz x.mail.fields.length dz) ∧ w7.cell? ⟨G, l.length * 6 + 5, none⟩ = some (.int .i64 x.reason)))) (by kernel_rfl) (by (try dsimp only); exact HST.out) (fun hHeld => ?_)
        refine wpAnyH_ready (rs := [0]) (by decide +kernel) (by simp) ?_
        refine AllReadyH.cons (by simp only [List.getElem?_toArray, List.getElem?_cons_succ, List.getElem?_cons_zero]; rfl) (fun K hK => ?_) AllReadyH.nil
        go_simp
        (go_at_call 25; with_reducible refine (HAW.out _ (by first | exact good_id (by assumption) | exact good_drew (by assumption))).mono ?_; rintro e w7 ⟨rfl, b7⟩)
        have HG7 := Lib.hid b7
        have HK7 := Lib.hid (HKEEP.out _ b7)
        clear b7
        go_wp2_with fail
        refine hK.out _ _ (by (try dsimp only); (first | assumption | exact HK7.out)) (fun hHeld => ?_)
        clear hK K
        try simp only [Act.put, List.setIfInBounds_toArray, List.set_cons_zero, List.set_cons_succ]
        refine takeW (v := ?_) 1 (by decide +kernel) (by decide +kernel) (by kernel_rfl) (by simp only [List.getElem?_toArray, List.getElem?_cons_succ, List.getElem?_cons_zero]; rfl) (by rfl) (by exact fun _ _ _ h => h) (by assumption) ?_ ?_
        rotate_left 1
        focus (intro w8 hSw; (try dsimp only at hSw); obtain ⟨⟨x0, x1, x2, x3, x4, x5⟩, ⟨y0, y1, y2, y3, y4, y5⟩, ⟨z0, z1, z2, z3, z4, z5⟩⟩ := hSw; go_simp; (try with_reducible rfl); done)
        try simp only [Act.put, List.setIfInBounds_toArray, List.set_cons_zero, List.set_cons_succ]
        refine takeW (v := ?_) 2 (by decide +kernel) (by decide +kernel) (by kernel_rfl) (by simp only [List.getElem?_toArray, List.getElem?_cons_succ, List.getElem?_cons_zero]; rfl) (by rfl) (by exact fun _ _ _ h => h) (by assumption) ?_ ?_
        rotate_left 1
        focus (intro w8 hSw; (try dsimp only at hSw); obtain ⟨⟨x0, x1, x2, x3, x4, x5⟩, ⟨y0, y1, y2, y3, y4, y5⟩, ⟨z0, z1, z2, z3, z4, z5⟩⟩ := hSw; go_simp; (try with_reducible rfl); done)
        try simp only [Act.put, List.setIfInBounds_toArray, List.set_cons_zero, List.set_cons_succ]
        refine takeW (v := ?_) 3 (by decide +kernel) (by decide +kernel) (by kernel_rfl) (by simp only [List.getElem?_toArray, List.getElem?_cons_succ, List.getElem?_cons_zero]; rfl) (by rfl) (by exact fun _ _ _ h => h) (by assumption) ?_ ?_
        rotate_left 1
        focus (intro w8 hSw; (try dsimp only at hSw); obtain ⟨⟨x0, x1, x2, x3, x4, x5⟩, ⟨y0, y1, y2, y3, y4, y5⟩, ⟨z0, z1, z2, z3, z4, z5⟩⟩ := hSw; go_simp; (try with_reducible rfl); done)
        try simp only [Act.put, List.setIfInBounds_toArray, List.set_cons_zero, List.set_cons_succ]
        refine takeW (v := ?_) 4 (by decide +kernel) (by decide +kernel) (by kernel_rfl) (by simp only [List.getElem?_toArray, List.getElem?_cons_succ, List.getElem?_cons_zero]; rfl) (by rfl) (by exact fun _ _ _ h => h) (by assumption) ?_ ?_
        rotate_left 1
        focus (intro w8 hSw; (try dsimp only at hSw); obtain ⟨⟨x0, x1, x2, x3, x4, x5⟩, ⟨y0, y1, y2, y3, y4, y5⟩, ⟨z0, z1, z2, z3, z4, z5⟩⟩ := hSw; go_simp; (try with_reducible rfl); done)
        try simp only [Act.put, List.setIfInBounds_toArray, List.set_cons_zero, List.set_cons_succ]
        refine takeW (v := ?_) 5 (by decide +kernel) (by decide +kernel) (by kernel_rfl) (by simp only [List.getElem?_toArray, List.getElem?_cons_succ, List.getElem?_cons_zero]; rfl) (by rfl) (by exact fun _ _ _ h => h) (by assumption) ?_ ?_
        rotate_left 1
        focus (intro w8 hSw; (try dsimp only at hSw); obtain ⟨⟨x0, x1, x2, x3, x4, x5⟩, ⟨y0, y1, y2, y3, y4, y5⟩, ⟨z0, z1, z2, z3, z4, z5⟩⟩ := hSw; go_simp; (try with_reducible rfl); done)
        try simp only [Act.put, List.setIfInBounds_toArray, List.set_cons_zero, List.set_cons_succ]
        refine takeW (v := ?_) 6 (by decide +kernel) (by decide +kernel) (by kernel_rfl) (by simp only [List.getElem?_toArray, List.getElem?_cons_succ, List.getElem?_cons_zero]; rfl) (by rfl) (by exact fun _ _ _ h => h) (by assumption) ?_ ?_
        rotate_left 1
        focus (intro w8 hSw; (try dsimp only at hSw); obtain ⟨⟨x0, x1, x2, x3, x4, x5⟩, ⟨y0, y1, y2, y3, y4, y5⟩, ⟨z0, z1, z2, z3, z4, z5⟩⟩ := hSw; go_simp; (try with_reducible rfl); done)
        try simp only [Act.put, List.setIfInBounds_toArray, List.set_cons_zero, List.set_cons_succ]
        refine wpAnyH_ready (rs := [7]) (by decide +kernel) (by simp) ?_
        refine AllReadyH.cons (by simp only [List.getElem?_toArray, List.getElem?_cons_succ, List.getElem?_cons_zero]; rfl) (fun K hK => ?_) AllReadyH.nil
        go_simp
        (go_at_call 34; with_reducible refine (HS1.out _ (by first | exact good_id (by assumption) | exact good_drew (by assumption))).mono ?_; rintro e w7 ⟨rfl, b7⟩)
        have HG7 := Lib.hid b7
        have HK7 := Lib.hid (HKEEP.out _ b7)
        clear b7
        go_wp2_with fail
        refine hK.out _ _ (by (try dsimp only); (first | assumption | exact HK7.out)) (fun hHeld => ?_)
        clear hK K
        try simp only [Act.put, List.setIfInBounds_toArray, List.set_cons_zero, List.set_cons_succ]
        refine takeW (v := ?_) 8 (by decide +kernel) (by decide +kernel) (by kernel_rfl) (by simp only [List.getElem?_toArray, List.getElem?_cons_succ, List.getElem?_cons_zero]; rfl) (by rfl) (by exact fun _ _ _ h => h) (by assumption) ?_ ?_
        rotate_left 1
        focus (intro w8 hSw; (try dsimp only at hSw); obtain ⟨⟨x0, x1, x2, x3, x4, x5⟩, ⟨y0, y1, y2, y3, y4, y5⟩, ⟨z0, z1, z2, z3, z4, z5⟩⟩ := hSw; go_simp; (try with_reducible rfl); done)
        try simp only [Act.put, List.setIfInBounds_toArray, List.set_cons_zero, List.set_cons_succ]
        refine takeW (v := ?_) 9 (by decide +kernel) (by decide +kernel) (by kernel_rfl) (by simp only [List.getElem?_toArray, List.getElem?_cons_succ, List.getElem?_cons_zero]; rfl) (by rfl) (by exact fun _ _ _ h => h) (by assumption) ?_ ?_
        rotate_left 1
        focus (intro w8 hSw; (try dsimp only at hSw); obtain ⟨⟨x0, x1, x2, x3, x4, x5⟩, ⟨y0, y1, y2, y3, y4, y5⟩, ⟨z0, z1, z2, z3, z4, z5⟩⟩ := hSw; go_simp; (try with_reducible rfl); done)
        try simp only [Act.put, List.setIfInBounds_toArray, List.set_cons_zero, List.set_cons_succ]
        refine takeW (v := ?_) 10 (by decide +kernel) (by decide +kernel) (by kernel_rfl) (by simp only [List.getElem?_toArray, List.getElem?_cons_succ, List.getElem?_cons_zero]; rfl) (by rfl) (by exact fun _ _ _ h => h) (by assumption) ?_ ?_
        rotate_left 1
        focus (intro w8 hSw; (try dsimp only at hSw); obtain ⟨⟨x0, x1, x2, x3, x4, x5⟩, ⟨y0, y1, y2, y3, y4, y5⟩, ⟨z0, z1, z2, z3, z4, z5⟩⟩ := hSw; go_simp; (try with_reducible rfl); done)
        try simp only [Act.put, List.setIfInBounds_toArray, List.set_cons_zero, List.set_cons_succ]
        refine takeW (v := ?_) 11 (by decide +kernel) (by decide +kernel) (by kernel_rfl) (by simp only [List.getElem?_toArray, List.getElem?_cons_succ, List.getElem?_cons_zero]; rfl) (by rfl) (by exact fun _ _ _ h => h) (by assumption) ?_ ?_
        rotate_left 1
        focus (intro w8 hSw; (try dsimp only at hSw); obtain ⟨⟨x0, x1, x2, x3, x4, x5⟩, ⟨y0, y1, y2, y3, y4, y5⟩, ⟨z0, z1, z2, z3, z4, z5⟩⟩ := hSw; go_simp; (try with_reducible rfl); done)
        try simp only [Act.put, List.setIfInBounds_toArray, List.set_cons_zero, List.set_cons_succ]
        refine takeW (v := ?_) 12 (by decide +kernel) (by decide +kernel) (by kernel_rfl) (by simp only [List.getElem?_toArray, List.getElem?_cons_succ, List.getElem?_cons_zero]; rfl) (by rfl) (by exact fun _ _ _ h => h) (by assumption) ?_ ?_
        rotate_left 1
        focus (intro w8 hSw; (try dsimp only at hSw); obtain ⟨⟨x0, x1, x2, x3, x4, x5⟩, ⟨y0, y1, y2, y3, y4, y5⟩, ⟨z0, z1, z2, z3, z4, z5⟩⟩ := hSw; go_simp; (try with_reducible rfl); done)
        try simp only [Act.put, List.setIfInBounds_toArray, List.set_cons_zero, List.set_cons_succ]
        refine takeW (v := ?_) 13 (by decide +kernel) (by decide +kernel) (by kernel_rfl) (by simp only [List.getElem?_toArray, List.getElem?_cons_succ, List.getElem?_cons_zero]; rfl) (by rfl) (by exact fun _ _ _ h => h) (by assumption) ?_ ?_
        rotate_left 1
        focus (intro w8 hSw; (try dsimp only at hSw); obtain ⟨⟨x0, x1, x2, x3, x4, x5⟩, ⟨y0, y1, y2, y3, y4, y5⟩, ⟨z0, z1, z2, z3, z4, z5⟩⟩ := hSw; go_simp; (try with_reducible rfl); done)
        try simp only [Act.put, List.setIfInBounds_toArray, List.set_cons_zero, List.set_cons_succ]
        refine takeW (v := ?_) 14 (by decide +kernel) (by decide +kernel) (by kernel_rfl) (by simp only [List.getElem?_toArray, List.getElem?_cons_succ, List.getElem?_cons_zero]; rfl) (by rfl) (by exact fun _ _ _ h => h) (by assumption) ?_ ?_
        rotate_left 1
        focus (intro w8 hSw; (try dsimp only at hSw); obtain ⟨⟨x0, x1, x2, x3, x4, x5⟩, ⟨y0, y1, y2, y3, y4, y5⟩, ⟨z0, z1, z2, z3, z4, z5⟩⟩ := hSw; go_simp; (try with_reducible rfl); done)
        try simp only [Act.put, List.setIfInBounds_toArray, List.set_cons_zero, List.set_cons_succ]
        refine takeW (v := .bool true) 15 (by decide +kernel) (by decide +kernel) (by kernel_rfl) (by simp only [List.getElem?_toArray, List.getElem?_cons_succ, List.getElem?_cons_zero]; rfl) (by rfl) (by exact fun _ _ _ h => h) (by assumption) ?_ ?_
        focus (intro w8 hSw; (try dsimp only at hSw); obtain ⟨⟨x0, x1, x2, x3, x4, x5⟩, ⟨y0, y1, y2, y3, y4, y5⟩, ⟨z0, z1, z2, z3, z4, z5⟩⟩ := hSw; go_simp; (try simp); (try rw [IntKind.wrap_i64]); omega)
        try simp only [Act.put, List.setIfInBounds_toArray, List.set_cons_zero, List.set_cons_succ]
        refine takeW (v := ?_) 16 (by decide +kernel) (by decide +kernel) (by kernel_rfl) (by simp only [List.getElem?_toArray, List.getElem?_cons_succ, List.getElem?_cons_zero]; rfl) (by rfl) (by exact fun _ _ _ h => h) (by assumption) ?_ ?_
        rotate_left 1
        focus (intro w8 hSw; (try dsimp only at hSw); obtain ⟨⟨x0, x1, x2, x3, x4, x5⟩, ⟨y0, y1, y2, y3, y4, y5⟩, ⟨z0, z1, z2, z3, z4, z5⟩⟩ := hSw; go_simp; (try with_reducible rfl); done)
        try simp only [Act.put, List.setIfInBounds_toArray, List.set_cons_zero, List.set_cons_succ]
        refine takeW (v := ?_) 17 (by decide +kernel) (by decide +kernel) (by kernel_rfl) (by simp only [List.getElem?_toArray, List.getElem?_cons_succ, List.getElem?_cons_zero]; rfl) (by rfl) (by exact fun _ _ _ h => h) (by assumption) ?_ ?_
        rotate_left 1
        focus (intro w8 hSw; (try dsimp only at hSw); obtain ⟨⟨x0, x1, x2, x3, x4, x5⟩, ⟨y0, y1, y2, y3, y4, y5⟩, ⟨z0, z1, z2, z3, z4, z5⟩⟩ := hSw; go_simp; (try with_reducible rfl); done)
        try simp only [Act.put, List.setIfInBounds_toArray, List.set_cons_zero, List.set_cons_succ]
        refine takeW (v := ?_) 18 (by decide +kernel) (by decide +kernel) (by kernel_rfl) (by simp only [List.getElem?_toArray, List.getElem?_cons_succ, List.getElem?_cons_zero]; rfl) (by rfl) (by exact fun _ _ _ h => h) (by assumption) ?_ ?_
        rotate_left 1
        focus (intro w8 hSw; (try dsimp only at hSw); obtain ⟨⟨x0, x1, x2, x3, x4, x5⟩, ⟨y0, y1, y2, y3, y4, y5⟩, ⟨z0, z1, z2, z3, z4, z5⟩⟩ := hSw; go_simp; (try with_reducible rfl); done)
        try simp only [Act.put, List.setIfInBounds_toArray, List.set_cons_zero, List.set_cons_succ]
        refine takeW (v := ?_) 19 (by decide +kernel) (by decide +kernel) (by kernel_rfl) (by simp only [List.getElem?_toArray, List.getElem?_cons_succ, List.getElem?_cons_zero]; rfl) (by rfl) (by exact fun _ _ _ h => h) (by assumption) ?_ ?_
        rotate_left 1
        focus (intro w8 hSw; (try dsimp only at hSw); obtain ⟨⟨x0, x1, x2, x3, x4, x5⟩, ⟨y0, y1, y2, y3, y4, y5⟩, ⟨z0, z1, z2, z3, z4, z5⟩⟩ := hSw; go_simp; (try with_reducible rfl); done)
        try simp only [Act.put, List.setIfInBounds_toArray, List.set_cons_zero, List.set_cons_succ]
        refine takeW (v := ?_) 20 (by decide +kernel) (by decide +kernel) (by kernel_rfl) (by simp only [List.getElem?_toArray, List.getElem?_cons_succ, List.getElem?_cons_zero]; rfl) (by rfl) (by exact fun _ _ _ h => h) (by assumption) ?_ ?_
        rotate_left 1
        focus (intro w8 hSw; (try dsimp only at hSw); obtain ⟨⟨x0, x1, x2, x3, x4, x5⟩, ⟨y0, y1, y2, y3, y4, y5⟩, ⟨z0, z1, z2, z3, z4, z5⟩⟩ := hSw; go_simp; (try with_reducible rfl); done)
        try simp only [Act.put, List.setIfInBounds_toArray, List.set_cons_zero, List.set_cons_succ]
        refine takeW (v := ?_) 21 (by decide +kernel) (by decide +kernel) (by kernel_rfl) (by simp only [List.getElem?_toArray, List.getElem?_cons_succ, List.getElem?_cons_zero]; rfl) (by rfl) (by exact fun _ _ _ h => h) (by assumption) ?_ ?_
        rotate_left 1
        focus (intro w8 hSw; (try dsimp only at hSw); obtain ⟨⟨x0, x1, x2, x3, x4, x5⟩, ⟨y0, y1, y2, y3, y4, y5⟩, ⟨z0, z1, z2, z3, z4, z5⟩⟩ := hSw; go_simp; (try with_reducible rfl); done)
        try simp only [Act.put, List.setIfInBounds_toArray, List.set_cons_zero, List.set_cons_succ]
        refine takeW (v := ?_) 22 (by decide +kernel) (by decide +kernel) (by kernel_rfl) (by simp only [List.getElem?_toArray, List.getElem?_cons_succ, List.getElem?_cons_zero]; rfl) (by rfl) (by exact fun _ _ _ h => h) (by assumption) ?_ ?_
        rotate_left 1
        focus (intro w8 hSw; (try dsimp only at hSw); obtain ⟨⟨x0, x1, x2, x3, x4, x5⟩, ⟨y0, y1, y2, y3, y4, y5⟩, ⟨z0, z1, z2, z3, z4, z5⟩⟩ := hSw; go_simp; (try with_reducible rfl); done)
        try simp only [Act.put, List.setIfInBounds_toArray, List.set_cons_zero, List.set_cons_succ]
        refine takeW (v := ?_) 23 (by decide +kernel) (by decide +kernel) (by kernel_rfl) (by simp only [List.getElem?_toArray, List.getElem?_cons_succ, List.getElem?_cons_zero]; rfl) (by rfl) (by exact fun _ _ _ h => h) (by assumption) ?_ ?_
        rotate_left 1
        focus (intro w8 hSw; (try dsimp only at hSw); obtain ⟨⟨x0, x1, x2, x3, x4, x5⟩, ⟨y0, y1, y2, y3, y4, y5⟩, ⟨z0, z1, z2, z3, z4, z5⟩⟩ := hSw; go_simp; (try with_reducible rfl); done)
        try simp only [Act.put, List.setIfInBounds_toArray, List.set_cons_zero, List.set_cons_succ]
        refine wpAnyH_ready (rs := [24]) (by decide +kernel) (by simp) ?_
        refine AllReadyH.cons (by simp only [List.getElem?_toArray, List.getElem?_cons_succ, List.getElem?_cons_zero]; rfl) (fun K hK => ?_) AllReadyH.nil
        go_simp
        (go_at_call 34; with_reducible refine (HS2.out _ (by first | exact good_id (by assumption) | exact good_drew (by assumption))).mono ?_; rintro e w7 ⟨rfl, b7⟩)
        have HG7 := Lib.hid b7
        have HK7 := Lib.hid (HKEEP.out _ b7)
        clear b7
        go_wp2_with fail
        refine hK.out _ _ (by (try dsimp only); (first | assumption | exact HK7.out)) (fun hHeld => ?_)
        clear hK K
        try simp only [Act.put, List.setIfInBounds_toArray, List.set_cons_zero, List.set_cons_succ]
        refine takeW (v := ?_) 25 (by decide +kernel) (by decide +kernel) (by kernel_rfl) (by simp only [List.getElem?_toArray, List.getElem?_cons_succ, List.getElem?_cons_zero]; rfl) (by rfl) (by exact fun _ _ _ h => h) (by assumption) ?_ ?_
        rotate_left 1
        focus (intro w8 hSw; (try dsimp only at hSw); obtain ⟨⟨x0, x1, x2, x3, x4, x5⟩, ⟨y0, y1, y2, y3, y4, y5⟩, ⟨z0, z1, z2, z3, z4, z5⟩⟩ := hSw; go_simp; (try with_reducible rfl); done)
        try simp only [Act.put, List.setIfInBounds_toArray, List.set_cons_zero, List.set_cons_succ]
        refine takeW (v := ?_) 26 (by decide +kernel) (by decide +kernel) (by kernel_rfl) (by simp only [List.getElem?_toArray, List.getElem?_cons_succ, List.getElem?_cons_zero]; rfl) (by rfl) (by exact fun _ _ _ h => h) (by assumption) ?_ ?_
        rotate_left 1
        focus (intro w8 hSw; (try dsimp only at hSw); obtain ⟨⟨x0, x1, x2, x3, x4, x5⟩, ⟨y0, y1, y2, y3, y4, y5⟩, ⟨z0, z1, z2, z3, z4, z5⟩⟩ := hSw; go_simp; (try with_reducible rfl); done)
        try simp only [Act.put, List.setIfInBounds_toArray, List.set_cons_zero, List.set_cons_succ]
        refine takeW (v := ?_) 27 (by decide +kernel) (by decide +kernel) (by kernel_rfl) (by simp only [List.getElem?_toArray, List.getElem?_cons_succ, List.getElem?_cons_zero]; rfl) (by rfl) (by exact fun _ _ _ h => h) (by assumption) ?_ ?_
        rotate_left 1
        focus (intro w8 hSw; (try dsimp only at hSw); obtain ⟨⟨x0, x1, x2, x3, x4, x5⟩, ⟨y0, y1, y2, y3, y4, y5⟩, ⟨z0, z1, z2, z3, z4, z5⟩⟩ := hSw; go_simp; (try with_reducible rfl); done)
        try simp only [Act.put, List.setIfInBounds_toArray, List.set_cons_zero, List.set_cons_succ]
        refine takeW (v := ?_) 28 (by decide +kernel) (by decide +kernel) (by kernel_rfl) (by simp only [List.getElem?_toArray, List.getElem?_cons_succ, List.getElem?_cons_zero]; rfl) (by rfl) (by exact fun _ _ _ h => h) (by assumption) ?_ ?_
        rotate_left 1
        focus (intro w8 hSw; (try dsimp only at hSw); obtain ⟨⟨x0, x1, x2, x3, x4, x5⟩, ⟨y0, y1, y2, y3, y4, y5⟩, ⟨z0, z1, z2, z3, z4, z5⟩⟩ := hSw; go_simp; (try with_reducible rfl); done)
        try simp only [Act.put, List.setIfInBounds_toArray, List.set_cons_zero, List.set_cons_succ]
        refine takeW (v := ?_) 29 (by decide +kernel) (by decide +kernel) (by kernel_rfl) (by simp only [List.getElem?_toArray, List.getElem?_cons_succ, List.getElem?_cons_zero]; rfl) (by rfl) (by exact fun _ _ _ h => h) (by assumption) ?_ ?_
        rotate_left 1
        focus (intro w8 hSw; (try dsimp only at hSw); obtain ⟨⟨x0, x1, x2, x3, x4, x5⟩, ⟨y0, y1, y2, y3, y4, y5⟩, ⟨z0, z1, z2, z3, z4, z5⟩⟩ := hSw; go_simp; (try with_reducible rfl); done)
        try simp only [Act.put, List.setIfInBounds_toArray, List.set_cons_zero, List.set_cons_succ]
        refine takeW (v := ?_) 30 (by decide +kernel) (by decide +kernel) (by kernel_rfl) (by simp only [List.getElem?_toArray, List.getElem?_cons_succ, List.getElem?_cons_zero]; rfl) (by rfl) (by exact fun _ _ _ h => h) (by assumption) ?_ ?_
        rotate_left 1
        focus (intro w8 hSw; (try dsimp only at hSw); obtain ⟨⟨x0, x1, x2, x3, x4, x5⟩, ⟨y0, y1, y2, y3, y4, y5⟩, ⟨z0, z1, z2, z3, z4, z5⟩⟩ := hSw; go_simp; (try with_reducible rfl); done)
        try simp only [Act.put, List.setIfInBounds_toArray, List.set_cons_zero, List.set_cons_succ]
        refine takeW (v := ?_) 31 (by decide +kernel) (by decide +kernel) (by kernel_rfl) (by simp only [List.getElem?_toArray, List.getElem?_cons_succ, List.getElem?_cons_zero]; rfl) (by rfl) (by exact fun _ _ _ h => h) (by assumption) ?_ ?_
        rotate_left 1
        focus (intro w8 hSw; (try dsimp only at hSw); obtain ⟨⟨x0, x1, x2, x3, x4, x5⟩, ⟨y0, y1, y2, y3, y4, y5⟩, ⟨z0, z1, z2, z3, z4, z5⟩⟩ := hSw; go_simp; (try with_reducible rfl); done)
        try simp only [Act.put, List.setIfInBounds_toArray, List.set_cons_zero, List.set_cons_succ]
        refine takeW (v := ?_) 32 (by decide +kernel) (by decide +kernel) (by kernel_rfl) (by simp only [List.getElem?_toArray, List.getElem?_cons_succ, List.getElem?_cons_zero]; rfl) (by rfl) (by exact fun _ _ _ h => h) (by assumption) ?_ ?_
        rotate_left 1
        focus (intro w8 hSw; (try dsimp only at hSw); obtain ⟨⟨x0, x1, x2, x3, x4, x5⟩, ⟨y0, y1, y2, y3, y4, y5⟩, ⟨z0, z1, z2, z3, z4, z5⟩⟩ := hSw; go_simp; (try with_reducible rfl); done)
        try simp only [Act.put, List.setIfInBounds_toArray, List.set_cons_zero, List.set_cons_succ]
        refine wpAnyH_ready (rs := [33]) (by decide +kernel) (by simp) ?_
        refine AllReadyH.cons (by simp only [List.getElem?_toArray, List.getElem?_cons_succ, List.getElem?_cons_zero]; rfl) (fun K hK => ?_) AllReadyH.nil
        go_simp
        (go_at_call 33; with_reducible refine (HS3'.out _ (by first | exact good_id (by assumption) | exact good_drew (by assumption))).mono ?_; rintro e w7 ⟨rfl, b7⟩)
        have HG7 := Lib.hid b7
        have HK7 := Lib.hid (HKEEP.out _ b7)
        clear b7
        go_wp2_with fail
        refine hK.out _ _ (by (try dsimp only); (first | assumption | exact HK7.out)) (fun hHeld => ?_)
        clear hK K
        try simp only [Act.put, List.setIfInBounds_toArray, List.set_cons_zero, List.set_cons_succ]
        refine takeW (v := ?_) 34 (by decide +kernel) (by decide +kernel) (by kernel_rfl) (by simp only [List.getElem?_toArray, List.getElem?_cons_succ, List.getElem?_cons_zero]; rfl) (by rfl) (by exact fun _ _ _ h => h) (by assumption) ?_ ?_
        rotate_left 1
        focus (intro w8 hSw; (try dsimp only at hSw); obtain ⟨⟨x0, x1, x2, x3, x4, x5⟩, ⟨y0, y1, y2, y3, y4, y5⟩, ⟨z0, z1, z2, z3, z4, z5⟩⟩ := hSw; go_simp; (try with_reducible rfl); done)
        try simp only [Act.put, List.setIfInBounds_toArray, List.set_cons_zero, List.set_cons_succ]
        refine takeW (v := ?_) 35 (by decide +kernel) (by decide +kernel) (by kernel_rfl) (by simp only [List.getElem?_toArray, List.getElem?_cons_succ, List.getElem?_cons_zero]; rfl) (by rfl) (by exact fun _ _ _ h => h) (by assumption) ?_ ?_
        rotate_left 1
        focus (intro w8 hSw; (try dsimp only at hSw); obtain ⟨⟨x0, x1, x2, x3, x4, x5⟩, ⟨y0, y1, y2, y3, y4, y5⟩, ⟨z0, z1, z2, z3, z4, z5⟩⟩ := hSw; go_simp; (try with_reducible rfl); done)
        try simp only [Act.put, List.setIfInBounds_toArray, List.set_cons_zero, List.set_cons_succ]
        refine takeW (v := ?_) 36 (by decide +kernel) (by decide +kernel) (by kernel_rfl) (by simp only [List.getElem?_toArray, List.getElem?_cons_succ, List.getElem?_cons_zero]; rfl) (by rfl) (by exact fun _ _ _ h => h) (by assumption) ?_ ?_
        rotate_left 1
        focus (intro w8 hSw; (try dsimp only at hSw); obtain ⟨⟨x0, x1, x2, x3, x4, x5⟩, ⟨y0, y1, y2, y3, y4, y5⟩, ⟨z0, z1, z2, z3, z4, z5⟩⟩ := hSw; go_simp; (try with_reducible rfl); done)
        try simp only [Act.put, List.setIfInBounds_toArray, List.set_cons_zero, List.set_cons_succ]
        refine takeW (v := ?_) 37 (by decide +kernel) (by decide +kernel) (by kernel_rfl) (by simp only [List.getElem?_toArray, List.getElem?_cons_succ, List.getElem?_cons_zero]; rfl) (by rfl) (by exact fun _ _ _ h => h) (by assumption) ?_ ?_
        rotate_left 1
        focus (intro w8 hSw; (try dsimp only at hSw); obtain ⟨⟨x0, x1, x2, x3, x4, x5⟩, ⟨y0, y1, y2, y3, y4, y5⟩, ⟨z0, z1, z2, z3, z4, z5⟩⟩ := hSw; go_simp; (try with_reducible rfl); done)
        try simp only [Act.put, List.setIfInBounds_toArray, List.set_cons_zero, List.set_cons_succ]
        refine takeW (v := ?_) 38 (by decide +kernel) (by decide +kernel) (by kernel_rfl) (by simp only [List.getElem?_toArray, List.getElem?_cons_succ, List.getElem?_cons_zero]; rfl) (by rfl) (by exact fun _ _ _ h => h) (by assumption) ?_ ?_
        rotate_left 1
        focus (intro w8 hSw; (try dsimp only at hSw); obtain ⟨⟨x0, x1, x2, x3, x4, x5⟩, ⟨y0, y1, y2, y3, y4, y5⟩, ⟨z0, z1, z2, z3, z4, z5⟩⟩ := hSw; go_simp; (try with_reducible rfl); done)
        try simp only [Act.put, List.setIfInBounds_toArray, List.set_cons_zero, List.set_cons_succ]
        refine takeW (v := ?_) 40 (by decide +kernel) (by decide +kernel) (by kernel_rfl) (by simp only [List.getElem?_toArray, List.getElem?_cons_succ, List.getElem?_cons_zero]; rfl) (by rfl) (by exact fun _ _ _ h => h) (by assumption) ?_ ?_
        rotate_left 1
        focus (intro w8 hSw; (try dsimp only at hSw); obtain ⟨⟨x0, x1, x2, x3, x4, x5⟩, ⟨y0, y1, y2, y3, y4, y5⟩, ⟨z0, z1, z2, z3, z4, z5⟩⟩ := hSw; go_simp; (try with_reducible rfl); done)
        try simp only [Act.put, List.setIfInBounds_toArray, List.set_cons_zero, List.set_cons_succ]
        refine takeW (v := ?_) 41 (by decide +kernel) (by decide +kernel) (by kernel_rfl) (by simp only [List.getElem?_toArray, List.getElem?_cons_succ, List.getElem?_cons_zero]; rfl) (by rfl) (by exact fun _ _ _ h => h) (by assumption) ?_ ?_
        rotate_left 1
        focus (intro w8 hSw; (try dsimp only at hSw); obtain ⟨⟨x0, x1, x2, x3, x4, x5⟩, ⟨y0, y1, y2, y3, y4, y5⟩, ⟨z0, z1, z2, z3, z4, z5⟩⟩ := hSw; go_simp; (try with_reducible rfl); done)
        try simp only [Act.put, List.setIfInBounds_toArray, List.set_cons_zero, List.set_cons_succ]
        refine takeW (v := ?_) 42 (by decide +kernel) (by decide +kernel) (by kernel_rfl) (by simp only [List.getElem?_toArray, List.getElem?_cons_succ, List.getElem?_cons_zero]; rfl) (by rfl) (by exact fun _ _ _ h => h) (by assumption) ?_ ?_
        rotate_left 1
        focus (intro w8 hSw; (try dsimp only at hSw); obtain ⟨⟨x0, x1, x2, x3, x4, x5⟩, ⟨y0, y1, y2, y3, y4, y5⟩, ⟨z0, z1, z2, z3, z4, z5⟩⟩ := hSw; go_simp; (try with_reducible rfl); done)
        try simp only [Act.put, List.setIfInBounds_toArray, List.set_cons_zero, List.set_cons_succ]
        refine wpAnyH_ready (rs := [39]) (by decide +kernel) (by simp) ?_
        refine AllReadyH.cons (by simp only [List.getElem?_toArray, List.getElem?_cons_succ, List.getElem?_cons_zero]; rfl) (fun K hK => ?_) AllReadyH.nil
        go_simp
        (go_at_call 37; with_reducible refine (HC1.out _ (by first | exact good_id (by assumption) | exact good_drew (by assumption))).mono ?_; rintro e w7 ⟨rfl, b7⟩)
        have HG7 := Lib.hid b7
        have HK7 := Lib.hid (HKEEP.out _ b7)
        clear b7
        go_wp2_with fail
        refine hK.out _ _ (by (try dsimp only); (first | assumption | exact HK7.out)) (fun hHeld => ?_)
        clear hK K
        try simp only [Act.put, List.setIfInBounds_toArray, List.set_cons_zero, List.set_cons_succ]
        refine wpAnyH_ready (rs := [43]) (by decide +kernel) (by simp) ?_
        refine AllReadyH.cons (by simp only [List.getElem?_toArray, List.getElem?_cons_succ, List.getElem?_cons_zero]; rfl) (fun K hK => ?_) AllReadyH.nil
        go_simp
        (go_at_call 37; with_reducible refine (HC2.out _ (by first | exact good_id (by assumption) | exact good_drew (by assumption))).mono ?_; rintro e w7 ⟨rfl, b7⟩)
        have HG7 := Lib.hid b7
        have HK7 := Lib.hid (HKEEP.out _ b7)
        clear b7
        go_wp2_with fail
        refine hK.out _ _ (by (try dsimp only); (first | assumption | exact HK7.out)) (fun hHeld => ?_)
        clear hK K
        try simp only [Act.put, List.setIfInBounds_toArray, List.set_cons_zero, List.set_cons_succ]
        refine takeW (v := ?_) 44 (by decide +kernel) (by decide +kernel) (by kernel_rfl) (by simp only [List.getElem?_toArray, List.getElem?_cons_succ, List.getElem?_cons_zero]; rfl) (by rfl) (by exact fun _ _ _ h => h) (by assumption) ?_ ?_
        rotate_left 1
        focus (intro w8 hSw; (try dsimp only at hSw); obtain ⟨⟨x0, x1, x2, x3, x4, x5⟩, ⟨y0, y1, y2, y3, y4, y5⟩, ⟨z0, z1, z2, z3, z4, z5⟩⟩ := hSw; go_simp; (try with_reducible rfl); done)
        try simp only [Act.put, List.setIfInBounds_toArray, List.set_cons_zero, List.set_cons_succ]
        refine takeW (v := .bool true) 45 (by decide +kernel) (by decide +kernel) (by kernel_rfl) (by simp only [List.getElem?_toArray, List.getElem?_cons_succ, List.getElem?_cons_zero]; rfl) (by rfl) (by exact fun _ _ _ h => h) (by assumption) ?_ ?_
        focus (intro w8 hSw; (try dsimp only at hSw); obtain ⟨⟨x0, x1, x2, x3, x4, x5⟩, ⟨y0, y1, y2, y3, y4, y5⟩, ⟨z0, z1, z2, z3, z4, z5⟩⟩ := hSw; go_simp; (try simp); (try rw [IntKind.wrap_i64]); omega)
        try simp only [Act.put, List.setIfInBounds_toArray, List.set_cons_zero, List.set_cons_succ]
        refine takeW (v := ?_) 46 (by decide +kernel) (by decide +kernel) (by kernel_rfl) (by simp only [List.getElem?_toArray, List.getElem?_cons_succ, List.getElem?_cons_zero]; rfl) (by rfl) (by exact fun _ _ _ h => h) (by assumption) ?_ ?_
        rotate_left 1
        focus (intro w8 hSw; (try dsimp only at hSw); obtain ⟨⟨x0, x1, x2, x3, x4, x5⟩, ⟨y0, y1, y2, y3, y4, y5⟩, ⟨z0, z1, z2, z3, z4, z5⟩⟩ := hSw; go_simp; (try with_reducible rfl); done)
        try simp only [Act.put, List.setIfInBounds_toArray, List.set_cons_zero, List.set_cons_succ]
        refine takeW (v := ?_) 47 (by decide +kernel) (by decide +kernel) (by kernel_rfl) (by simp only [List.getElem?_toArray, List.getElem?_cons_succ, List.getElem?_cons_zero]; rfl) (by rfl) (by exact fun _ _ _ h => h) (by assumption) ?_ ?_
        rotate_left 1
        focus (intro w8 hSw; (try dsimp only at hSw); obtain ⟨⟨x0, x1, x2, x3, x4, x5⟩, ⟨y0, y1, y2, y3, y4, y5⟩, ⟨z0, z1, z2, z3, z4, z5⟩⟩ := hSw; go_simp; (try with_reducible rfl); done)
        try simp only [Act.put, List.setIfInBounds_toArray, List.set_cons_zero, List.set_cons_succ]
        refine wpAnyH_done (by decide +kernel) ?_ _
        go_wp2_with fail
        go_ret
        exact ⟨rfl, HFIN.out _ (by first | exact good_id (by assumption) | exact good_drew (by assumption))⟩
      · rw [if_neg hpe] at h5
        subst h5
        have hpe2 : ((putE l x.n x.reason ((l.length : Int) + 1)) != 0) = true := by simpa using hpe
        generalize putE l x.n x.reason ((l.length : Int) + 1) = PE at *
        clear hpe
        go_wp2_with fail
        refine (awake19_any _).mono ?_
        rintro e w6 ⟨rfl, b6⟩
        have B6 := Lib.hid (B5.out.trans (b6.mono B5.out.size))
        clear b6
        go_wp2_with fail
        go_ret
        exact ⟨rfl, B6.out⟩

end Go.Proofs.Ytgggjlmelnbgcaa.Md
