/-
  DeadCounts, walked.
-/
import Derived.Test.YtgggjlmelnbgcaaMdDBackW
namespace Go.Proofs.Ytgggjlmelnbgcaa.Md
open Go.RowKit
open Va
set_option linter.unusedVariables false
set_option linter.unusedSimpArgs false

/-- The letters of the first k reasons, from 0 on. -/
def sumC (l : List DeadP) : Nat → Nat
  | 0 => 0
  | k + 1 => sumC l k + countL l k
theorem countL_cons (y : DeadP) (r : List DeadP) (j : Int) : countL (y :: r) j = countL r j + (if y.reason = j then 1 else 0) := by
  unfold countL
  rw [List.filter_cons]
  by_cases h : y.reason = j <;> simp [h]
theorem countL_app (l : List DeadP) (x : DeadP) (j : Int) : countL (l ++ [x]) j = countL l j + (if x.reason = j then 1 else 0) := by
  unfold countL
  rw [List.filter_append, List.length_append]
  by_cases h : x.reason = j <;> simp [h]
theorem countL_two (l : List DeadP) (x : DeadP) (j : Int) : (x.reason = j ∧ countL (l ++ [x]) j = countL l j + 1) ∨ (x.reason ≠ j ∧ countL (l ++ [x]) j = countL l j) := by
  rw [countL_app]
  by_cases h : x.reason = j
  · exact .inl ⟨h, by rw [if_pos h]⟩
  · exact .inr ⟨h, by rw [if_neg h]; rfl⟩
theorem sumC_cons (y : DeadP) (r : List DeadP) : ∀ k : Nat, sumC (y :: r) k = sumC r k + (if 0 ≤ y.reason ∧ y.reason < k then 1 else 0)
  | 0 => by
    simp only [sumC]
    rw [if_neg (by omega)]
  | k + 1 => by
    simp only [sumC]
    rw [sumC_cons y r k, countL_cons]
    by_cases h1 : 0 ≤ y.reason ∧ y.reason < (k : Int)
    · rw [if_pos h1, if_neg (by omega), if_pos (by omega)]; omega
    · by_cases h2 : y.reason = (k : Int)
      · rw [if_neg h1, if_pos h2, if_pos (by omega)]; omega
      · rw [if_neg h1, if_neg h2, if_neg (by omega)]; omega
theorem sumC_all : ∀ (l : List DeadP), (∀ y ∈ l, wordL y.reason ≠ []) → sumC l 7 = l.length
  | [], _ => rfl
  | y :: r, h => by
    rw [sumC_cons, sumC_all r fun z hz => h z (List.mem_cons_of_mem _ hz)]
    have hy := h y (by simp)
    rw [Ne, wordL_nil] at hy
    rw [if_pos (by omega), List.length_cons]
theorem sumC_le (l : List DeadP) : ∀ k, sumC l k ≤ k * l.length
  | 0 => by simp [sumC]
  | k + 1 => by
    have h1 := sumC_le l k
    have h2 := countL_le l k
    simp only [sumC]
    rw [Nat.succ_mul]; omega

set_option maxRecDepth 100000 in
set_option maxHeartbeats 8000000 in
theorem deadCounts_walk (l : List DeadP) (a : Option Addr) (cap : Nat) (x : DeadP) (ka : Option Addr) (kc : Nat) (fa : Option Addr) (fc : Nat) (w : World) (hl0 : l.length ≤ 281474976710656 ∧ l.length ≤ cap) (hx : DeadsAt w a l) (hb : ∀ y ∈ l, DBig y) (hxn : Num64 x.n) (hxr : Num64 x.reason) (hxm : MBig x.mail) (hka : ValsAt w ka x.mail.key) (hfa : ValsAt w fa x.mail.fields) :
    Calls Try.prog 10 #[.slice a l.length cap, .agg #[.int .i64 x.n, .int .i64 x.mail.id, .string (S x.mail.chan), .slice ka x.mail.key.length kc, .slice fa x.mail.fields.length fc, .int .i64 x.reason]] w fun e w' => e = .returned (.bool true) ∧ Below w.heap.size w w' := by
  have k0 := (Below.refl w.heap.size w).alloc (Nat.le_refl _) (.cells #[.int .i64 x.n, .int .i64 x.mail.id, .string (S x.mail.chan), .slice ka x.mail.key.length kc, .slice fa x.mail.fields.length fc, .int .i64 x.reason] 53)
  have h0 : BD (w.alloc (.cells #[.int .i64 x.n, .int .i64 x.mail.id, .string (S x.mail.chan), .slice ka x.mail.key.length kc, .slice fa x.mail.fields.length fc, .int .i64 x.reason] 53)) w.heap.size (.int .i64 x.n) (.int .i64 x.mail.id) (.string (S x.mail.chan)) (.slice ka x.mail.key.length kc) (.slice fa x.mail.fields.length fc) (.int .i64 x.reason) := heap_alloc_new w _
  obtain ⟨W0, hW0⟩ : ∃ W0, W0 = w.alloc (.cells #[.int .i64 x.n, .int .i64 x.mail.id, .string (S x.mail.chan), .slice ka x.mail.key.length kc, .slice fa x.mail.fields.length fc, .int .i64 x.reason] 53) := ⟨_, rfl⟩
  have HW0 := Lib.hid hW0
  rw [← hW0] at k0 h0
  have K0 := Lib.hid k0
  have D0 := Lib.hid h0
  have HX := Lib.hid hx
  have HBG := Lib.hid hb
  have HDX : Hid (DBig x) := Lib.hid ⟨hxn, hxr, hxm⟩
  have HKF := Lib.hid (And.intro hka hfa)
  have HLL := Lib.hid hl0
  have hl : l.length ≤ 281474976710656 := hl0.1
  have hli : (l.length : Int) ≤ 281474976710656 := by omega
  clear k0 h0 hW0 hx hb hxn hxr hxm hka hfa hl0
  go_enter Try.func10, Try.ntmps10
  go_wp2_with fail
  rw [← HW0.out]
  refine (awake19_any _).mono ?_
  rintro e w1 ⟨rfl, b1⟩
  have B1 := Lib.hid (K0.out.trans (b1.mono K0.out.size))
  have D1 := Lib.hid (D0.out.below b1)
  have HSM := Lib.hid (small_any l hl HBG.out a cap w1 (HX.out.below B1.out))
  clear b1
  cases hs1 : smallB l with
  | false =>
    rw [hs1] at HSM
    clear hs1
    go_wp2_with fail
    refine HSM.out.mono ?_
    rintro e w2 ⟨rfl, b2⟩
    have B2 := Lib.hid (B1.out.trans (b2.mono B1.out.size))
    clear b2
    go_wp2_with fail
    refine (awake19_any _).mono ?_
    rintro e w3 ⟨rfl, b3⟩
    have B3 := Lib.hid (B2.out.trans (b3.mono B2.out.size))
    clear b3
    go_wp2_with fail
    go_ret
    exact ⟨rfl, B3.out⟩
  | true =>
    rw [hs1] at HSM
    have HOK := Lib.hid (smallB_ok HBG.out hs1)
    have hl100 : l.length ≤ 100 := HOK.out.1
    clear hs1
    go_wp2_with fail
    refine HSM.out.mono ?_
    rintro e w2 ⟨rfl, b2⟩
    have B2 := Lib.hid (B1.out.trans (b2.mono B1.out.size))
    have D2 := Lib.hid (D1.out.below b2)
    clear b2
    have x0 := D2.out.c0
    have x1 := D2.out.c1
    have x2 := D2.out.c2
    have x3 := D2.out.c3
    have x4 := D2.out.c4
    have x5 := D2.out.c5
    have k3 := (Below.refl w2.heap.size w2).alloc (Nat.le_refl _) (.cells #[.int .i64 x.n, .int .i64 x.mail.id, .string (S x.mail.chan), .slice ka x.mail.key.length kc, .slice fa x.mail.fields.length fc, .int .i64 x.reason] 53)
    have B3 := Lib.hid (B2.out.trans (k3.mono B2.out.size))
    have D3 := Lib.hid (D2.out.below k3)
    have HS3 := Lib.hid (small_any [x] (by simp) (fun y hy => by
      have : y = x := by simpa using hy
      rw [this]; exact HDX.out) (some ⟨w2.heap.size, 0, none⟩) 1 (w2.alloc (.cells #[.int .i64 x.n, .int .i64 x.mail.id, .string (S x.mail.chan), .slice ka x.mail.key.length kc, .slice fa x.mail.fields.length fc, .int .i64 x.reason] 53)) (deads_one (HKF.out.1.below B3.out) (HKF.out.2.below B3.out)))
    clear k3
    cases hs2 : smallB [x] with
    | false =>
      rw [hs2] at HS3
      clear hs2
      go_wp2_with fail
      refine HS3.out.mono ?_
      rintro e w4 ⟨rfl, b4⟩
      have B4 := Lib.hid (B3.out.trans (b4.mono B3.out.size))
      clear b4
      go_wp2_with fail
      refine (awake19_any _).mono ?_
      rintro e w5 ⟨rfl, b5⟩
      have B5 := Lib.hid (B4.out.trans (b5.mono B4.out.size))
      clear b5
      go_wp2_with fail
      go_ret
      exact ⟨rfl, B5.out⟩
    | true =>
      rw [hs2] at HS3
      have HXO := Lib.hid ((smallB_ok (l := [x]) (fun y hy => by
        have : y = x := by simpa using hy
        rw [this]; exact HDX.out) hs2).2 x (by simp))
      clear hs2
      go_wp2_with fail
      refine HS3.out.mono ?_
      rintro e w4 ⟨rfl, b4⟩
      have B4 := Lib.hid (B3.out.trans (b4.mono B3.out.size))
      have D4 := Lib.hid (D3.out.below b4)
      clear b4 x0 x1 x2 x3 x4 x5
      have x0 := D4.out.c0
      have x1 := D4.out.c1
      have x2 := D4.out.c2
      have x3 := D4.out.c3
      have x4 := D4.out.c4
      have x5 := D4.out.c5
      go_wp2_with fail
      go_loopw [26] (fun iv wr => ∃ k : Nat, k ≤ l.length ∧ iv = .int .i64 k ∧ Below w.heap.size w wr ∧ BD wr w.heap.size (.int .i64 x.n) (.int .i64 x.mail.id) (.string (S x.mail.chan)) (.slice ka x.mail.key.length kc) (.slice fa x.mail.fields.length fc) (.int .i64 x.reason) ∧ Hid (∀ j, (h : j < l.length) → j < k → wordL l[j].reason ≠ [])) (fun iv _ => l.length - (intOf iv).toNat)
      case atStart => exact ⟨0, by omega, rfl, B4.out, D4.out, Lib.hid (fun j _ h => absurd h (by omega))⟩
      case round =>
        obtain ⟨k, hk, rfl, hbl, hbd, hno⟩ := hrel
        have HBL := Lib.hid hbl
        have HBD := Lib.hid hbd
        by_cases hlt : k < l.length
        · have hki : (k : Int) < (l.length : Int) := by omega
          obtain ⟨b, off, ja, jc, la, lc, hae, ⟨v0, v1, v2, v3, v4, v5, _, _⟩, hgl⟩ := HX.out k hlt
          subst hae
          obtain ⟨y, hye⟩ : ∃ y, y = l[k] := ⟨_, rfl⟩
          rw [← hye] at v0 v1 v2 v3 v4 v5
          have p0 := (hbl.cell (p := ⟨b, off + k * 6, none⟩) hgl).trans v0
          have p1 := (hbl.cell (p := ⟨b, off + k * 6 + 1, none⟩) hgl).trans v1
          have p2 := (hbl.cell (p := ⟨b, off + k * 6 + 2, none⟩) hgl).trans v2
          have p3 := (hbl.cell (p := ⟨b, off + k * 6 + 3, none⟩) hgl).trans v3
          have p4 := (hbl.cell (p := ⟨b, off + k * 6 + 4, none⟩) hgl).trans v4
          have p5 := (hbl.cell (p := ⟨b, off + k * 6 + 5, none⟩) hgl).trans v5
          have k7 := (Below.refl wr.heap.size wr).alloc (Nat.le_refl _) (.cells #[.int .i64 y.n, .int .i64 y.mail.id, .string (S y.mail.chan), .slice ja y.mail.key.length jc, .slice la y.mail.fields.length lc, .int .i64 y.reason] 53)
          have h7 : BD (wr.alloc (.cells #[.int .i64 y.n, .int .i64 y.mail.id, .string (S y.mail.chan), .slice ja y.mail.key.length jc, .slice la y.mail.fields.length lc, .int .i64 y.reason] 53)) wr.heap.size _ _ _ _ _ _ := heap_alloc_new wr _
          have g5 := h7.c5
          have B7 := Lib.hid (hbl.trans (k7.mono hbl.size))
          have D7 := Lib.hid (hbd.below k7)
          have HYE := Lib.hid hye
          have HWD := Lib.hid (fun W => word_any y.reason W)
          clear hbl hbd v0 v1 v2 v3 v4 v5 hye k7 h7 x0 x1 x2 x3 x4 x5
          by_cases hw : wordL y.reason = []
          · rw [hw] at HWD
            have e1 : (S []).toList.isEmpty = true := by rw [ByteArray.toList_eq, S_toList]; rfl
            clear hw
            go_wp2_with fail
            refine (HWD.out _).mono ?_
            rintro e w8 ⟨rfl, rfl⟩
            go_wp2_with fail
            refine (awake19_any _).mono ?_
            rintro e w9 ⟨rfl, b9⟩
            have B9 := Lib.hid (B7.out.trans (b9.mono B7.out.size))
            clear b9
            go_wp2_with fail
            go_ret
            exact ⟨rfl, B9.out⟩
          · have e1 : (S (wordL y.reason)).toList.isEmpty = false := by rw [ByteArray.toList_eq, S_toList]; simpa using hw
            have HWN := Lib.hid hw
            clear hw
            go_wp2_with fail
            refine (HWD.out _).mono ?_
            rintro e w8 ⟨rfl, rfl⟩
            go_wp2_with fail
            go_roundw
            case rel => exact ⟨k + 1, by omega, by go_num, B7.out, D7.out, Lib.hid (fun j hj hjk => by
              by_cases e : j = k
              · subst e; rw [← HYE.out]; exact HWN.out
              · exact hno.out j hj (by omega))⟩
            case measure => simp [intOf]; omega
        · have hki : ¬ (k : Int) < (l.length : Int) := by omega
          have HSUM := Lib.hid (sumC_all l fun y hy => by
            obtain ⟨i, hi, rfl⟩ := List.mem_iff_getElem.1 hy
            exact hno.out i hi (by omega))
          clear x0 x1 x2 x3 x4 x5 hbl hno
          have x0 := hbd.c0
          have x1 := hbd.c1
          have x2 := hbd.c2
          have x3 := hbd.c3
          have x4 := hbd.c4
          have x5 := hbd.c5
          have HPU := Lib.hid (put_any l (by omega) (fun y hy => (HOK.out.2 y hy).1) x.n x.mail x.reason 1000 HXO.out.1 a cap ka kc fa fc wr (HX.out.below HBL.out) (HKF.out.1.below HBL.out) (HKF.out.2.below HBL.out))
          clear hbd
          go_wp2_with fail
          refine HPU.out.mono ?_
          rintro e w5 ⟨h5, b5⟩
          have B5 := Lib.hid (HBL.out.trans (b5.mono HBL.out.size))
          have D5 := Lib.hid (HBD.out.below b5)
          clear b5 x0 x1 x2 x3 x4 x5
          obtain ⟨wf, rfl⟩ : ∃ wf, wf = wr := ⟨_, rfl⟩
          unfold Putted at h5
          have HC2 := Lib.hid (fun W (k : Below w.heap.size w W) (j : Int) => count_any l (by omega) j a cap W (HX.out.below k))
          have hcl : ∀ j, countL l j ≤ 100 := fun j => Nat.le_trans (countL_le _ _) hl100
          have HCL := Lib.hid hcl
          have HSL := Lib.hid (sumC_le l)
          clear hcl
          by_cases hpe : putE l x.n x.reason 1000 = 0
          · rw [if_pos hpe] at h5
            obtain ⟨q, cp, rfl, hr5, hc5⟩ := h5
            have HC1 := Lib.hid (fun W (k : Below w5.heap.size w5 W) (j : Int) => count_any (l ++ [x]) (by simp; omega) j q cp W ((DwR.deads hr5).below k))
            rw [show (l ++ [x]).length = l.length + 1 by simp] at HC1
            clear hr5 hc5 hpe
            go_wp2_with fail
            go_loopw [5, 47] (fun nv iv wr => ∃ k : Nat, k ≤ 7 ∧ iv = .int .i64 k ∧ nv = .int .i64 (sumC l k : Nat) ∧ Below w.heap.size w wr ∧ Below w5.heap.size w5 wr) (fun _ iv _ => 7 - (intOf iv).toNat)
            case atStart => exact ⟨0, by omega, rfl, rfl, B5.out, Below.refl _ _⟩
            case round =>
              obtain ⟨k2, hk2, rfl, rfl, hb2, hb5⟩ := hrel
              have HB2 := Lib.hid hb2
              have HB5 := Lib.hid hb5
              by_cases h7 : k2 < 7
              · have hk7 : (k2 : Int) < 7 := by omega
                have hsl := HSL.out k2
                have hc1 := HCL.out (k2 : Int)
                have HN1 : Hid (sumC l (k2 + 1) = sumC l k2 + countL l (k2 : Int)) := Lib.hid rfl
                have HR1 := Lib.hid (HC2.out wr hb2 (k2 : Int))
                have HX2 := Lib.hid (countL_two l x (k2 : Int))
                obtain ⟨CX, hCX⟩ : ∃ CX, CX = countL (l ++ [x]) (k2 : Int) := ⟨_, rfl⟩
                have HCX := Lib.hid hCX
                rw [← hCX] at HX2
                clear hCX
                have hs3 : (sumC l k2 : Int) ≤ 700 := by
                  have h9 : k2 * l.length ≤ 7 * 100 := Nat.mul_le_mul (by omega) hl100
                  omega
                obtain ⟨CL, hCL⟩ : ∃ CL, CL = countL l (k2 : Int) := ⟨_, rfl⟩
                obtain ⟨SL, hSL⟩ : ∃ SL, SL = sumC l k2 := ⟨_, rfl⟩
                have HCLe := Lib.hid hCL
                rw [← hCL] at HR1 HN1 HX2 hc1
                rw [← hSL] at HN1 hs3 ⊢
                have hci : (CL : Int) ≤ 100 := by omega
                clear hb2 hb5 hsl hCL hSL
                go_wp2_with fail
                refine HR1.out.mono ?_
                rintro e w6 ⟨rfl, b6⟩
                have B6 := Lib.hid (HB2.out.trans (b6.mono HB2.out.size))
                have G6 := Lib.hid (HB5.out.trans (b6.mono HB5.out.size))
                have HR2 := Lib.hid (HC1.out w6 G6.out (k2 : Int))
                rw [← HCX.out] at HR2
                clear b6
                go_wp2_with fail
                refine HR2.out.mono ?_
                rintro e w7 ⟨rfl, b7⟩
                have B7 := Lib.hid (B6.out.trans (b7.mono B6.out.size))
                have G7 := Lib.hid (G6.out.trans (b7.mono G6.out.size))
                have HR3 := Lib.hid (HC2.out w7 B7.out (k2 : Int))
                rw [← HCLe.out] at HR3
                clear b7
                go_wp2_with fail
                refine HR3.out.mono ?_
                rintro e w8 ⟨rfl, b8⟩
                have B8 := Lib.hid (B7.out.trans (b8.mono B7.out.size))
                have G8 := Lib.hid (G7.out.trans (b8.mono G7.out.size))
                have x5 := (D5.out.below G8.out).c5
                clear b8
                rcases HX2.out with ⟨hxk, rfl⟩ | ⟨hxk, rfl⟩
                · have e1 : (((CL + 1 : Nat) : Int) == (CL : Int)) = false := by simp; omega
                  have e2 : ((k2 : Int) != x.reason) = false := by simp [hxk]
                  clear hxk
                  go_wp2_with fail
                  go_roundw
                  case rel => exact ⟨k2 + 1, by omega, by go_num, by rw [HN1.out]; go_num, B8.out, G8.out⟩
                  case measure => simp [intOf]; omega
                · have e2 : ((k2 : Int) != x.reason) = true := by simp; omega
                  clear hxk
                  go_wp2_with fail
                  go_roundw
                  case rel => exact ⟨k2 + 1, by omega, by go_num, by rw [HN1.out]; go_num, B8.out, G8.out⟩
                  case measure => simp [intOf]; omega
              · obtain rfl : k2 = 7 := by omega
                rw [HSUM.out]
                clear hb2 hb5
                go_wp2_with fail
                refine (awake19_any _).mono ?_
                rintro e w6 ⟨rfl, b6⟩
                have B6 := Lib.hid (HB2.out.trans (b6.mono HB2.out.size))
                clear b6
                go_wp2_with fail
                go_ret
                exact ⟨by simp, B6.out⟩
          · rw [if_neg hpe] at h5
            subst h5
            have hpe2 : ((putE l x.n x.reason 1000) == 0) = false := by simpa using hpe
            generalize putE l x.n x.reason 1000 = PE at *
            clear hpe
            have HC1 := Lib.hid (fun W (j : Int) => count_any [] (by simp) j none 0 W (fun i hi => absurd hi (by simp)))
            simp only [List.length_nil] at HC1
            go_wp2_with fail
            go_loopw [5, 47] (fun nv iv wr => ∃ k : Nat, k ≤ 7 ∧ iv = .int .i64 k ∧ nv = .int .i64 (sumC l k : Nat) ∧ Below w.heap.size w wr ∧ Below w5.heap.size w5 wr) (fun _ iv _ => 7 - (intOf iv).toNat)
            case atStart => exact ⟨0, by omega, rfl, rfl, B5.out, Below.refl _ _⟩
            case round =>
              obtain ⟨k2, hk2, rfl, rfl, hb2, hb5⟩ := hrel
              have HB2 := Lib.hid hb2
              have HB5 := Lib.hid hb5
              by_cases h7 : k2 < 7
              · have hk7 : (k2 : Int) < 7 := by omega
                have hsl := HSL.out k2
                have hc1 := HCL.out (k2 : Int)
                have HN1 : Hid (sumC l (k2 + 1) = sumC l k2 + countL l (k2 : Int)) := Lib.hid rfl
                have HR1 := Lib.hid (HC2.out wr hb2 (k2 : Int))
                have hs3 : (sumC l k2 : Int) ≤ 700 := by
                  have h9 : k2 * l.length ≤ 7 * 100 := Nat.mul_le_mul (by omega) hl100
                  omega
                obtain ⟨CL, hCL⟩ : ∃ CL, CL = countL l (k2 : Int) := ⟨_, rfl⟩
                obtain ⟨SL, hSL⟩ : ∃ SL, SL = sumC l k2 := ⟨_, rfl⟩
                have HCLe := Lib.hid hCL
                rw [← hCL] at HR1 HN1 hc1
                rw [← hSL] at HN1 hs3 ⊢
                have hci : (CL : Int) ≤ 100 := by omega
                clear hb2 hb5 hsl hCL hSL
                go_wp2_with fail
                refine HR1.out.mono ?_
                rintro e w6 ⟨rfl, b6⟩
                have B6 := Lib.hid (HB2.out.trans (b6.mono HB2.out.size))
                have G6 := Lib.hid (HB5.out.trans (b6.mono HB5.out.size))
                clear b6
                go_wp2_with fail
                refine (HC1.out w6 (k2 : Int)).mono ?_
                rintro e w7 ⟨rfl, b7⟩
                have B7 := Lib.hid (B6.out.trans (b7.mono B6.out.size))
                have G7 := Lib.hid (G6.out.trans (b7.mono G6.out.size))
                have HR3 := Lib.hid (HC2.out w7 B7.out (k2 : Int))
                rw [← HCLe.out] at HR3
                clear b7
                go_wp2_with fail
                refine HR3.out.mono ?_
                rintro e w8 ⟨rfl, b8⟩
                have B8 := Lib.hid (B7.out.trans (b8.mono B7.out.size))
                have G8 := Lib.hid (G7.out.trans (b8.mono G7.out.size))
                clear b8
                go_wp2_with fail
                go_roundw
                case rel => exact ⟨k2 + 1, by omega, by go_num, by rw [HN1.out]; go_num, B8.out, G8.out⟩
                case measure => simp [intOf]; omega
              · obtain rfl : k2 = 7 := by omega
                rw [HSUM.out]
                clear hb2 hb5
                go_wp2_with fail
                refine (awake19_any _).mono ?_
                rintro e w6 ⟨rfl, b6⟩
                have B6 := Lib.hid (HB2.out.trans (b6.mono HB2.out.size))
                clear b6
                go_wp2_with fail
                go_ret
                exact ⟨by simp, B6.out⟩

end Go.Proofs.Ytgggjlmelnbgcaa.Md
