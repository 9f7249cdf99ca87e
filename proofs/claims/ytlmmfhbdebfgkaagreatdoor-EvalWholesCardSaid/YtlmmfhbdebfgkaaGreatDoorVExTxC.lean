/-
  ExTxC.
-/
import Derived.Test.YtlmmfhbdebfgkaaGreatDoorVExWrDQ
set_option linter.unusedVariables false
set_option linter.unusedSimpArgs false
set_option maxRecDepth 100000
set_option maxHeartbeats 8000000
namespace Go.Proofs.YtlmmfhbdebfgkaaGreatDoor.Ex
open Go.RowKit
open Lx Va
theorem rtext_5 (num : Int) (tx : List UInt8) (A : F) (hA : RtxAll A) (hlen : A.len ≤ 281474976710656) (hl : (commas (txF A)).length ≤ 100000000) (ho : most (txF A) ≤ 100000) : RtxC ⟨5, num, tx, A⟩ := by
  intro p c w hfa
  have e : T.tx ⟨5, num, tx, A⟩ = ⟨5, [91] ++ commas (txF A) ++ [93], most (txF A) + 1⟩ := rfl
  rw [e]
  dsimp only
  clear e
  obtain ⟨TX, hTX⟩ : ∃ TX, TX = S ([91] ++ commas (txF A) ++ [93]) := ⟨_, rfl⟩
  obtain ⟨O, hO⟩ : ∃ O : Int, O = ((most (txF A) + 1 : Nat) : Int) := ⟨_, rfl⟩
  rw [← hTX, ← hO]
  have HTX := Lib.hid hTX
  have HO := Lib.hid hO
  clear hTX hO
  have hb0 := (Below.refl w.heap.size w).alloc (Nat.le_refl _) (.cells #[.int .i64 5, .int .i64 num, .string (S tx), .slice p A.len c] 24)
  have hbx := Bx.new w (.int .i64 5) (.int .i64 num) (.string (S tx)) (.slice p A.len c)
  have HFA0 := Lib.hid (hfa.keep (Kept.of_below hb0))
  have HB0 := Lib.hid hb0
  have HBX := Lib.hid hbx
  have HALL := Lib.hid hA
  clear hb0 hbx hfa hA
  have hki : (A.len : Int) ≤ 281474976710656 := by omega
  go_enter Tryz.func59, Tryz.ntmps59
  go_wp2_with fail
  go_loopw [6, 7, 89] (fun sv mv iv wr => ∃ (i : Nat) (r : F) (Y : List UInt8) (m : Nat) (pr : Option Addr), sv = .string (S Y) ∧ mv = .int .i64 (m : Int) ∧ iv = .int .i64 i ∧ i + r.len = A.len ∧ RtxAll r ∧ FAt wr (fun _ => True) r pr ∧ (∀ g k, pr = some ⟨g, k, none⟩ → r ≠ .nil → ∃ k0, p = some ⟨g, k0, none⟩ ∧ k = k0 + 4 * i) ∧
    [91] ++ commas (txF A) = Y ++ tailL i (txF r) ∧ max m (most (txF r)) = most (txF A) ∧ Below w.heap.size w wr ∧ Bx wr w.heap.size (.int .i64 5) (.int .i64 num) (.string (S tx)) (.slice p A.len c)) (fun _ _ iv _ => A.len - (intOf iv).toNat)
  case atStart => exact ⟨0, A, [91], 0, p, rfl, rfl, rfl, by omega, HALL.out, HFA0.out, fun g k e _ => ⟨k, e, by omega⟩, rfl, Nat.zero_max _, HB0.out, HBX.out⟩
  case round =>
    obtain ⟨i, r, Y, m, pr, rfl, rfl, rfl, hil, hal, hfr, hpr, hY, hm, hb, hx⟩ := hrel
    have q0 := hx.c0
    have q3 := hx.c3
    cases r with
    | nil =>
      have hil2 : i = A.len := by simpa [F.len] using hil
      have hie : ¬ (i : Int) < (A.len : Int) := by omega
      have hYe : [91] ++ commas (txF A) = Y := by rw [hY]; simp [txF, tailL_nil]
      have hme : m = most (txF A) := by rw [← hm]; simp [txF, most]
      have HB := Lib.hid hb
      have hYl : Y.length ≤ 100000100 := by rw [← hYe]; simp; omega
      have ha : ∀ w, (Op.stringOp .add (S Y) ⟨#[93]⟩).run Tryz.prog w = .ok (.string TX) w := fun w => (add_run Y [93] (by simp; omega) w).trans (by rw [HTX.out, hYe])
      have hmi : (m : Int) ≤ 100000 := by omega
      have HCA := Lib.hid (show (m : Int) + 1 = O by rw [HO.out, ← hme]; omega)
      clear hfr hpr hal hY hx hm hYe hme hb
      go_wp2_with fail
      go_ret2
      exact ⟨by rw [← HCA.out]; rfl, HB.out⟩
    | cons op nm tt a r =>
      obtain ⟨g, k, q, cc, rfl, hgk, hgl, f0, f1, f2, f3, hfa, hfr2⟩ := hfr
      obtain ⟨k0, rfl, rfl⟩ := hpr g k rfl (by intro e; cases e)
      have hil2 : i + (r.len + 1) = A.len := by simpa [F.len] using hil
      have hie : (i : Int) < (A.len : Int) := by omega
      rw [show k0 + 4 * i = k0 + i * 4 by omega] at f0 f1 f2 f3
      obtain ⟨x, hxe⟩ : ∃ x, x = T.tx ⟨op, nm, tt, a⟩ := ⟨_, rfl⟩
      have htx : txF (.cons op nm tt a r) = x :: txF r := by rw [hxe]; rfl
      rw [htx] at hY hm
      rw [tailL_cons] at hY
      have hYl : Y.length + (if i = 0 then ([] : List UInt8) else [44, 32]).length + x.text.length ≤ 1 + (commas (txF A)).length := by
        have := congrArg List.length hY
        simp only [List.length_append, List.length_cons, List.length_nil] at this ⊢
        omega
      have HM := Lib.hid (show max (max m x.open_) (most (txF r)) = most (txF A) by
        have : max m (max x.open_ (most (txF r))) = most (txF A) := hm
        omega)
      have hmi : (m : Int) ≤ 100000 := by
        have : max m (max x.open_ (most (txF r))) = most (txF A) := hm
        omega
      have hxi : (x.open_ : Int) ≤ 100000 := by
        have : max m (max x.open_ (most (txF r))) = most (txF A) := hm
        omega
      have HMAX := Lib.hid (show max (m : Int) (x.open_ : Int) = ((max m x.open_ : Nat) : Int) by omega)
      have HC := hal.1 q cc wr hfa
      rw [← hxe] at HC
      have HCALL := Lib.hid HC
      have HFR := Lib.hid hfr2
      have HB := Lib.hid hb
      have HX := Lib.hid hx
      have HAL := Lib.hid hal.2
      by_cases hi0 : i = 0
      · subst hi0
        simp only [Nat.mul_zero, Nat.zero_mul, Nat.add_zero, Nat.zero_add, if_true, List.length_nil] at hil hil2 hY hYl f0 f1 f2 f3 HFR
        have HY := Lib.hid (show [91] ++ commas (txF A) = (Y ++ x.text) ++ tailL 1 (txF r) by rw [hY]; simp)
        have HAD := Lib.hid (fun w => add_run Y x.text (by omega) w)
        have e1 : ((0 : Nat) : Int) = 0 := rfl
        clear HC hal hfa hfr2 hb hx hm hY hYl htx hxe hpr hgk hil
        go_wp2_with fail
        refine HCALL.out.mono ?_
        rintro e w5 ⟨rfl, b5⟩
        have HB5 := Lib.hid (HB.out.trans (b5.mono HB.out.size))
        have HF5 := Lib.hid (HFR.out.keep (Kept.of_below b5))
        have HX5 := Lib.hid (HX.out.keep (Kept.of_below (ok := fun _ => True) b5) trivial)
        have ha := HAD.out
        obtain ⟨R, hR⟩ : ∃ R, R = S (Y ++ x.text) := ⟨_, rfl⟩
        rw [← hR] at ha
        have HR := Lib.hid hR
        clear b5 hR
        go_wp2_with fail
        go_roundw
        case rel => exact ⟨1, r, Y ++ x.text, max m x.open_, some ⟨g, k0 + 4, none⟩, by rw [← HR.out], by rw [← HMAX.out] <;> (try rfl), by go_num, by omega, HAL.out, HF5.out, fun g' k' e _ => by injection e with e; injection e with e1 e2 _; subst e1 e2; exact ⟨k0, rfl, by omega⟩, HY.out, HM.out, HB5.out, HX5.out⟩
        case measure => simp [intOf]; omega
      · have hi1 : (0 : Int) < (i : Int) := by omega
        rw [if_neg hi0] at hY hYl
        simp only [List.length_cons, List.length_nil] at hYl
        have HY := Lib.hid (show [91] ++ commas (txF A) = ((Y ++ [44, 32]) ++ x.text) ++ tailL (i + 1) (txF r) by rw [hY]; simp)
        have HAC := Lib.hid (fun w => add_run Y [44, 32] (by simp; omega) w)
        have HAD := Lib.hid (fun w => add_run (Y ++ [44, 32]) x.text (by simp; omega) w)
        clear HC hal hfa hfr2 hb hx hm hY hYl htx hxe hpr hgk
        go_wp2_with fail
        refine HCALL.out.mono ?_
        rintro e w5 ⟨rfl, b5⟩
        have HB5 := Lib.hid (HB.out.trans (b5.mono HB.out.size))
        have HF5 := Lib.hid (HFR.out.keep (Kept.of_below b5))
        have HX5 := Lib.hid (HX.out.keep (Kept.of_below (ok := fun _ => True) b5) trivial)
        have ha : ∀ w, (Op.stringOp .add (S Y) ⟨#[44, 32]⟩).run Tryz.prog w = .ok (.string (S (Y ++ [44, 32]))) w := HAC.out
        have ha2 := HAD.out
        obtain ⟨R, hR⟩ : ∃ R, R = S (Y ++ [44, 32] ++ x.text) := ⟨_, rfl⟩
        rw [← hR] at ha2
        have HR := Lib.hid hR
        generalize S (Y ++ [44, 32]) = R1 at ha ha2
        clear b5 hR
        go_wp2_with fail
        go_roundw
        case rel => exact ⟨i + 1, r, (Y ++ [44, 32]) ++ x.text, max m x.open_, some ⟨g, k0 + 4 * i + 4, none⟩, by rw [← HR.out], by rw [← HMAX.out] <;> (try rfl), by go_num, by omega, HAL.out, HF5.out, fun g' k' e _ => by injection e with e; injection e with e1 e2 _; subst e1 e2; exact ⟨k0, rfl, by omega⟩, HY.out, HM.out, HB5.out, HX5.out⟩
        case measure => simp [intOf]; omega
theorem rtext_12 (num : Int) (tx : List UInt8) (A : F) (hA : RtxAll A) (hlen : A.len ≤ 281474976710656) (hl : (commas (txF A)).length ≤ 100000000) (ho : most (txF A) ≤ 100000) : RtxC ⟨12, num, tx, A⟩ := by
  intro p c w hfa
  have e : T.tx ⟨12, num, tx, A⟩ = ⟨12, [108, 101, 110, 40] ++ commas (txF A) ++ [41], most (txF A) + 1⟩ := rfl
  rw [e]
  dsimp only
  clear e
  obtain ⟨TX, hTX⟩ : ∃ TX, TX = S ([108, 101, 110, 40] ++ commas (txF A) ++ [41]) := ⟨_, rfl⟩
  obtain ⟨O, hO⟩ : ∃ O : Int, O = ((most (txF A) + 1 : Nat) : Int) := ⟨_, rfl⟩
  rw [← hTX, ← hO]
  have HTX := Lib.hid hTX
  have HO := Lib.hid hO
  clear hTX hO
  have hb0 := (Below.refl w.heap.size w).alloc (Nat.le_refl _) (.cells #[.int .i64 12, .int .i64 num, .string (S tx), .slice p A.len c] 24)
  have hbx := Bx.new w (.int .i64 12) (.int .i64 num) (.string (S tx)) (.slice p A.len c)
  have HFA0 := Lib.hid (hfa.keep (Kept.of_below hb0))
  have HB0 := Lib.hid hb0
  have HBX := Lib.hid hbx
  have HALL := Lib.hid hA
  clear hb0 hbx hfa hA
  have hki : (A.len : Int) ≤ 281474976710656 := by omega
  go_enter Tryz.func59, Tryz.ntmps59
  go_wp2_with fail
  go_loopw [6, 7, 89] (fun sv mv iv wr => ∃ (i : Nat) (r : F) (Y : List UInt8) (m : Nat) (pr : Option Addr), sv = .string (S Y) ∧ mv = .int .i64 (m : Int) ∧ iv = .int .i64 i ∧ i + r.len = A.len ∧ RtxAll r ∧ FAt wr (fun _ => True) r pr ∧ (∀ g k, pr = some ⟨g, k, none⟩ → r ≠ .nil → ∃ k0, p = some ⟨g, k0, none⟩ ∧ k = k0 + 4 * i) ∧
    [108, 101, 110, 40] ++ commas (txF A) = Y ++ tailL i (txF r) ∧ max m (most (txF r)) = most (txF A) ∧ Below w.heap.size w wr ∧ Bx wr w.heap.size (.int .i64 12) (.int .i64 num) (.string (S tx)) (.slice p A.len c)) (fun _ _ iv _ => A.len - (intOf iv).toNat)
  case atStart => exact ⟨0, A, [108, 101, 110, 40], 0, p, rfl, rfl, rfl, by omega, HALL.out, HFA0.out, fun g k e _ => ⟨k, e, by omega⟩, rfl, Nat.zero_max _, HB0.out, HBX.out⟩
  case round =>
    obtain ⟨i, r, Y, m, pr, rfl, rfl, rfl, hil, hal, hfr, hpr, hY, hm, hb, hx⟩ := hrel
    have q0 := hx.c0
    have q3 := hx.c3
    cases r with
    | nil =>
      have hil2 : i = A.len := by simpa [F.len] using hil
      have hie : ¬ (i : Int) < (A.len : Int) := by omega
      have hYe : [108, 101, 110, 40] ++ commas (txF A) = Y := by rw [hY]; simp [txF, tailL_nil]
      have hme : m = most (txF A) := by rw [← hm]; simp [txF, most]
      have HB := Lib.hid hb
      have hYl : Y.length ≤ 100000100 := by rw [← hYe]; simp; omega
      have ha : ∀ w, (Op.stringOp .add (S Y) ⟨#[41]⟩).run Tryz.prog w = .ok (.string TX) w := fun w => (add_run Y [41] (by simp; omega) w).trans (by rw [HTX.out, hYe])
      have hmi : (m : Int) ≤ 100000 := by omega
      have HCA := Lib.hid (show (m : Int) + 1 = O by rw [HO.out, ← hme]; omega)
      clear hfr hpr hal hY hx hm hYe hme hb
      go_wp2_with fail
      go_ret2
      exact ⟨by rw [← HCA.out]; rfl, HB.out⟩
    | cons op nm tt a r =>
      obtain ⟨g, k, q, cc, rfl, hgk, hgl, f0, f1, f2, f3, hfa, hfr2⟩ := hfr
      obtain ⟨k0, rfl, rfl⟩ := hpr g k rfl (by intro e; cases e)
      have hil2 : i + (r.len + 1) = A.len := by simpa [F.len] using hil
      have hie : (i : Int) < (A.len : Int) := by omega
      rw [show k0 + 4 * i = k0 + i * 4 by omega] at f0 f1 f2 f3
      obtain ⟨x, hxe⟩ : ∃ x, x = T.tx ⟨op, nm, tt, a⟩ := ⟨_, rfl⟩
      have htx : txF (.cons op nm tt a r) = x :: txF r := by rw [hxe]; rfl
      rw [htx] at hY hm
      rw [tailL_cons] at hY
      have hYl : Y.length + (if i = 0 then ([] : List UInt8) else [44, 32]).length + x.text.length ≤ 4 + (commas (txF A)).length := by
        have := congrArg List.length hY
        simp only [List.length_append, List.length_cons, List.length_nil] at this ⊢
        omega
      have HM := Lib.hid (show max (max m x.open_) (most (txF r)) = most (txF A) by
        have : max m (max x.open_ (most (txF r))) = most (txF A) := hm
        omega)
      have hmi : (m : Int) ≤ 100000 := by
        have : max m (max x.open_ (most (txF r))) = most (txF A) := hm
        omega
      have hxi : (x.open_ : Int) ≤ 100000 := by
        have : max m (max x.open_ (most (txF r))) = most (txF A) := hm
        omega
      have HMAX := Lib.hid (show max (m : Int) (x.open_ : Int) = ((max m x.open_ : Nat) : Int) by omega)
      have HC := hal.1 q cc wr hfa
      rw [← hxe] at HC
      have HCALL := Lib.hid HC
      have HFR := Lib.hid hfr2
      have HB := Lib.hid hb
      have HX := Lib.hid hx
      have HAL := Lib.hid hal.2
      by_cases hi0 : i = 0
      · subst hi0
        simp only [Nat.mul_zero, Nat.zero_mul, Nat.add_zero, Nat.zero_add, if_true, List.length_nil] at hil hil2 hY hYl f0 f1 f2 f3 HFR
        have HY := Lib.hid (show [108, 101, 110, 40] ++ commas (txF A) = (Y ++ x.text) ++ tailL 1 (txF r) by rw [hY]; simp)
        have HAD := Lib.hid (fun w => add_run Y x.text (by omega) w)
        have e1 : ((0 : Nat) : Int) = 0 := rfl
        clear HC hal hfa hfr2 hb hx hm hY hYl htx hxe hpr hgk hil
        go_wp2_with fail
        refine HCALL.out.mono ?_
        rintro e w5 ⟨rfl, b5⟩
        have HB5 := Lib.hid (HB.out.trans (b5.mono HB.out.size))
        have HF5 := Lib.hid (HFR.out.keep (Kept.of_below b5))
        have HX5 := Lib.hid (HX.out.keep (Kept.of_below (ok := fun _ => True) b5) trivial)
        have ha := HAD.out
        obtain ⟨R, hR⟩ : ∃ R, R = S (Y ++ x.text) := ⟨_, rfl⟩
        rw [← hR] at ha
        have HR := Lib.hid hR
        clear b5 hR
        go_wp2_with fail
        go_roundw
        case rel => exact ⟨1, r, Y ++ x.text, max m x.open_, some ⟨g, k0 + 4, none⟩, by rw [← HR.out], by rw [← HMAX.out] <;> (try rfl), by go_num, by omega, HAL.out, HF5.out, fun g' k' e _ => by injection e with e; injection e with e1 e2 _; subst e1 e2; exact ⟨k0, rfl, by omega⟩, HY.out, HM.out, HB5.out, HX5.out⟩
        case measure => simp [intOf]; omega
      · have hi1 : (0 : Int) < (i : Int) := by omega
        rw [if_neg hi0] at hY hYl
        simp only [List.length_cons, List.length_nil] at hYl
        have HY := Lib.hid (show [108, 101, 110, 40] ++ commas (txF A) = ((Y ++ [44, 32]) ++ x.text) ++ tailL (i + 1) (txF r) by rw [hY]; simp)
        have HAC := Lib.hid (fun w => add_run Y [44, 32] (by simp; omega) w)
        have HAD := Lib.hid (fun w => add_run (Y ++ [44, 32]) x.text (by simp; omega) w)
        clear HC hal hfa hfr2 hb hx hm hY hYl htx hxe hpr hgk
        go_wp2_with fail
        refine HCALL.out.mono ?_
        rintro e w5 ⟨rfl, b5⟩
        have HB5 := Lib.hid (HB.out.trans (b5.mono HB.out.size))
        have HF5 := Lib.hid (HFR.out.keep (Kept.of_below b5))
        have HX5 := Lib.hid (HX.out.keep (Kept.of_below (ok := fun _ => True) b5) trivial)
        have ha : ∀ w, (Op.stringOp .add (S Y) ⟨#[44, 32]⟩).run Tryz.prog w = .ok (.string (S (Y ++ [44, 32]))) w := HAC.out
        have ha2 := HAD.out
        obtain ⟨R, hR⟩ : ∃ R, R = S (Y ++ [44, 32] ++ x.text) := ⟨_, rfl⟩
        rw [← hR] at ha2
        have HR := Lib.hid hR
        generalize S (Y ++ [44, 32]) = R1 at ha ha2
        clear b5 hR
        go_wp2_with fail
        go_roundw
        case rel => exact ⟨i + 1, r, (Y ++ [44, 32]) ++ x.text, max m x.open_, some ⟨g, k0 + 4 * i + 4, none⟩, by rw [← HR.out], by rw [← HMAX.out] <;> (try rfl), by go_num, by omega, HAL.out, HF5.out, fun g' k' e _ => by injection e with e; injection e with e1 e2 _; subst e1 e2; exact ⟨k0, rfl, by omega⟩, HY.out, HM.out, HB5.out, HX5.out⟩
        case measure => simp [intOf]; omega
theorem rtext_25 (num : Int) (tx : List UInt8) (A : F) (hA : RtxAll A) (hlen : A.len ≤ 281474976710656) (hl : (commas (txF A)).length ≤ 100000000) (ho : most (txF A) ≤ 100000) : RtxC ⟨25, num, tx, A⟩ := by
  intro p c w hfa
  have e : T.tx ⟨25, num, tx, A⟩ = ⟨25, [97, 116, 40] ++ commas (txF A) ++ [41], most (txF A) + 1⟩ := rfl
  rw [e]
  dsimp only
  clear e
  obtain ⟨TX, hTX⟩ : ∃ TX, TX = S ([97, 116, 40] ++ commas (txF A) ++ [41]) := ⟨_, rfl⟩
  obtain ⟨O, hO⟩ : ∃ O : Int, O = ((most (txF A) + 1 : Nat) : Int) := ⟨_, rfl⟩
  rw [← hTX, ← hO]
  have HTX := Lib.hid hTX
  have HO := Lib.hid hO
  clear hTX hO
  have hb0 := (Below.refl w.heap.size w).alloc (Nat.le_refl _) (.cells #[.int .i64 25, .int .i64 num, .string (S tx), .slice p A.len c] 24)
  have hbx := Bx.new w (.int .i64 25) (.int .i64 num) (.string (S tx)) (.slice p A.len c)
  have HFA0 := Lib.hid (hfa.keep (Kept.of_below hb0))
  have HB0 := Lib.hid hb0
  have HBX := Lib.hid hbx
  have HALL := Lib.hid hA
  clear hb0 hbx hfa hA
  have hki : (A.len : Int) ≤ 281474976710656 := by omega
  go_enter Tryz.func59, Tryz.ntmps59
  go_wp2_with fail
  go_loopw [6, 7, 89] (fun sv mv iv wr => ∃ (i : Nat) (r : F) (Y : List UInt8) (m : Nat) (pr : Option Addr), sv = .string (S Y) ∧ mv = .int .i64 (m : Int) ∧ iv = .int .i64 i ∧ i + r.len = A.len ∧ RtxAll r ∧ FAt wr (fun _ => True) r pr ∧ (∀ g k, pr = some ⟨g, k, none⟩ → r ≠ .nil → ∃ k0, p = some ⟨g, k0, none⟩ ∧ k = k0 + 4 * i) ∧
    [97, 116, 40] ++ commas (txF A) = Y ++ tailL i (txF r) ∧ max m (most (txF r)) = most (txF A) ∧ Below w.heap.size w wr ∧ Bx wr w.heap.size (.int .i64 25) (.int .i64 num) (.string (S tx)) (.slice p A.len c)) (fun _ _ iv _ => A.len - (intOf iv).toNat)
  case atStart => exact ⟨0, A, [97, 116, 40], 0, p, rfl, rfl, rfl, by omega, HALL.out, HFA0.out, fun g k e _ => ⟨k, e, by omega⟩, rfl, Nat.zero_max _, HB0.out, HBX.out⟩
  case round =>
    obtain ⟨i, r, Y, m, pr, rfl, rfl, rfl, hil, hal, hfr, hpr, hY, hm, hb, hx⟩ := hrel
    have q0 := hx.c0
    have q3 := hx.c3
    cases r with
    | nil =>
      have hil2 : i = A.len := by simpa [F.len] using hil
      have hie : ¬ (i : Int) < (A.len : Int) := by omega
      have hYe : [97, 116, 40] ++ commas (txF A) = Y := by rw [hY]; simp [txF, tailL_nil]
      have hme : m = most (txF A) := by rw [← hm]; simp [txF, most]
      have HB := Lib.hid hb
      have hYl : Y.length ≤ 100000100 := by rw [← hYe]; simp; omega
      have ha : ∀ w, (Op.stringOp .add (S Y) ⟨#[41]⟩).run Tryz.prog w = .ok (.string TX) w := fun w => (add_run Y [41] (by simp; omega) w).trans (by rw [HTX.out, hYe])
      have hmi : (m : Int) ≤ 100000 := by omega
      have HCA := Lib.hid (show (m : Int) + 1 = O by rw [HO.out, ← hme]; omega)
      clear hfr hpr hal hY hx hm hYe hme hb
      go_wp2_with fail
      go_ret2
      exact ⟨by rw [← HCA.out]; rfl, HB.out⟩
    | cons op nm tt a r =>
      obtain ⟨g, k, q, cc, rfl, hgk, hgl, f0, f1, f2, f3, hfa, hfr2⟩ := hfr
      obtain ⟨k0, rfl, rfl⟩ := hpr g k rfl (by intro e; cases e)
      have hil2 : i + (r.len + 1) = A.len := by simpa [F.len] using hil
      have hie : (i : Int) < (A.len : Int) := by omega
      rw [show k0 + 4 * i = k0 + i * 4 by omega] at f0 f1 f2 f3
      obtain ⟨x, hxe⟩ : ∃ x, x = T.tx ⟨op, nm, tt, a⟩ := ⟨_, rfl⟩
      have htx : txF (.cons op nm tt a r) = x :: txF r := by rw [hxe]; rfl
      rw [htx] at hY hm
      rw [tailL_cons] at hY
      have hYl : Y.length + (if i = 0 then ([] : List UInt8) else [44, 32]).length + x.text.length ≤ 3 + (commas (txF A)).length := by
        have := congrArg List.length hY
        simp only [List.length_append, List.length_cons, List.length_nil] at this ⊢
        omega
      have HM := Lib.hid (show max (max m x.open_) (most (txF r)) = most (txF A) by
        have : max m (max x.open_ (most (txF r))) = most (txF A) := hm
        omega)
      have hmi : (m : Int) ≤ 100000 := by
        have : max m (max x.open_ (most (txF r))) = most (txF A) := hm
        omega
      have hxi : (x.open_ : Int) ≤ 100000 := by
        have : max m (max x.open_ (most (txF r))) = most (txF A) := hm
        omega
      have HMAX := Lib.hid (show max (m : Int) (x.open_ : Int) = ((max m x.open_ : Nat) : Int) by omega)
      have HC := hal.1 q cc wr hfa
      rw [← hxe] at HC
      have HCALL := Lib.hid HC
      have HFR := Lib.hid hfr2
      have HB := Lib.hid hb
      have HX := Lib.hid hx
      have HAL := Lib.hid hal.2
      by_cases hi0 : i = 0
      · subst hi0
        simp only [Nat.mul_zero, Nat.zero_mul, Nat.add_zero, Nat.zero_add, if_true, List.length_nil] at hil hil2 hY hYl f0 f1 f2 f3 HFR
        have HY := Lib.hid (show [97, 116, 40] ++ commas (txF A) = (Y ++ x.text) ++ tailL 1 (txF r) by rw [hY]; simp)
        have HAD := Lib.hid (fun w => add_run Y x.text (by omega) w)
        have e1 : ((0 : Nat) : Int) = 0 := rfl
        clear HC hal hfa hfr2 hb hx hm hY hYl htx hxe hpr hgk hil
        go_wp2_with fail
        refine HCALL.out.mono ?_
        rintro e w5 ⟨rfl, b5⟩
        have HB5 := Lib.hid (HB.out.trans (b5.mono HB.out.size))
        have HF5 := Lib.hid (HFR.out.keep (Kept.of_below b5))
        have HX5 := Lib.hid (HX.out.keep (Kept.of_below (ok := fun _ => True) b5) trivial)
        have ha := HAD.out
        obtain ⟨R, hR⟩ : ∃ R, R = S (Y ++ x.text) := ⟨_, rfl⟩
        rw [← hR] at ha
        have HR := Lib.hid hR
        clear b5 hR
        go_wp2_with fail
        go_roundw
        case rel => exact ⟨1, r, Y ++ x.text, max m x.open_, some ⟨g, k0 + 4, none⟩, by rw [← HR.out], by rw [← HMAX.out] <;> (try rfl), by go_num, by omega, HAL.out, HF5.out, fun g' k' e _ => by injection e with e; injection e with e1 e2 _; subst e1 e2; exact ⟨k0, rfl, by omega⟩, HY.out, HM.out, HB5.out, HX5.out⟩
        case measure => simp [intOf]; omega
      · have hi1 : (0 : Int) < (i : Int) := by omega
        rw [if_neg hi0] at hY hYl
        simp only [List.length_cons, List.length_nil] at hYl
        have HY := Lib.hid (show [97, 116, 40] ++ commas (txF A) = ((Y ++ [44, 32]) ++ x.text) ++ tailL (i + 1) (txF r) by rw [hY]; simp)
        have HAC := Lib.hid (fun w => add_run Y [44, 32] (by simp; omega) w)
        have HAD := Lib.hid (fun w => add_run (Y ++ [44, 32]) x.text (by simp; omega) w)
        clear HC hal hfa hfr2 hb hx hm hY hYl htx hxe hpr hgk
        go_wp2_with fail
        refine HCALL.out.mono ?_
        rintro e w5 ⟨rfl, b5⟩
        have HB5 := Lib.hid (HB.out.trans (b5.mono HB.out.size))
        have HF5 := Lib.hid (HFR.out.keep (Kept.of_below b5))
        have HX5 := Lib.hid (HX.out.keep (Kept.of_below (ok := fun _ => True) b5) trivial)
        have ha : ∀ w, (Op.stringOp .add (S Y) ⟨#[44, 32]⟩).run Tryz.prog w = .ok (.string (S (Y ++ [44, 32]))) w := HAC.out
        have ha2 := HAD.out
        obtain ⟨R, hR⟩ : ∃ R, R = S (Y ++ [44, 32] ++ x.text) := ⟨_, rfl⟩
        rw [← hR] at ha2
        have HR := Lib.hid hR
        generalize S (Y ++ [44, 32]) = R1 at ha ha2
        clear b5 hR
        go_wp2_with fail
        go_roundw
        case rel => exact ⟨i + 1, r, (Y ++ [44, 32]) ++ x.text, max m x.open_, some ⟨g, k0 + 4 * i + 4, none⟩, by rw [← HR.out], by rw [← HMAX.out] <;> (try rfl), by go_num, by omega, HAL.out, HF5.out, fun g' k' e _ => by injection e with e; injection e with e1 e2 _; subst e1 e2; exact ⟨k0, rfl, by omega⟩, HY.out, HM.out, HB5.out, HX5.out⟩
        case measure => simp [intOf]; omega
theorem rtext_26 (num : Int) (tx : List UInt8) (A : F) (hA : RtxAll A) (hlen : A.len ≤ 281474976710656) (hl : (commas (txF A)).length ≤ 100000000) (ho : most (txF A) ≤ 100000) : RtxC ⟨26, num, tx, A⟩ := by
  intro p c w hfa
  have e : T.tx ⟨26, num, tx, A⟩ = ⟨26, [112, 117, 115, 104, 40] ++ commas (txF A) ++ [41], most (txF A) + 1⟩ := rfl
  rw [e]
  dsimp only
  clear e
  obtain ⟨TX, hTX⟩ : ∃ TX, TX = S ([112, 117, 115, 104, 40] ++ commas (txF A) ++ [41]) := ⟨_, rfl⟩
  obtain ⟨O, hO⟩ : ∃ O : Int, O = ((most (txF A) + 1 : Nat) : Int) := ⟨_, rfl⟩
  rw [← hTX, ← hO]
  have HTX := Lib.hid hTX
  have HO := Lib.hid hO
  clear hTX hO
  have hb0 := (Below.refl w.heap.size w).alloc (Nat.le_refl _) (.cells #[.int .i64 26, .int .i64 num, .string (S tx), .slice p A.len c] 24)
  have hbx := Bx.new w (.int .i64 26) (.int .i64 num) (.string (S tx)) (.slice p A.len c)
  have HFA0 := Lib.hid (hfa.keep (Kept.of_below hb0))
  have HB0 := Lib.hid hb0
  have HBX := Lib.hid hbx
  have HALL := Lib.hid hA
  clear hb0 hbx hfa hA
  have hki : (A.len : Int) ≤ 281474976710656 := by omega
  go_enter Tryz.func59, Tryz.ntmps59
  go_wp2_with fail
  go_loopw [6, 7, 89] (fun sv mv iv wr => ∃ (i : Nat) (r : F) (Y : List UInt8) (m : Nat) (pr : Option Addr), sv = .string (S Y) ∧ mv = .int .i64 (m : Int) ∧ iv = .int .i64 i ∧ i + r.len = A.len ∧ RtxAll r ∧ FAt wr (fun _ => True) r pr ∧ (∀ g k, pr = some ⟨g, k, none⟩ → r ≠ .nil → ∃ k0, p = some ⟨g, k0, none⟩ ∧ k = k0 + 4 * i) ∧
    [112, 117, 115, 104, 40] ++ commas (txF A) = Y ++ tailL i (txF r) ∧ max m (most (txF r)) = most (txF A) ∧ Below w.heap.size w wr ∧ Bx wr w.heap.size (.int .i64 26) (.int .i64 num) (.string (S tx)) (.slice p A.len c)) (fun _ _ iv _ => A.len - (intOf iv).toNat)
  case atStart => exact ⟨0, A, [112, 117, 115, 104, 40], 0, p, rfl, rfl, rfl, by omega, HALL.out, HFA0.out, fun g k e _ => ⟨k, e, by omega⟩, rfl, Nat.zero_max _, HB0.out, HBX.out⟩
  case round =>
    obtain ⟨i, r, Y, m, pr, rfl, rfl, rfl, hil, hal, hfr, hpr, hY, hm, hb, hx⟩ := hrel
    have q0 := hx.c0
    have q3 := hx.c3
    cases r with
    | nil =>
      have hil2 : i = A.len := by simpa [F.len] using hil
      have hie : ¬ (i : Int) < (A.len : Int) := by omega
      have hYe : [112, 117, 115, 104, 40] ++ commas (txF A) = Y := by rw [hY]; simp [txF, tailL_nil]
      have hme : m = most (txF A) := by rw [← hm]; simp [txF, most]
      have HB := Lib.hid hb
      have hYl : Y.length ≤ 100000100 := by rw [← hYe]; simp; omega
      have ha : ∀ w, (Op.stringOp .add (S Y) ⟨#[41]⟩).run Tryz.prog w = .ok (.string TX) w := fun w => (add_run Y [41] (by simp; omega) w).trans (by rw [HTX.out, hYe])
      have hmi : (m : Int) ≤ 100000 := by omega
      have HCA := Lib.hid (show (m : Int) + 1 = O by rw [HO.out, ← hme]; omega)
      clear hfr hpr hal hY hx hm hYe hme hb
      go_wp2_with fail
      go_ret2
      exact ⟨by rw [← HCA.out]; rfl, HB.out⟩
    | cons op nm tt a r =>
      obtain ⟨g, k, q, cc, rfl, hgk, hgl, f0, f1, f2, f3, hfa, hfr2⟩ := hfr
      obtain ⟨k0, rfl, rfl⟩ := hpr g k rfl (by intro e; cases e)
      have hil2 : i + (r.len + 1) = A.len := by simpa [F.len] using hil
      have hie : (i : Int) < (A.len : Int) := by omega
      rw [show k0 + 4 * i = k0 + i * 4 by omega] at f0 f1 f2 f3
      obtain ⟨x, hxe⟩ : ∃ x, x = T.tx ⟨op, nm, tt, a⟩ := ⟨_, rfl⟩
      have htx : txF (.cons op nm tt a r) = x :: txF r := by rw [hxe]; rfl
      rw [htx] at hY hm
      rw [tailL_cons] at hY
      have hYl : Y.length + (if i = 0 then ([] : List UInt8) else [44, 32]).length + x.text.length ≤ 5 + (commas (txF A)).length := by
        have := congrArg List.length hY
        simp only [List.length_append, List.length_cons, List.length_nil] at this ⊢
        omega
      have HM := Lib.hid (show max (max m x.open_) (most (txF r)) = most (txF A) by
        have : max m (max x.open_ (most (txF r))) = most (txF A) := hm
        omega)
      have hmi : (m : Int) ≤ 100000 := by
        have : max m (max x.open_ (most (txF r))) = most (txF A) := hm
        omega
      have hxi : (x.open_ : Int) ≤ 100000 := by
        have : max m (max x.open_ (most (txF r))) = most (txF A) := hm
        omega
      have HMAX := Lib.hid (show max (m : Int) (x.open_ : Int) = ((max m x.open_ : Nat) : Int) by omega)
      have HC := hal.1 q cc wr hfa
      rw [← hxe] at HC
      have HCALL := Lib.hid HC
      have HFR := Lib.hid hfr2
      have HB := Lib.hid hb
      have HX := Lib.hid hx
      have HAL := Lib.hid hal.2
      by_cases hi0 : i = 0
      · subst hi0
        simp only [Nat.mul_zero, Nat.zero_mul, Nat.add_zero, Nat.zero_add, if_true, List.length_nil] at hil hil2 hY hYl f0 f1 f2 f3 HFR
        have HY := Lib.hid (show [112, 117, 115, 104, 40] ++ commas (txF A) = (Y ++ x.text) ++ tailL 1 (txF r) by rw [hY]; simp)
        have HAD := Lib.hid (fun w => add_run Y x.text (by omega) w)
        have e1 : ((0 : Nat) : Int) = 0 := rfl
        clear HC hal hfa hfr2 hb hx hm hY hYl htx hxe hpr hgk hil
        go_wp2_with fail
        refine HCALL.out.mono ?_
        rintro e w5 ⟨rfl, b5⟩
        have HB5 := Lib.hid (HB.out.trans (b5.mono HB.out.size))
        have HF5 := Lib.hid (HFR.out.keep (Kept.of_below b5))
        have HX5 := Lib.hid (HX.out.keep (Kept.of_below (ok := fun _ => True) b5) trivial)
        have ha := HAD.out
        obtain ⟨R, hR⟩ : ∃ R, R = S (Y ++ x.text) := ⟨_, rfl⟩
        rw [← hR] at ha
        have HR := Lib.hid hR
        clear b5 hR
        go_wp2_with fail
        go_roundw
        case rel => exact ⟨1, r, Y ++ x.text, max m x.open_, some ⟨g, k0 + 4, none⟩, by rw [← HR.out], by rw [← HMAX.out] <;> (try rfl), by go_num, by omega, HAL.out, HF5.out, fun g' k' e _ => by injection e with e; injection e with e1 e2 _; subst e1 e2; exact ⟨k0, rfl, by omega⟩, HY.out, HM.out, HB5.out, HX5.out⟩
        case measure => simp [intOf]; omega
      · have hi1 : (0 : Int) < (i : Int) := by omega
        rw [if_neg hi0] at hY hYl
        simp only [List.length_cons, List.length_nil] at hYl
        have HY := Lib.hid (show [112, 117, 115, 104, 40] ++ commas (txF A) = ((Y ++ [44, 32]) ++ x.text) ++ tailL (i + 1) (txF r) by rw [hY]; simp)
        have HAC := Lib.hid (fun w => add_run Y [44, 32] (by simp; omega) w)
        have HAD := Lib.hid (fun w => add_run (Y ++ [44, 32]) x.text (by simp; omega) w)
        clear HC hal hfa hfr2 hb hx hm hY hYl htx hxe hpr hgk
        go_wp2_with fail
        refine HCALL.out.mono ?_
        rintro e w5 ⟨rfl, b5⟩
        have HB5 := Lib.hid (HB.out.trans (b5.mono HB.out.size))
        have HF5 := Lib.hid (HFR.out.keep (Kept.of_below b5))
        have HX5 := Lib.hid (HX.out.keep (Kept.of_below (ok := fun _ => True) b5) trivial)
        have ha : ∀ w, (Op.stringOp .add (S Y) ⟨#[44, 32]⟩).run Tryz.prog w = .ok (.string (S (Y ++ [44, 32]))) w := HAC.out
        have ha2 := HAD.out
        obtain ⟨R, hR⟩ : ∃ R, R = S (Y ++ [44, 32] ++ x.text) := ⟨_, rfl⟩
        rw [← hR] at ha2
        have HR := Lib.hid hR
        generalize S (Y ++ [44, 32]) = R1 at ha ha2
        clear b5 hR
        go_wp2_with fail
        go_roundw
        case rel => exact ⟨i + 1, r, (Y ++ [44, 32]) ++ x.text, max m x.open_, some ⟨g, k0 + 4 * i + 4, none⟩, by rw [← HR.out], by rw [← HMAX.out] <;> (try rfl), by go_num, by omega, HAL.out, HF5.out, fun g' k' e _ => by injection e with e; injection e with e1 e2 _; subst e1 e2; exact ⟨k0, rfl, by omega⟩, HY.out, HM.out, HB5.out, HX5.out⟩
        case measure => simp [intOf]; omega
end Go.Proofs.YtlmmfhbdebfgkaaGreatDoor.Ex
