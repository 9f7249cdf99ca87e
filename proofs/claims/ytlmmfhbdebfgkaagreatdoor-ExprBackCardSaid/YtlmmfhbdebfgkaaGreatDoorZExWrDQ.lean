/-
  ExWrD, ExWrE.
-/
import Derived.Test.YtlmmfhbdebfgkaaGreatDoorZExChkQ
namespace Go.Proofs.YtlmmfhbdebfgkaaGreatDoor.Ex
open Go.RowKit
open Lx Va
structure Base (w0 : World) (b : Nat) : Prop where
  tab : Tab w0
  cons : ConsAt w0
  le : w0.heap.size ≤ b
def WtC (w0 : World) (b : Nat) (t : T) : Prop := ∀ (l : List UInt8) (o d : Nat) (p : Option Addr) (c : Nat) (w : World), o + t.tx.open_ ≤ 100000 → l.length + t.tx.text.length ≤ 1000000000 → o ≤ d → Wr w b l o d → Below w0.heap.size w0 w → FAt w (Oth w b) t.args p →
  Calls Tryz.prog 22 #[.pointer (some ⟨b, 0, none⟩), .agg #[.int .i64 t.op, .int .i64 t.num, .string (S t.text), .slice p t.args.len c]] w fun e w' => e = .returned (.tuple #[]) ∧ Wr w' b (l ++ t.tx.text) o (max d (o + t.tx.open_) : Nat) ∧ Wk b w w'
def WtAll (w0 : World) (b : Nat) : F → Prop
  | .nil => True
  | .cons o n t a r => WtC w0 b ⟨o, n, t, a⟩ ∧ WtAll w0 b r
def commasT : List Tx → List UInt8
  | [] => []
  | x :: r => [44, 32] ++ x.text ++ commasT r
theorem commas_T : ∀ (x : Tx) (r : List Tx), commas (x :: r) = x.text ++ commasT r
  | x, [] => by simp [commas, commasT]
  | x, y :: r => by
    show x.text ++ [44, 32] ++ commas (y :: r) = x.text ++ ([44, 32] ++ y.text ++ commasT r)
    rw [commas_T y r]; simp
def tailL (i : Nat) (r : List Tx) : List UInt8 := if i = 0 then commas r else commasT r
theorem tailL_cons (i : Nat) (x : Tx) (r : List Tx) : tailL i (x :: r) = (if i = 0 then [] else [44, 32]) ++ x.text ++ tailL (i + 1) r := by
  unfold tailL
  by_cases h : i = 0
  · rw [if_pos h, if_pos h, if_neg (by omega), commas_T]; simp
  · rw [if_neg h, if_neg h, if_neg (by omega)]; rfl
theorem tailL_nil (i : Nat) : tailL i [] = [] := by unfold tailL; split <;> rfl
set_option linter.unusedVariables false
set_option maxRecDepth 100000 in
set_option maxHeartbeats 8000000 in
theorem enclosed_any (w0 : World) (b : Nat) (B : Base w0 b) (bg en : List UInt8) (A : F) (hA : WtAll w0 b A) (hlen : A.len ≤ 281474976710656) (l : List UInt8) (o d : Nat) (p : Option Addr) (c : Nat) (w : World)
    (ho : o + 1 + most (txF A) ≤ 100000) (hl : l.length + bg.length + (commas (txF A)).length + en.length ≤ 1000000000) (hod : o ≤ d) (hW : Wr w b l o d) (h0 : Below w0.heap.size w0 w) (hF : FAt w (Oth w b) A p) :
    Calls Tryz.prog 37 #[.pointer (some ⟨b, 0, none⟩), .string (S bg), .string (S en), .slice p A.len c] w fun e w' => e = .returned (.tuple #[]) ∧ Wr w' b (l ++ bg ++ commas (txF A) ++ en) o (max d (o + 1 + most (txF A)) : Nat) ∧ Wk b w w' := by
  have hblt := hW.lt
  have HE := Lib.hid (enter_any b l o d (by omega) w hW)
  have HF := Lib.hid hF
  have H0 := Lib.hid h0
  have HB := Lib.hid B
  have HALL := Lib.hid hA
  clear hW h0 hF hA
  go_enter Tryz.func37, Tryz.ntmps37
  go_wp2_with fail
  refine HE.out.mono ?_
  rintro e w1 ⟨rfl, hw1, k1⟩
  have HF1 := Lib.hid (FAt.wk k1 HF.out)
  have HK1 := Lib.hid k1
  have HW1 := Lib.hid (wwrite_k b l bg (o + 1 : Nat) (max d (o + 1) : Nat) w1 hw1 (by omega))
  clear hw1 k1
  go_wp2_with fail
  refine HW1.out.mono ?_
  rintro e w2 ⟨rfl, hw2, k2⟩
  have HF2 := Lib.hid (FAt.wk k2 HF1.out)
  have HK2 := Lib.hid (HK1.out.trans k2)
  have HW2 := Lib.hid hw2
  clear hw2 k2
  go_wp2_with fail
  have hki : (A.len : Int) ≤ 281474976710656 := by omega
  have h2b : b < w2.heap.size := HW2.out.lt
  go_loopw [19] (fun iv wr => ∃ (i : Nat) (r : F) (Y : List UInt8) (D : Nat) (pr : Option Addr), iv = .int .i64 i ∧ i + r.len = A.len ∧ WtAll w0 b r ∧ FAt wr (Oth wr b) r pr ∧ (∀ g k, pr = some ⟨g, k, none⟩ → r ≠ .nil → ∃ k0, p = some ⟨g, k0, none⟩ ∧ k = k0 + 4 * i) ∧
    l ++ bg ++ commas (txF A) = Y ++ tailL i (txF r) ∧ Wr wr b Y (o + 1 : Nat) D ∧ o + 1 ≤ D ∧ max D (o + 1 + most (txF r)) = max d (o + 1 + most (txF A)) ∧ most (txF r) ≤ most (txF A) ∧ Wk b w wr) (fun iv _ => A.len - (intOf iv).toNat)
  case atStart => exact ⟨0, A, l ++ bg, max d (o + 1), p, rfl, by omega, HALL.out, HF2.out, fun g k e _ => ⟨k, e, by omega⟩, rfl, HW2.out, by omega, by omega, Nat.le_refl _, HK2.out⟩
  case round =>
    obtain ⟨i, r, Y, D, pr, rfl, hil, hal, hfr, hpr, hY, hw, hD, hmx, hmo, hk⟩ := hrel
    have hbw := hw.lt
    cases r with
    | nil =>
      have hil2 : i = A.len := by simpa [F.len] using hil
      have hie : ¬ (i : Int) < (A.len : Int) := by omega
      have hYe : l ++ bg ++ commas (txF A) = Y := by rw [hY]; simp [txF, tailL_nil]
      have hDe : D = max d (o + 1 + most (txF A)) := by simp [txF, most] at hmx; omega
      have HYE := Lib.hid hYe
      have HDE := Lib.hid hDe
      have hYl : Y.length ≤ l.length + bg.length + (commas (txF A)).length := by rw [← hYe]; simp; omega
      have HWE := Lib.hid (wwrite_k b Y en (o + 1 : Nat) D wr hw (by omega))
      have HK := Lib.hid hk
      clear hfr hpr hal hY hw hk hmx hYe hDe
      go_wp2_with fail
      refine HWE.out.mono ?_
      rintro e w5 ⟨rfl, hw5, k5⟩
      have c2 := hw5.c2
      have f2 := hw5.fz 2
      have HA1 := Lib.hid (show ((o + 1 : Nat) : Int) - 1 = (o : Int) by omega)
      obtain ⟨hW6, hK6⟩ := hw5.set2' (o' := (o : Int))
      have HW6 := Lib.hid hW6
      have HK6 := Lib.hid ((HK.out.trans k5).trans hK6)
      have hoi : ((o + 1 : Nat) : Int) ≤ 100001 := by omega
      have hoj : (0 : Int) ≤ ((o + 1 : Nat) : Int) := by omega
      generalize ((o + 1 : Nat) : Int) = O1 at *
      clear hw5 k5 hW6 hK6
      go_wp2_with fail
      go_end0
      rw [HA1.out, HYE.out, ← HDE.out]
      exact ⟨rfl, HW6.out, HK6.out⟩
    | cons op nm tt a r =>
      obtain ⟨g, k, q, cc, rfl, hgk, hgl, f0, f1, f2, f3, hfa, hfr2⟩ := hfr
      obtain ⟨k0, rfl, rfl⟩ := hpr g k rfl (by intro e; cases e)
      have hil2 : i + (r.len + 1) = A.len := by simpa [F.len] using hil
      have hie : (i : Int) < (A.len : Int) := by omega
      rw [show k0 + 4 * i = k0 + i * 4 by omega] at f0 f1 f2 f3
      obtain ⟨x, hx⟩ : ∃ x, x = T.tx ⟨op, nm, tt, a⟩ := ⟨_, rfl⟩
      have htx : txF (.cons op nm tt a r) = x :: txF r := by rw [hx]; rfl
      rw [htx] at hY hmx
      rw [tailL_cons] at hY
      have hYl : Y.length + (if i = 0 then ([] : List UInt8) else [44, 32]).length + x.text.length ≤ l.length + bg.length + (commas (txF A)).length := by
        have := congrArg List.length hY
        simp only [List.length_append] at this ⊢
        omega
      have hmo2 : max x.open_ (most (txF r)) ≤ most (txF A) := by rw [htx] at hmo; exact hmo
      have hxo : (o + 1) + x.open_ ≤ 100000 := by omega
      have hmo3 : most (txF r) ≤ most (txF A) := by omega
      have HMX := Lib.hid (show max (max D (o + 1 + x.open_)) (o + 1 + most (txF r)) = max d (o + 1 + most (txF A)) by
        have : max D (o + 1 + max x.open_ (most (txF r))) = max d (o + 1 + most (txF A)) := hmx
        omega)
      have ka := Wk.of_below hbw ((Below.refl wr.heap.size wr).alloc (Nat.le_refl _) (.cells #[.int .i64 op, .int .i64 nm, .string (S tt), .slice q a.len cc] 24))
      have hwa := hw.alloc (.cells #[.int .i64 op, .int .i64 nm, .string (S tt), .slice q a.len cc] 24)
      have hFA := FAt.wk ka hfa
      have hFR := FAt.wk ka hfr2
      have hKA := hk.trans ka
      have HAL := Lib.hid hal
      have HMO := Lib.hid hmo3
      by_cases hi0 : i = 0
      · subst hi0
        simp only [Nat.mul_zero, Nat.zero_mul, Nat.add_zero, Nat.zero_add, if_true, List.length_nil] at hil hil2 hY hYl f0 f1 f2 f3 hFR
        have HY := Lib.hid (show l ++ bg ++ commas (txF A) = (Y ++ x.text) ++ tailL 1 (txF r) by rw [hY]; simp)
        have hcall := hal.1 Y (o + 1) D q cc _ (by rw [← hx]; exact hxo) (by rw [← hx]; omega) hD hwa (H0.out.trans (hKA.below.mono HB.out.le)) hFA
        rw [← hx] at hcall
        have HCALL := Lib.hid hcall
        have HFR := Lib.hid hFR
        have HKA := Lib.hid hKA
        clear hcall hFA hFR hKA hY hw hwa hk ka hal hfa hfr2 hmx hmo hmo2 hmo3 hxo htx hx HF HF1 HF2
        go_wp2_with fail
        refine HCALL.out.mono ?_
        rintro e w5 ⟨rfl, hw5, k5⟩
        have HW5 := Lib.hid hw5
        have HF5 := Lib.hid (FAt.wk k5 HFR.out)
        have HK5 := Lib.hid (HKA.out.trans k5)
        clear hw5 k5
        go_wp2_with fail
        go_roundw
        case rel => exact ⟨1, r, Y ++ x.text, max D (o + 1 + x.open_), some ⟨g, k0 + 4, none⟩, by go_num, by omega, HAL.out.2, HF5.out, fun g' k' e _ => by injection e with e; injection e with e1 e2 _; subst e1 e2; exact ⟨k0, rfl, by omega⟩, HY.out, HW5.out, by omega, HMX.out, HMO.out, HK5.out⟩
        case measure => simp [intOf]; omega
      · have hi1 : (0 : Int) < (i : Int) := by omega
        rw [if_neg hi0] at hY hYl
        simp only [List.length_cons, List.length_nil] at hYl
        have HWS := Lib.hid (wwrite_k b Y [44, 32] (o + 1 : Nat) D _ hwa (by simp; omega))
        have HY := Lib.hid (show l ++ bg ++ commas (txF A) = ((Y ++ [44, 32]) ++ x.text) ++ tailL (i + 1) (txF r) by rw [hY]; simp)
        have hYl2 : (Y ++ [44, 32]).length + x.text.length ≤ 1000000000 := by simp; omega
        have HCX := Lib.hid (fun w2 (W : Wr w2 b (Y ++ [44, 32]) (o + 1 : Nat) D) (k0 : Below w0.heap.size w0 w2) (f : FAt w2 (Oth w2 b) a q) => hal.1 (Y ++ [44, 32]) (o + 1) D q cc w2 (by rw [← hx]; exact hxo) (by rw [← hx]; exact hYl2) hD W k0 f)
        rw [← hx] at HCX
        have HFR0 := Lib.hid hFR
        have HFA0 := Lib.hid hFA
        have HKA0 := Lib.hid hKA
        have hb1 := Bx.new wr (.int .i64 op) (.int .i64 nm) (.string (S tt)) (.slice q a.len cc)
        have HBX := Lib.hid hb1
        have HOT := Lib.hid (Oth.new hw (.cells #[.int .i64 op, .int .i64 nm, .string (S tt), .slice q a.len cc] 24))
        clear hb1 hFA hFR hKA hY hw hwa hk ka hal hfa hfr2 hmx hmo hmo2 hmo3 hxo htx hx HF HF1 HF2
        go_wp2_with fail
        refine HWS.out.mono ?_
        rintro e w4 ⟨rfl, hw4, k4⟩
        obtain ⟨e4, _⟩ := k4.block wr.heap.size (by simp) HOT.out
        have hx4 : Bx w4 wr.heap.size (.int .i64 op) (.int .i64 nm) (.string (S tt)) (.slice q a.len cc) := e4.trans HBX.out
        have p0 := hx4.c0
        have p1 := hx4.c1
        have p2 := hx4.c2
        have p3 := hx4.c3
        have HKA := Lib.hid (HKA0.out.trans k4)
        have HFR := Lib.hid (FAt.wk k4 HFR0.out)
        have HCALL := Lib.hid (HCX.out w4 hw4 (H0.out.trans (HKA.out.below.mono HB.out.le)) (FAt.wk k4 HFA0.out))
        clear hw4 k4 hx4 e4
        go_wp2_with fail
        refine HCALL.out.mono ?_
        rintro e w5 ⟨rfl, hw5, k5⟩
        have HW5 := Lib.hid hw5
        have HF5 := Lib.hid (FAt.wk k5 HFR.out)
        have HK5 := Lib.hid (HKA.out.trans k5)
        clear hw5 k5
        go_wp2_with fail
        go_roundw
        case rel => exact ⟨i + 1, r, (Y ++ [44, 32]) ++ x.text, max D (o + 1 + x.open_), some ⟨g, k0 + 4 * i + 4, none⟩, by go_num, by omega, HAL.out.2, HF5.out, fun g' k' e _ => by injection e with e; injection e with e1 e2 _; subst e1 e2; exact ⟨k0, rfl, by omega⟩, HY.out, HW5.out, by omega, HMX.out, HMO.out, HK5.out⟩
        case measure => simp [intOf]; omega
end Go.Proofs.YtlmmfhbdebfgkaaGreatDoor.Ex
namespace Go.Proofs.YtlmmfhbdebfgkaaGreatDoor.Ex
open Go.RowKit
open Lx Va
theorem Base.consAt {w0 w : World} {b : Nat} (B : Base w0 b) (h : Below w0.heap.size w0 w) : ConsAt w := B.cons.keep (Kept.of_below (ok := fun _ => True) h) trivial
theorem Base.tabAt {w0 w : World} {b : Nat} (B : Base w0 b) (h : Below w0.heap.size w0 w) : Tab w := B.tab.below h
set_option linter.unusedVariables false
set_option maxRecDepth 100000 in
set_option maxHeartbeats 8000000 in
theorem operand_any (w0 : World) (b : Nat) (B : Base w0 b) (t : T) (ht : WtC w0 b t) (hlen : t.args.len ≤ 281474976710656) (lev : Nat) (l : List UInt8) (o d : Nat) (p : Option Addr) (c : Nat) (w : World)
    (ho : o + (t.tx.within lev).2 ≤ 100000) (hl : l.length + (t.tx.within lev).1.length ≤ 1000000000) (hod : o ≤ d) (hW : Wr w b l o d) (h0 : Below w0.heap.size w0 w) (hF : FAt w (Oth w b) t.args p) :
    Calls Tryz.prog 41 #[.pointer (some ⟨b, 0, none⟩), .agg #[.int .i64 t.op, .int .i64 t.num, .string (S t.text), .slice p t.args.len c], .int .i64 lev] w fun e w' => e = .returned (.tuple #[]) ∧ Wr w' b (l ++ (t.tx.within lev).1) o (max d (o + (t.tx.within lev).2) : Nat) ∧ Wk b w w' := by
  have hlt := hW.lt
  have ka := Wk.of_below hlt ((Below.refl w.heap.size w).alloc (Nat.le_refl _) (.cells #[.int .i64 t.op, .int .i64 t.num, .string (S t.text), .slice p t.args.len c] 24))
  have hwa := hW.alloc (.cells #[.int .i64 t.op, .int .i64 t.num, .string (S t.text), .slice p t.args.len c] 24)
  have hoa := Oth.new hW (.cells #[.int .i64 t.op, .int .i64 t.num, .string (S t.text), .slice p t.args.len c] 24)
  have hfa := FAt.wk ka hF
  have h0a := h0.trans (ka.below.mono B.le)
  have HLV := Lib.hid (levelOf_any t.op _ (B.consAt h0a))
  have hbx := Bx.new w (.int .i64 t.op) (.int .i64 t.num) (.string (S t.text)) (.slice p t.args.len c)
  have hop : t.tx.op = t.op := by
    unfold T.tx nodeTx
    repeat' split
    all_goals rfl
  have HKA := Lib.hid ka
  have HWA := Lib.hid hwa
  have HFA := Lib.hid hfa
  have H0A := Lib.hid h0a
  have HBX := Lib.hid hbx
  have HT := Lib.hid ht
  have HB := Lib.hid B
  clear hW hF ht ka hwa hfa h0a hbx
  by_cases hb : bound t.op < lev
  · have hwi : t.tx.within lev = ([40] ++ t.tx.text ++ [41], t.tx.open_ + 1) := by unfold Tx.within; rw [hop, if_pos hb]
    rw [hwi] at ho hl ⊢
    simp only at ho hl ⊢
    have hbi : (bound t.op : Int) < (lev : Int) := by omega
    go_enter Tryz.func41, Tryz.ntmps41
    go_wp2_with fail
    refine HLV.out.mono ?_
    rintro e w1 ⟨rfl, b1⟩
    have hx1 := HBX.out.keep (Kept.of_below (ok := fun _ => True) b1) trivial
    have p0 := hx1.c0
    have p1 := hx1.c1
    have p2 := hx1.c2
    have p3 := hx1.c3
    have k1 := Wk.of_below HWA.out.lt b1
    have hw1 := HWA.out.below b1
    have k2 := Wk.of_below hw1.lt ((Below.refl w1.heap.size w1).alloc (Nat.le_refl _) (.cells #[.int .i64 t.op, .int .i64 t.num, .string (S t.text), .slice p t.args.len c] 24))
    have hw2 := hw1.alloc (.cells #[.int .i64 t.op, .int .i64 t.num, .string (S t.text), .slice p t.args.len c] 24)
    have hy := Bx.new w1 (.int .i64 t.op) (.int .i64 t.num) (.string (S t.text)) (.slice p t.args.len c)
    have hf2 := FAt.wk k2 (FAt.wk k1 HFA.out)
    have hrow : FAt (w1.alloc (.cells #[.int .i64 t.op, .int .i64 t.num, .string (S t.text), .slice p t.args.len c] 24)) (Oth (w1.alloc (.cells #[.int .i64 t.op, .int .i64 t.num, .string (S t.text), .slice p t.args.len c] 24)) b) (.cons t.op t.num t.text t.args .nil) (some ⟨w1.heap.size, 0, none⟩) :=
      ⟨w1.heap.size, 0, p, c, rfl, Oth.new hw1 _, hy.lt, hy.c0, hy.c1, hy.c2, hy.c3, hf2, trivial⟩
    have HKB := Lib.hid ((HKA.out.trans k1).trans k2)
    have hmost : most (txF (.cons t.op t.num t.text t.args .nil)) = t.tx.open_ := Nat.max_eq_left (Nat.zero_le _)
    have hcomm : commas (txF (.cons t.op t.num t.text t.args .nil)) = t.tx.text := rfl
    have hl2 : l.length + [(40 : UInt8)].length + t.tx.text.length + [(41 : UInt8)].length ≤ 1000000000 := by simp at hl ⊢; omega
    have hc := enclosed_any w0 b HB.out [40] [41] (.cons t.op t.num t.text t.args .nil) ⟨HT.out, trivial⟩ (by simp [F.len]) l o d (some ⟨w1.heap.size, 0, none⟩) 1 _ (by rw [hmost]; omega) (by rw [hcomm]; exact hl2) hod hw2 (H0A.out.trans ((k1.trans k2).below.mono HB.out.le)) hrow
    rw [hmost, hcomm] at hc
    have HC := Lib.hid hc
    clear hc hrow hf2 hy hw2 k2 k1 hw1 hx1 b1 HT HFA HBX
    go_wp2_with fail
    refine HC.out.mono ?_
    rintro e w2 ⟨rfl, hw2, k2⟩
    have HW2 := Lib.hid hw2
    have HK2 := Lib.hid (HKB.out.trans k2)
    clear hw2 k2
    go_wp2_with fail
    try simp only [Exit.inBlock, Exit.then]
    refine bodyPost_ret (results_none rfl _ _ _) rfl ?_
    refine ⟨rfl, ?_, HK2.out⟩
    have hfin := HW2.out
    rw [show o + 1 + t.tx.open_ = o + (t.tx.open_ + 1) by omega] at hfin
    simpa using hfin
  · have hwi : t.tx.within lev = (t.tx.text, t.tx.open_) := by unfold Tx.within; rw [hop, if_neg hb]
    rw [hwi] at ho hl ⊢
    simp only at ho hl ⊢
    have hbi : ¬ (bound t.op : Int) < (lev : Int) := by omega
    go_enter Tryz.func41, Tryz.ntmps41
    go_wp2_with fail
    refine HLV.out.mono ?_
    rintro e w1 ⟨rfl, b1⟩
    have hx1 := HBX.out.keep (Kept.of_below (ok := fun _ => True) b1) trivial
    have k1 := Wk.of_below HWA.out.lt b1
    have p0 := hx1.c0
    have p1 := hx1.c1
    have p2 := hx1.c2
    have p3 := hx1.c3
    have HC := Lib.hid (HT.out l o d p c w1 (by omega) (by omega) hod (HWA.out.below b1) (H0A.out.trans (k1.below.mono HB.out.le)) (FAt.wk k1 HFA.out))
    have HK1 := Lib.hid (HKA.out.trans k1)
    clear k1 hx1 b1
    go_wp2_with fail
    refine HC.out.mono ?_
    rintro e w2 ⟨rfl, hw2, k2⟩
    have HW2 := Lib.hid hw2
    have HK2 := Lib.hid (HK1.out.trans k2)
    clear hw2 k2
    go_wp2_with fail
    go_end0
    exact ⟨rfl, HW2.out, HK2.out⟩
end Go.Proofs.YtlmmfhbdebfgkaaGreatDoor.Ex
