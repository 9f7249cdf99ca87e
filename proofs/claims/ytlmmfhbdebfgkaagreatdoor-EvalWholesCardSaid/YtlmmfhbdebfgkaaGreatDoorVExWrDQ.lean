/-
  ExWrD, ExTxA, ExWrE, ExWrF.
-/
import Derived.Test.YtlmmfhbdebfgkaaGreatDoorVExChkQ
import Derived.Test.YtlmmfhbdebfgkaaGreatDoorVVaPrintBQ
set_option linter.unusedVariables false
set_option linter.unusedSimpArgs false
set_option maxRecDepth 100000
set_option maxHeartbeats 8000000
namespace Go.Proofs.YtlmmfhbdebfgkaaGreatDoor.Ex
open Go.RowKit
open Lx Va
structure Base (w0 : World) (b : Nat) : Prop where
  tab : Tab w0
  cons : ConsAt w0
  le : w0.heap.size ≤ b
def WtC (w0 : World) (b : Nat) (t : T) : Prop := ∀ (l : List UInt8) (o d : Nat) (p : Option Addr) (c : Nat) (w : World), o + t.tx.open_ ≤ 100000 → l.length + t.tx.text.length ≤ 1000000000 → o ≤ d → Wr w b l o d → Below w0.heap.size w0 w → FAt w (Oth w b) t.args p →
  Calls Tryz.prog 22 #[.pointer (some ⟨b, 0, none⟩), .agg #[.int .i64 t.op, .int .i64 t.num, .string (S t.text), .slice p t.args.len c]] w fun e w' => e = .returned (.tuple #[]) ∧ Wr w' b (l ++ t.tx.text) o (max d (o + t.tx.open_) : Nat) ∧ Wk b w w'
def WtAll (w0 : World) (b : Nat) : F → Prop
  | .nil => True
  | .cons o n t a r => WtC w0 b ⟨o, n, t, a⟩ ∧ WtAll w0 b r
def commasT : List Tx → List UInt8
  | [] => []
  | x :: r => [44, 32] ++ x.text ++ commasT r
theorem commas_T : ∀ (x : Tx) (r : List Tx), commas (x :: r) = x.text ++ commasT r
  | x, [] => by simp [commas, commasT]
  | x, y :: r => by
    show x.text ++ [44, 32] ++ commas (y :: r) = x.text ++ ([44, 32] ++ y.text ++ commasT r)
    rw [commas_T y r]; simp
def tailL (i : Nat) (r : List Tx) : List UInt8 := if i = 0 then commas r else commasT r
theorem tailL_cons (i : Nat) (x : Tx) (r : List Tx) : tailL i (x :: r) = (if i = 0 then [] else [44, 32]) ++ x.text ++ tailL (i + 1) r := by
  unfold tailL
  by_cases h : i = 0
  · rw [if_pos h, if_pos h, if_neg (by omega), commas_T]; simp
  · rw [if_neg h, if_neg h, if_neg (by omega)]; rfl
theorem tailL_nil (i : Nat) : tailL i [] = [] := by unfold tailL; split <;> rfl
theorem enclosed_any (w0 : World) (b : Nat) (B : Base w0 b) (bg en : List UInt8) (A : F) (hA : WtAll w0 b A) (hlen : A.len ≤ 281474976710656) (l : List UInt8) (o d : Nat) (p : Option Addr) (c : Nat) (w : World)
    (ho : o + 1 + most (txF A) ≤ 100000) (hl : l.length + bg.length + (commas (txF A)).length + en.length ≤ 1000000000) (hod : o ≤ d) (hW : Wr w b l o d) (h0 : Below w0.heap.size w0 w) (hF : FAt w (Oth w b) A p) :
    Calls Tryz.prog 37 #[.pointer (some ⟨b, 0, none⟩), .string (S bg), .string (S en), .slice p A.len c] w fun e w' => e = .returned (.tuple #[]) ∧ Wr w' b (l ++ bg ++ commas (txF A) ++ en) o (max d (o + 1 + most (txF A)) : Nat) ∧ Wk b w w' := by
  have hblt := hW.lt
  have HE := Lib.hid (enter_any b l o d (by omega) w hW)
  have HF := Lib.hid hF
  have H0 := Lib.hid h0
  have HB := Lib.hid B
  have HALL := Lib.hid hA
  clear hW h0 hF hA
  go_enter Tryz.func37, Tryz.ntmps37
  go_wp2_with fail
  refine HE.out.mono ?_
  rintro e w1 ⟨rfl, hw1, k1⟩
  have HF1 := Lib.hid (FAt.wk k1 HF.out)
  have HK1 := Lib.hid k1
  have HW1 := Lib.hid (wwrite_k b l bg (o + 1 : Nat) (max d (o + 1) : Nat) w1 hw1 (by omega))
  clear hw1 k1
  go_wp2_with fail
  refine HW1.out.mono ?_
  rintro e w2 ⟨rfl, hw2, k2⟩
  have HF2 := Lib.hid (FAt.wk k2 HF1.out)
  have HK2 := Lib.hid (HK1.out.trans k2)
  have HW2 := Lib.hid hw2
  clear hw2 k2
  go_wp2_with fail
  have hki : (A.len : Int) ≤ 281474976710656 := by omega
  have h2b : b < w2.heap.size := HW2.out.lt
  go_loopw [19] (fun iv wr => ∃ (i : Nat) (r : F) (Y : List UInt8) (D : Nat) (pr : Option Addr), iv = .int .i64 i ∧ i + r.len = A.len ∧ WtAll w0 b r ∧ FAt wr (Oth wr b) r pr ∧ (∀ g k, pr = some ⟨g, k, none⟩ → r ≠ .nil → ∃ k0, p = some ⟨g, k0, none⟩ ∧ k = k0 + 4 * i) ∧
    l ++ bg ++ commas (txF A) = Y ++ tailL i (txF r) ∧ Wr wr b Y (o + 1 : Nat) D ∧ o + 1 ≤ D ∧ max D (o + 1 + most (txF r)) = max d (o + 1 + most (txF A)) ∧ most (txF r) ≤ most (txF A) ∧ Wk b w wr) (fun iv _ => A.len - (intOf iv).toNat)
  case atStart => exact ⟨0, A, l ++ bg, max d (o + 1), p, rfl, by omega, HALL.out, HF2.out, fun g k e _ => ⟨k, e, by omega⟩, rfl, HW2.out, by omega, by omega, Nat.le_refl _, HK2.out⟩
  case round =>
    obtain ⟨i, r, Y, D, pr, rfl, hil, hal, hfr, hpr, hY, hw, hD, hmx, hmo, hk⟩ := hrel
    have hbw := hw.lt
    cases r with
    | nil =>
      have hil2 : i = A.len := by simpa [F.len] using hil
      have hie : ¬ (i : Int) < (A.len : Int) := by omega
      have hYe : l ++ bg ++ commas (txF A) = Y := by rw [hY]; simp [txF, tailL_nil]
      have hDe : D = max d (o + 1 + most (txF A)) := by simp [txF, most] at hmx; omega
      have HYE := Lib.hid hYe
      have HDE := Lib.hid hDe
      have hYl : Y.length ≤ l.length + bg.length + (commas (txF A)).length := by rw [← hYe]; simp; omega
      have HWE := Lib.hid (wwrite_k b Y en (o + 1 : Nat) D wr hw (by omega))
      have HK := Lib.hid hk
      clear hfr hpr hal hY hw hk hmx hYe hDe
      go_wp2_with fail
      refine HWE.out.mono ?_
      rintro e w5 ⟨rfl, hw5, k5⟩
      have c2 := hw5.c2
      have f2 := hw5.fz 2
      have HA1 := Lib.hid (show ((o + 1 : Nat) : Int) - 1 = (o : Int) by omega)
      obtain ⟨hW6, hK6⟩ := hw5.set2' (o' := (o : Int))
      have HW6 := Lib.hid hW6
      have HK6 := Lib.hid ((HK.out.trans k5).trans hK6)
      have hoi : ((o + 1 : Nat) : Int) ≤ 100001 := by omega
      have hoj : (0 : Int) ≤ ((o + 1 : Nat) : Int) := by omega
      generalize ((o + 1 : Nat) : Int) = O1 at *
      clear hw5 k5 hW6 hK6
      go_wp2_with fail
      go_end0
      rw [HA1.out, HYE.out, ← HDE.out]
      exact ⟨rfl, HW6.out, HK6.out⟩
    | cons op nm tt a r =>
      obtain ⟨g, k, q, cc, rfl, hgk, hgl, f0, f1, f2, f3, hfa, hfr2⟩ := hfr
      obtain ⟨k0, rfl, rfl⟩ := hpr g k rfl (by intro e; cases e)
      have hil2 : i + (r.len + 1) = A.len := by simpa [F.len] using hil
      have hie : (i : Int) < (A.len : Int) := by omega
      rw [show k0 + 4 * i = k0 + i * 4 by omega] at f0 f1 f2 f3
      obtain ⟨x, hx⟩ : ∃ x, x = T.tx ⟨op, nm, tt, a⟩ := ⟨_, rfl⟩
      have htx : txF (.cons op nm tt a r) = x :: txF r := by rw [hx]; rfl
      rw [htx] at hY hmx
      rw [tailL_cons] at hY
      have hYl : Y.length + (if i = 0 then ([] : List UInt8) else [44, 32]).length + x.text.length ≤ l.length + bg.length + (commas (txF A)).length := by
        have := congrArg List.length hY
        simp only [List.length_append] at this ⊢
        omega
      have hmo2 : max x.open_ (most (txF r)) ≤ most (txF A) := by rw [htx] at hmo; exact hmo
      have hxo : (o + 1) + x.open_ ≤ 100000 := by omega
      have hmo3 : most (txF r) ≤ most (txF A) := by omega
      have HMX := Lib.hid (show max (max D (o + 1 + x.open_)) (o + 1 + most (txF r)) = max d (o + 1 + most (txF A)) by
        have : max D (o + 1 + max x.open_ (most (txF r))) = max d (o + 1 + most (txF A)) := hmx
        omega)
      have ka := Wk.of_below hbw ((Below.refl wr.heap.size wr).alloc (Nat.le_refl _) (.cells #[.int .i64 op, .int .i64 nm, .string (S tt), .slice q a.len cc] 24))
      have hwa := hw.alloc (.cells #[.int .i64 op, .int .i64 nm, .string (S tt), .slice q a.len cc] 24)
      have hFA := FAt.wk ka hfa
      have hFR := FAt.wk ka hfr2
      have hKA := hk.trans ka
      have HAL := Lib.hid hal
      have HMO := Lib.hid hmo3
      by_cases hi0 : i = 0
      · subst hi0
        simp only [Nat.mul_zero, Nat.zero_mul, Nat.add_zero, Nat.zero_add, if_true, List.length_nil] at hil hil2 hY hYl f0 f1 f2 f3 hFR
        have HY := Lib.hid (show l ++ bg ++ commas (txF A) = (Y ++ x.text) ++ tailL 1 (txF r) by rw [hY]; simp)
        have hcall := hal.1 Y (o + 1) D q cc _ (by rw [← hx]; exact hxo) (by rw [← hx]; omega) hD hwa (H0.out.trans (hKA.below.mono HB.out.le)) hFA
        rw [← hx] at hcall
        have HCALL := Lib.hid hcall
        have HFR := Lib.hid hFR
        have HKA := Lib.hid hKA
        clear hcall hFA hFR hKA hY hw hwa hk ka hal hfa hfr2 hmx hmo hmo2 hmo3 hxo htx hx HF HF1 HF2
        go_wp2_with fail
        refine HCALL.out.mono ?_
        rintro e w5 ⟨rfl, hw5, k5⟩
        have HW5 := Lib.hid hw5
        have HF5 := Lib.hid (FAt.wk k5 HFR.out)
        have HK5 := Lib.hid (HKA.out.trans k5)
        clear hw5 k5
        go_wp2_with fail
        go_roundw
        case rel => exact ⟨1, r, Y ++ x.text, max D (o + 1 + x.open_), some ⟨g, k0 + 4, none⟩, by go_num, by omega, HAL.out.2, HF5.out, fun g' k' e _ => by injection e with e; injection e with e1 e2 _; subst e1 e2; exact ⟨k0, rfl, by omega⟩, HY.out, HW5.out, by omega, HMX.out, HMO.out, HK5.out⟩
        case measure => simp [intOf]; omega
      · have hi1 : (0 : Int) < (i : Int) := by omega
        rw [if_neg hi0] at hY hYl
        simp only [List.length_cons, List.length_nil] at hYl
        have HWS := Lib.hid (wwrite_k b Y [44, 32] (o + 1 : Nat) D _ hwa (by simp; omega))
        have HY := Lib.hid (show l ++ bg ++ commas (txF A) = ((Y ++ [44, 32]) ++ x.text) ++ tailL (i + 1) (txF r) by rw [hY]; simp)
        have hYl2 : (Y ++ [44, 32]).length + x.text.length ≤ 1000000000 := by simp; omega
        have HCX := Lib.hid (fun w2 (W : Wr w2 b (Y ++ [44, 32]) (o + 1 : Nat) D) (k0 : Below w0.heap.size w0 w2) (f : FAt w2 (Oth w2 b) a q) => hal.1 (Y ++ [44, 32]) (o + 1) D q cc w2 (by rw [← hx]; exact hxo) (by rw [← hx]; exact hYl2) hD W k0 f)
        rw [← hx] at HCX
        have HFR0 := Lib.hid hFR
        have HFA0 := Lib.hid hFA
        have HKA0 := Lib.hid hKA
        have hb1 := Bx.new wr (.int .i64 op) (.int .i64 nm) (.string (S tt)) (.slice q a.len cc)
        have HBX := Lib.hid hb1
        have HOT := Lib.hid (Oth.new hw (.cells #[.int .i64 op, .int .i64 nm, .string (S tt), .slice q a.len cc] 24))
        clear hb1 hFA hFR hKA hY hw hwa hk ka hal hfa hfr2 hmx hmo hmo2 hmo3 hxo htx hx HF HF1 HF2
        go_wp2_with fail
        refine HWS.out.mono ?_
        rintro e w4 ⟨rfl, hw4, k4⟩
        obtain ⟨e4, _⟩ := k4.block wr.heap.size (by simp) HOT.out
        have hx4 : Bx w4 wr.heap.size (.int .i64 op) (.int .i64 nm) (.string (S tt)) (.slice q a.len cc) := e4.trans HBX.out
        have p0 := hx4.c0
        have p1 := hx4.c1
        have p2 := hx4.c2
        have p3 := hx4.c3
        have HKA := Lib.hid (HKA0.out.trans k4)
        have HFR := Lib.hid (FAt.wk k4 HFR0.out)
        have HCALL := Lib.hid (HCX.out w4 hw4 (H0.out.trans (HKA.out.below.mono HB.out.le)) (FAt.wk k4 HFA0.out))
        clear hw4 k4 hx4 e4
        go_wp2_with fail
        refine HCALL.out.mono ?_
        rintro e w5 ⟨rfl, hw5, k5⟩
        have HW5 := Lib.hid hw5
        have HF5 := Lib.hid (FAt.wk k5 HFR.out)
        have HK5 := Lib.hid (HKA.out.trans k5)
        clear hw5 k5
        go_wp2_with fail
        go_roundw
        case rel => exact ⟨i + 1, r, (Y ++ [44, 32]) ++ x.text, max D (o + 1 + x.open_), some ⟨g, k0 + 4 * i + 4, none⟩, by go_num, by omega, HAL.out.2, HF5.out, fun g' k' e _ => by injection e with e; injection e with e1 e2 _; subst e1 e2; exact ⟨k0, rfl, by omega⟩, HY.out, HW5.out, by omega, HMX.out, HMO.out, HK5.out⟩
        case measure => simp [intOf]; omega
end Go.Proofs.YtlmmfhbdebfgkaaGreatDoor.Ex
namespace Go.Proofs.YtlmmfhbdebfgkaaGreatDoor.Ex
open Go.RowKit
open Lx
theorem rbound_any (o : Int) (w : World) : Calls Tryz.prog 103 #[.int .i64 o] w fun e w' => e = .returned (.int .i64 (bound o : Int)) ∧ w = w' := by
  go_enter Tryz.func103, Tryz.ntmps103
  go_wp2_with fail
  all_goals (go_ret; refine ⟨congrArg (fun x => Ending.returned (Value.int .i64 x)) ?_, rfl⟩; unfold bound)
  all_goals (try simp only [beq_iff_eq, beq_eq_false_iff_ne, ne_eq] at *)
  all_goals (repeat' split)
  all_goals (first | rfl | omega | simp_all)
theorem rsign_any (o : Int) (w : World) : Calls Tryz.prog 104 #[.int .i64 o] w fun e w' => e = .returned (.string (S (signL o))) ∧ w = w' := by
  go_enter Tryz.func104, Tryz.ntmps104
  go_wp2_with fail
  all_goals (go_ret; refine ⟨congrArg (fun x => Ending.returned (Value.string x)) ?_, rfl⟩; unfold signL)
  all_goals (try simp only [beq_iff_eq, beq_eq_false_iff_ne, ne_eq] at *)
  all_goals (repeat' split)
  all_goals (first | rfl | omega | simp_all)
def RtxC (t : T) : Prop := ∀ (p : Option Addr) (c : Nat) (w : World), FAt w (fun _ => True) t.args p →
  Calls Tryz.prog 59 #[.agg #[.int .i64 t.op, .int .i64 t.num, .string (S t.text), .slice p t.args.len c]] w fun e w' => e = .returned (.tuple #[.string (S t.tx.text), .int .i64 (t.tx.open_ : Int)]) ∧ Below w.heap.size w w'
def RtxAll : F → Prop
  | .nil => True
  | .cons o n t a r => RtxC ⟨o, n, t, a⟩ ∧ RtxAll r
theorem tx_op (t : T) : t.tx.op = t.op := by
  unfold T.tx nodeTx
  repeat' split
  all_goals rfl
theorem add_run (a b : List UInt8) (h : a.length + b.length ≤ 1000000000) (w : World) : (Op.stringOp .add (S a) (S b)).run Tryz.prog w = .ok (.string (S (a ++ b))) w := by
  rw [run_string_add_sum w _ _ (by rw [S_size, S_size]; omega)]
  exact congrArg (fun x => Result.ok (Value.string x) w) (S_append a b)
theorem rwithin_any (t : T) (ht : RtxC t) (hl : t.tx.text.length ≤ 100000) (ho : t.tx.open_ ≤ 100000) (lev : Nat) (hlev : lev ≤ 10) (p : Option Addr) (c : Nat) (w : World) (hfa : FAt w (fun _ => True) t.args p) :
    Calls Tryz.prog 102 #[.agg #[.int .i64 t.op, .int .i64 t.num, .string (S t.text), .slice p t.args.len c], .int .i64 (lev : Int)] w fun e w' => e = .returned (.tuple #[.string (S (t.tx.within lev).1), .int .i64 ((t.tx.within lev).2 : Int)]) ∧ Below w.heap.size w w' := by
  have hb0 := (Below.refl w.heap.size w).alloc (Nat.le_refl _) (.cells #[.int .i64 t.op, .int .i64 t.num, .string (S t.text), .slice p t.args.len c] 24)
  have hbx := Bx.new w (.int .i64 t.op) (.int .i64 t.num) (.string (S t.text)) (.slice p t.args.len c)
  have HC := Lib.hid (ht p c _ (hfa.keep (Kept.of_below hb0)))
  have HB0 := Lib.hid hb0
  have HBX := Lib.hid hbx
  have HBD := Lib.hid (fun wr => rbound_any t.op wr)
  have HA1 := Lib.hid (fun w => add_run [40] t.tx.text (by simp; omega) w)
  have HA2 := Lib.hid (fun w => add_run ([40] ++ t.tx.text) [41] (by simp; omega) w)
  have HWI := Lib.hid (show t.tx.within lev = if bound t.op < lev then ([40] ++ t.tx.text ++ [41], t.tx.open_ + 1) else (t.tx.text, t.tx.open_) by unfold Tx.within; rw [tx_op])
  have HCA := Lib.hid (show (t.tx.open_ : Int) + 1 = ((t.tx.open_ + 1 : Nat) : Int) by omega)
  have hoi : (t.tx.open_ : Int) ≤ 100000 := by omega
  clear hb0 hbx hfa ht
  by_cases hb : bound t.op < lev
  · have hbi : (bound t.op : Int) < (lev : Int) := by omega
    have HW := Lib.hid (HWI.out.trans (if_pos hb))
    have ha1 : ∀ w, (Op.stringOp .add ⟨#[40]⟩ (S t.tx.text)).run Tryz.prog w = .ok (.string (S ([40] ++ t.tx.text))) w := HA1.out
    have ha2 : ∀ w, (Op.stringOp .add (S ([40] ++ t.tx.text)) ⟨#[41]⟩).run Tryz.prog w = .ok (.string (S ([40] ++ t.tx.text ++ [41]))) w := HA2.out
    generalize S ([40] ++ t.tx.text) = S1 at *
    generalize hS2 : S ([40] ++ t.tx.text ++ [41]) = S2 at *
    clear hb
    go_enter Tryz.func102, Tryz.ntmps102
    go_wp2_with fail
    refine HC.out.mono ?_
    rintro e w1 ⟨rfl, b1⟩
    have HB1 := Lib.hid (HB0.out.trans (b1.mono HB0.out.size))
    have hx1 := HBX.out.keep (Kept.of_below (ok := fun _ => True) b1) trivial
    have q0 := hx1.c0
    clear b1 hx1
    go_wp2_with fail
    refine (HBD.out _).mono ?_
    rintro e w2 ⟨rfl, rfl⟩
    go_wp2_with fail
    go_ret2
    rw [HW.out]
    exact ⟨by rw [← hS2, ← HCA.out]; rfl, HB1.out⟩
  · have hbi : ¬ (bound t.op : Int) < (lev : Int) := by omega
    have HW := Lib.hid (HWI.out.trans (if_neg hb))
    clear hb
    go_enter Tryz.func102, Tryz.ntmps102
    go_wp2_with fail
    refine HC.out.mono ?_
    rintro e w1 ⟨rfl, b1⟩
    have HB1 := Lib.hid (HB0.out.trans (b1.mono HB0.out.size))
    have hx1 := HBX.out.keep (Kept.of_below (ok := fun _ => True) b1) trivial
    have q0 := hx1.c0
    clear b1 hx1
    go_wp2_with fail
    refine (HBD.out _).mono ?_
    rintro e w2 ⟨rfl, rfl⟩
    go_wp2_with fail
    go_ret2
    rw [HW.out]
    exact ⟨rfl, HB1.out⟩
end Go.Proofs.YtlmmfhbdebfgkaaGreatDoor.Ex
namespace Go.Proofs.YtlmmfhbdebfgkaaGreatDoor.Ex
open Go.RowKit
open Lx Va
theorem Base.consAt {w0 w : World} {b : Nat} (B : Base w0 b) (h : Below w0.heap.size w0 w) : ConsAt w := B.cons.keep (Kept.of_below (ok := fun _ => True) h) trivial
theorem Base.tabAt {w0 w : World} {b : Nat} (B : Base w0 b) (h : Below w0.heap.size w0 w) : Tab w := B.tab.below h
theorem operand_any (w0 : World) (b : Nat) (B : Base w0 b) (t : T) (ht : WtC w0 b t) (hlen : t.args.len ≤ 281474976710656) (lev : Nat) (l : List UInt8) (o d : Nat) (p : Option Addr) (c : Nat) (w : World)
    (ho : o + (t.tx.within lev).2 ≤ 100000) (hl : l.length + (t.tx.within lev).1.length ≤ 1000000000) (hod : o ≤ d) (hW : Wr w b l o d) (h0 : Below w0.heap.size w0 w) (hF : FAt w (Oth w b) t.args p) :
    Calls Tryz.prog 41 #[.pointer (some ⟨b, 0, none⟩), .agg #[.int .i64 t.op, .int .i64 t.num, .string (S t.text), .slice p t.args.len c], .int .i64 lev] w fun e w' => e = .returned (.tuple #[]) ∧ Wr w' b (l ++ (t.tx.within lev).1) o (max d (o + (t.tx.within lev).2) : Nat) ∧ Wk b w w' := by
  have hlt := hW.lt
  have ka := Wk.of_below hlt ((Below.refl w.heap.size w).alloc (Nat.le_refl _) (.cells #[.int .i64 t.op, .int .i64 t.num, .string (S t.text), .slice p t.args.len c] 24))
  have hwa := hW.alloc (.cells #[.int .i64 t.op, .int .i64 t.num, .string (S t.text), .slice p t.args.len c] 24)
  have hoa := Oth.new hW (.cells #[.int .i64 t.op, .int .i64 t.num, .string (S t.text), .slice p t.args.len c] 24)
  have hfa := FAt.wk ka hF
  have h0a := h0.trans (ka.below.mono B.le)
  have HLV := Lib.hid (levelOf_any t.op _ (B.consAt h0a))
  have hbx := Bx.new w (.int .i64 t.op) (.int .i64 t.num) (.string (S t.text)) (.slice p t.args.len c)
  have hop : t.tx.op = t.op := by
    unfold T.tx nodeTx
    repeat' split
    all_goals rfl
  have HKA := Lib.hid ka
  have HWA := Lib.hid hwa
  have HFA := Lib.hid hfa
  have H0A := Lib.hid h0a
  have HBX := Lib.hid hbx
  have HT := Lib.hid ht
  have HB := Lib.hid B
  clear hW hF ht ka hwa hfa h0a hbx
  by_cases hb : bound t.op < lev
  · have hwi : t.tx.within lev = ([40] ++ t.tx.text ++ [41], t.tx.open_ + 1) := by unfold Tx.within; rw [hop, if_pos hb]
    rw [hwi] at ho hl ⊢
    simp only at ho hl ⊢
    have hbi : (bound t.op : Int) < (lev : Int) := by omega
    go_enter Tryz.func41, Tryz.ntmps41
    go_wp2_with fail
    refine HLV.out.mono ?_
    rintro e w1 ⟨rfl, b1⟩
    have hx1 := HBX.out.keep (Kept.of_below (ok := fun _ => True) b1) trivial
    have p0 := hx1.c0
    have p1 := hx1.c1
    have p2 := hx1.c2
    have p3 := hx1.c3
    have k1 := Wk.of_below HWA.out.lt b1
    have hw1 := HWA.out.below b1
    have k2 := Wk.of_below hw1.lt ((Below.refl w1.heap.size w1).alloc (Nat.le_refl _) (.cells #[.int .i64 t.op, .int .i64 t.num, .string (S t.text), .slice p t.args.len c] 24))
    have hw2 := hw1.alloc (.cells #[.int .i64 t.op, .int .i64 t.num, .string (S t.text), .slice p t.args.len c] 24)
    have hy := Bx.new w1 (.int .i64 t.op) (.int .i64 t.num) (.string (S t.text)) (.slice p t.args.len c)
    have hf2 := FAt.wk k2 (FAt.wk k1 HFA.out)
    have hrow : FAt (w1.alloc (.cells #[.int .i64 t.op, .int .i64 t.num, .string (S t.text), .slice p t.args.len c] 24)) (Oth (w1.alloc (.cells #[.int .i64 t.op, .int .i64 t.num, .string (S t.text), .slice p t.args.len c] 24)) b) (.cons t.op t.num t.text t.args .nil) (some ⟨w1.heap.size, 0, none⟩) :=
      ⟨w1.heap.size, 0, p, c, rfl, Oth.new hw1 _, hy.lt, hy.c0, hy.c1, hy.c2, hy.c3, hf2, trivial⟩
    have HKB := Lib.hid ((HKA.out.trans k1).trans k2)
    have hmost : most (txF (.cons t.op t.num t.text t.args .nil)) = t.tx.open_ := Nat.max_eq_left (Nat.zero_le _)
    have hcomm : commas (txF (.cons t.op t.num t.text t.args .nil)) = t.tx.text := rfl
    have hl2 : l.length + [(40 : UInt8)].length + t.tx.text.length + [(41 : UInt8)].length ≤ 1000000000 := by simp at hl ⊢; omega
    have hc := enclosed_any w0 b HB.out [40] [41] (.cons t.op t.num t.text t.args .nil) ⟨HT.out, trivial⟩ (by simp [F.len]) l o d (some ⟨w1.heap.size, 0, none⟩) 1 _ (by rw [hmost]; omega) (by rw [hcomm]; exact hl2) hod hw2 (H0A.out.trans ((k1.trans k2).below.mono HB.out.le)) hrow
    rw [hmost, hcomm] at hc
    have HC := Lib.hid hc
    clear hc hrow hf2 hy hw2 k2 k1 hw1 hx1 b1 HT HFA HBX
    go_wp2_with fail
    refine HC.out.mono ?_
    rintro e w2 ⟨rfl, hw2, k2⟩
    have HW2 := Lib.hid hw2
    have HK2 := Lib.hid (HKB.out.trans k2)
    clear hw2 k2
    go_wp2_with fail
    try simp only [Exit.inBlock, Exit.then]
    refine bodyPost_ret (results_none rfl _ _ _) rfl ?_
    refine ⟨rfl, ?_, HK2.out⟩
    have hfin := HW2.out
    rw [show o + 1 + t.tx.open_ = o + (t.tx.open_ + 1) by omega] at hfin
    simpa using hfin
  · have hwi : t.tx.within lev = (t.tx.text, t.tx.open_) := by unfold Tx.within; rw [hop, if_neg hb]
    rw [hwi] at ho hl ⊢
    simp only at ho hl ⊢
    have hbi : ¬ (bound t.op : Int) < (lev : Int) := by omega
    go_enter Tryz.func41, Tryz.ntmps41
    go_wp2_with fail
    refine HLV.out.mono ?_
    rintro e w1 ⟨rfl, b1⟩
    have hx1 := HBX.out.keep (Kept.of_below (ok := fun _ => True) b1) trivial
    have k1 := Wk.of_below HWA.out.lt b1
    have p0 := hx1.c0
    have p1 := hx1.c1
    have p2 := hx1.c2
    have p3 := hx1.c3
    have HC := Lib.hid (HT.out l o d p c w1 (by omega) (by omega) hod (HWA.out.below b1) (H0A.out.trans (k1.below.mono HB.out.le)) (FAt.wk k1 HFA.out))
    have HK1 := Lib.hid (HKA.out.trans k1)
    clear k1 hx1 b1
    go_wp2_with fail
    refine HC.out.mono ?_
    rintro e w2 ⟨rfl, hw2, k2⟩
    have HW2 := Lib.hid hw2
    have HK2 := Lib.hid (HK1.out.trans k2)
    clear hw2 k2
    go_wp2_with fail
    go_end0
    exact ⟨rfl, HW2.out, HK2.out⟩
end Go.Proofs.YtlmmfhbdebfgkaaGreatDoor.Ex
namespace Go.Proofs.YtlmmfhbdebfgkaaGreatDoor.Ex
open Go.RowKit
open Lx Va
def Con.val (c : Con) : Value := .agg #[.string (S c.word), .int .i64 c.op, .int .i64 c.level, .int .i64 c.operands, .bool c.turned]
theorem binary_any (w0 : World) (b : Nat) (B : Base w0 b) (k : Con) (lv : Nat) (hlv : k.level = lv) (hlv2 : lv ≤ 6) (hwd : k.word.length ≤ 10) (x y : T) (hx : WtC w0 b x) (hy : WtC w0 b y) (hlx : x.args.len ≤ 281474976710656) (hly : y.args.len ≤ 281474976710656)
    (l : List UInt8) (o d : Nat) (p q : Option Addr) (c c' : Nat) (w : World) (P Q : List UInt8 × Nat) (hP : P = x.tx.within (if lv = 2 then 3 else lv)) (hQ : Q = y.tx.within (lv + 1))
    (ho : o + P.2 ≤ 100000) (ho2 : o + Q.2 ≤ 100000) (hl : l.length + (P.1 ++ [32] ++ k.word ++ [32] ++ Q.1).length ≤ 1000000000) (hod : o ≤ d) (hW : Wr w b l o d) (h0 : Below w0.heap.size w0 w) (hF : FAt w (Oth w b) x.args p) (hG : FAt w (Oth w b) y.args q) :
    Calls Tryz.prog 42 #[.pointer (some ⟨b, 0, none⟩), .agg #[.string (S k.word), .int .i64 k.op, .int .i64 k.level, .int .i64 k.operands, .bool k.turned], .agg #[.int .i64 x.op, .int .i64 x.num, .string (S x.text), .slice p x.args.len c], .agg #[.int .i64 y.op, .int .i64 y.num, .string (S y.text), .slice q y.args.len c']] w fun e w' =>
      e = .returned (.tuple #[]) ∧ Wr w' b (l ++ (P.1 ++ [32] ++ k.word ++ [32] ++ Q.1)) o (max d (o + max P.2 Q.2) : Nat) ∧ Wk b w w' := by
  obtain ⟨kw, ko, kl, kn, kt⟩ := k
  simp only at hlv hwd hl ⊢
  subst hlv
  have hlt := hW.lt
  have hlen2 : l.length + P.1.length + [(32 : UInt8)].length + kw.length + [(32 : UInt8)].length + Q.1.length ≤ 1000000000 := by simp at hl ⊢; omega
  have hkw : (S kw).size = kw.length := S_size kw
  have hlv6 : (lv : Int) ≤ 6 := by omega
  have hlv0 : (0 : Int) ≤ (lv : Int) := by omega
  have h0w := h0
  have k1 := Wk.of_below hlt ((Below.refl w.heap.size w).alloc (Nat.le_refl _) (.cells #[.string (S kw), .int .i64 ko, .int .i64 (lv : Int), .int .i64 kn, .bool kt] 96))
  have hW1 := hW.alloc (.cells #[.string (S kw), .int .i64 ko, .int .i64 (lv : Int), .int .i64 kn, .bool kt] 96)
  have o1 := Oth.new hW (.cells #[.string (S kw), .int .i64 ko, .int .i64 (lv : Int), .int .i64 kn, .bool kt] 96)
  have b1 : Bc (w.alloc (.cells #[.string (S kw), .int .i64 ko, .int .i64 (lv : Int), .int .i64 kn, .bool kt] 96)) w.heap.size ⟨kw, ko, lv, kn, kt⟩ := heap_alloc_new w _
  have hF1 := FAt.wk k1 hF
  have hG1 := FAt.wk k1 hG
  have hs1 : (w.alloc (.cells #[.string (S kw), .int .i64 ko, .int .i64 (lv : Int), .int .i64 kn, .bool kt] 96)).heap.size = w.heap.size + 1 := by simp
  obtain ⟨W1, hW1e⟩ : ∃ W1, W1 = w.alloc (.cells #[.string (S kw), .int .i64 ko, .int .i64 (lv : Int), .int .i64 kn, .bool kt] 96) := ⟨_, rfl⟩
  rw [← hW1e] at k1 hW1 o1 b1 hF1 hG1 hs1
  have k2 := Wk.of_below hW1.lt ((Below.refl W1.heap.size W1).alloc (Nat.le_refl _) (.cells #[.int .i64 x.op, .int .i64 x.num, .string (S x.text), .slice p x.args.len c] 24))
  have hW2 := hW1.alloc (.cells #[.int .i64 x.op, .int .i64 x.num, .string (S x.text), .slice p x.args.len c] 24)
  have hs2 : (W1.alloc (.cells #[.int .i64 x.op, .int .i64 x.num, .string (S x.text), .slice p x.args.len c] 24)).heap.size = w.heap.size + 1 + 1 := by simp [hs1]
  obtain ⟨W2, hW2e⟩ : ∃ W2, W2 = W1.alloc (.cells #[.int .i64 x.op, .int .i64 x.num, .string (S x.text), .slice p x.args.len c] 24) := ⟨_, rfl⟩
  rw [← hW2e] at k2 hW2 hs2
  have k3 := Wk.of_below hW2.lt ((Below.refl W2.heap.size W2).alloc (Nat.le_refl _) (.cells #[.int .i64 y.op, .int .i64 y.num, .string (S y.text), .slice q y.args.len c'] 24))
  have hW3 := hW2.alloc (.cells #[.int .i64 y.op, .int .i64 y.num, .string (S y.text), .slice q y.args.len c'] 24)
  have o3 := Oth.new hW2 (.cells #[.int .i64 y.op, .int .i64 y.num, .string (S y.text), .slice q y.args.len c'] 24)
  have b3 := Bx.new W2 (.int .i64 y.op) (.int .i64 y.num) (.string (S y.text)) (.slice q y.args.len c')
  obtain ⟨e1, o1'⟩ := (k2.trans k3).block w.heap.size (by omega) o1
  have b1' : Bc (W2.alloc (.cells #[.int .i64 y.op, .int .i64 y.num, .string (S y.text), .slice q y.args.len c'] 24)) w.heap.size ⟨kw, ko, lv, kn, kt⟩ := e1.trans b1
  have hs3 : (W2.alloc (.cells #[.int .i64 y.op, .int .i64 y.num, .string (S y.text), .slice q y.args.len c'] 24)).heap.size = w.heap.size + 1 + 1 + 1 := by simp [hs2]
  have hF3 := FAt.wk (k2.trans k3) hF1
  have hG3 := FAt.wk (k2.trans k3) hG1
  have k03 := (k1.trans k2).trans k3
  rw [hs2] at o3 b3
  rw [hW2e, hW1e] at *
  clear hW1e hW2e
  have HK := Lib.hid k03
  have HO1 := Lib.hid o1'
  have HO3 := Lib.hid o3
  have HB1 := Lib.hid b1'
  have HB3 := Lib.hid b3
  have HW3 := Lib.hid hW3
  have HS3 := Lib.hid hs3
  have HF3 := Lib.hid hF3
  have HG3 := Lib.hid hG3
  have H03 := Lib.hid (h0.trans (k03.below.mono B.le))
  have HQ := Lib.hid hQ
  have HY := Lib.hid hy
  have HB := Lib.hid B
  have HX := Lib.hid hx
  clear k1 k2 k3 k03 hW hW1 hW2 hW3 o1 o3 b1 b3 e1 o1' b1' hF hG hF1 hG1 hF3 hG3 hs1 hs2 hs3 h0 hQ hy hx
  have HX5 := Lib.hid (fun (w5 : World) (k : Wk b w w5) => h0w.trans (k.below.mono HB.out.le))
  by_cases hl2 : lv = 2
  · subst hl2
    rw [if_pos rfl] at hP
    have HC1 := Lib.hid (operand_any w0 b HB.out x HX.out hlx (2 + 1) l o d p c _ (by rw [← hP]; exact ho) (by rw [← hP]; simp at hlen2 ⊢; omega) hod HW3.out H03.out HF3.out)
    rw [← hP] at HC1
    go_enter Tryz.func42, Tryz.ntmps42
    go_wp2_with fail
    refine HC1.out.mono ?_
    rintro e w4 ⟨rfl, hw4, k4⟩
    obtain ⟨e41, o41⟩ := k4.block _ (by rw [HS3.out]; omega) HO1.out
    obtain ⟨e43, o43⟩ := k4.block _ (by rw [HS3.out]; omega) HO3.out
    have b41 := e41.trans HB1.out
    have b43 := e43.trans HB3.out
    have p0 := cell_of_row w4 w.heap.size 0 _ _ (0, 0) b41
    have HB41 := Lib.hid b41
    have HB43 := Lib.hid b43
    have HO41 := Lib.hid o41
    have HO43 := Lib.hid o43
    have hwt := wwrite_k b (l ++ P.1) ([32] ++ kw ++ [32]) o (max d (o + P.2) : Nat) w4.drew hw4.drew (by simp at hlen2 ⊢; omega)
    have HWT := Lib.hid hwt
    have HL4 := Lib.hid (show w.heap.size + 1 + 1 < w4.heap.size from Nat.lt_of_lt_of_le (by rw [HS3.out]; omega) k4.below.size)
    have HK4 := Lib.hid (HK.out.trans k4)
    have HG4 := Lib.hid (FAt.wk k4 HG3.out)
    have hsz1 : (S [32]).size = 1 := rfl
    have hsz2 : (S [32] ++ S kw).size = 1 + kw.length := by rw [S_append, S_size]; simp; omega
    have HX51 := Lib.hid (fun (w5 : World) (k : Wk b w4 w5) => show w5.cell? ⟨w.heap.size, 0, none⟩ = some (.string (S kw)) from cell_of_row w5 w.heap.size 0 _ _ (0, 0) ((k.block _ (by have := HL4.out; omega) HO41.out).1.trans HB41.out))
    clear hw4 k4 hwt b41 b43 e41 e43 o41 o43
    have hadd1 : ∀ w, (Op.stringOp .add ⟨#[32]⟩ (S kw)).run Tryz.prog w = .ok (.string (S ([32] ++ kw))) w := fun w => by
      rw [run_string_add_sum w _ _ (by rw [S_size]; have : (⟨#[32]⟩ : ByteArray).size = 1 := rfl; omega)]
      exact congrArg (fun x => Result.ok (Value.string x) w) (S_append [32] kw)
    have hadd2 : ∀ w, (Op.stringOp .add (S ([32] ++ kw)) ⟨#[32]⟩).run Tryz.prog w = .ok (.string (S ([32] ++ kw ++ [32]))) w := fun w => by
      rw [run_string_add_sum w _ _ (by rw [S_size]; have : (⟨#[32]⟩ : ByteArray).size = 1 := rfl; simp; omega)]
      exact congrArg (fun x => Result.ok (Value.string x) w) (S_append ([32] ++ kw) [32])
    generalize hS1 : S ([32] ++ kw) = S1 at *
    generalize hS2 : S ([32] ++ kw ++ [32]) = S2 at *
    go_wp2_with fail
    go_region_held3 (fun w' => w'.cell? ⟨w.heap.size, 0, none⟩ = some (.string (S kw)))
      (first | assumption | go_keep)
      (first
        | (go_at_call 38; refine HWT.out.mono ?_; rintro e w5 ⟨rfl, hw5, k5d⟩; have k5 := (Wk.refl b w4).drew.trans k5d; have hx5 := HX51.out _ k5; have HW5 := Lib.hid hw5; have HK50 := Lib.hid k5; clear hw5 k5 k5d))
    have hw5 := HW5.out
    have k5 := HK50.out
    obtain ⟨e51, _⟩ := k5.block _ (by have := HL4.out; omega) HO41.out
    obtain ⟨e53, _⟩ := k5.block _ HL4.out HO43.out
    have b51 := e51.trans HB41.out
    have b53 : Bx w5 (w.heap.size + 1 + 1) _ _ _ _ := e53.trans HB43.out
    have r2 := cell_of_row w5 w.heap.size 2 _ _ (0, 0) b51
    have q0 := b53.c0
    have q1 := b53.c1
    have q2 := b53.c2
    have q3 := b53.c3
    have HK5 := Lib.hid (HK4.out.trans k5)
    have HC2 := operand_any w0 b HB.out y HY.out hly (2 + 1) (l ++ P.1 ++ ([32] ++ kw ++ [32])) o (max d (o + P.2)) q c' w5 (by rw [← HQ.out]; exact ho2) (by rw [← HQ.out]; simp at hlen2 ⊢; omega) (by omega) hw5 (HX5.out _ HK5.out) (FAt.wk k5 HG4.out)
    rw [← HQ.out] at HC2
    replace HC2 := Lib.hid HC2
    clear hw5 k5 e51 e53 b51 b53
    go_wp2_with fail
    refine HC2.out.mono ?_
    rintro e w6 ⟨rfl, hw6, k6⟩
    have HW6 := Lib.hid hw6
    have HK6 := Lib.hid (HK5.out.trans k6)
    clear hw6 k6
    go_wp2_with fail
    go_end0
    refine ⟨rfl, ?_, HK6.out⟩
    have hfin := HW6.out
    rw [show max (max d (o + P.2)) (o + Q.2) = max d (o + max P.2 Q.2) by omega] at hfin
    simpa using hfin
  · rw [if_neg hl2] at hP
    have hl2b : ((lv : Int) == 2) = false := by rw [beq_eq_false_iff_ne]; omega
    have hl2c : ((lv : Int) != 2) = true := by simp; omega
    have HC1 := Lib.hid (operand_any w0 b HB.out x HX.out hlx lv l o d p c _ (by rw [← hP]; exact ho) (by rw [← hP]; simp at hlen2 ⊢; omega) hod HW3.out H03.out HF3.out)
    rw [← hP] at HC1
    go_enter Tryz.func42, Tryz.ntmps42
    go_wp2_with fail
    refine HC1.out.mono ?_
    rintro e w4 ⟨rfl, hw4, k4⟩
    obtain ⟨e41, o41⟩ := k4.block _ (by rw [HS3.out]; omega) HO1.out
    obtain ⟨e43, o43⟩ := k4.block _ (by rw [HS3.out]; omega) HO3.out
    have b41 := e41.trans HB1.out
    have b43 := e43.trans HB3.out
    have p0 := cell_of_row w4 w.heap.size 0 _ _ (0, 0) b41
    have HB41 := Lib.hid b41
    have HB43 := Lib.hid b43
    have HO41 := Lib.hid o41
    have HO43 := Lib.hid o43
    have hwt := wwrite_k b (l ++ P.1) ([32] ++ kw ++ [32]) o (max d (o + P.2) : Nat) w4.drew hw4.drew (by simp at hlen2 ⊢; omega)
    have HWT := Lib.hid hwt
    have HL4 := Lib.hid (show w.heap.size + 1 + 1 < w4.heap.size from Nat.lt_of_lt_of_le (by rw [HS3.out]; omega) k4.below.size)
    have HK4 := Lib.hid (HK.out.trans k4)
    have HG4 := Lib.hid (FAt.wk k4 HG3.out)
    have hsz1 : (S [32]).size = 1 := rfl
    have hsz2 : (S [32] ++ S kw).size = 1 + kw.length := by rw [S_append, S_size]; simp; omega
    have HX51 := Lib.hid (fun (w5 : World) (k : Wk b w4 w5) => show w5.cell? ⟨w.heap.size, 0, none⟩ = some (.string (S kw)) from cell_of_row w5 w.heap.size 0 _ _ (0, 0) ((k.block _ (by have := HL4.out; omega) HO41.out).1.trans HB41.out))
    clear hw4 k4 hwt b41 b43 e41 e43 o41 o43
    have hadd1 : ∀ w, (Op.stringOp .add ⟨#[32]⟩ (S kw)).run Tryz.prog w = .ok (.string (S ([32] ++ kw))) w := fun w => by
      rw [run_string_add_sum w _ _ (by rw [S_size]; have : (⟨#[32]⟩ : ByteArray).size = 1 := rfl; omega)]
      exact congrArg (fun x => Result.ok (Value.string x) w) (S_append [32] kw)
    have hadd2 : ∀ w, (Op.stringOp .add (S ([32] ++ kw)) ⟨#[32]⟩).run Tryz.prog w = .ok (.string (S ([32] ++ kw ++ [32]))) w := fun w => by
      rw [run_string_add_sum w _ _ (by rw [S_size]; have : (⟨#[32]⟩ : ByteArray).size = 1 := rfl; simp; omega)]
      exact congrArg (fun x => Result.ok (Value.string x) w) (S_append ([32] ++ kw) [32])
    generalize hS1 : S ([32] ++ kw) = S1 at *
    generalize hS2 : S ([32] ++ kw ++ [32]) = S2 at *
    go_wp2_with fail
    go_region_held3 (fun w' => w'.cell? ⟨w.heap.size, 0, none⟩ = some (.string (S kw)))
      (first | assumption | go_keep)
      (first
        | (go_at_call 38; refine HWT.out.mono ?_; rintro e w5 ⟨rfl, hw5, k5d⟩; have k5 := (Wk.refl b w4).drew.trans k5d; have hx5 := HX51.out _ k5; have HW5 := Lib.hid hw5; have HK50 := Lib.hid k5; clear hw5 k5 k5d))
    have hw5 := HW5.out
    have k5 := HK50.out
    obtain ⟨e51, _⟩ := k5.block _ (by have := HL4.out; omega) HO41.out
    obtain ⟨e53, _⟩ := k5.block _ HL4.out HO43.out
    have b51 := e51.trans HB41.out
    have b53 : Bx w5 (w.heap.size + 1 + 1) _ _ _ _ := e53.trans HB43.out
    have r2 := cell_of_row w5 w.heap.size 2 _ _ (0, 0) b51
    have q0 := b53.c0
    have q1 := b53.c1
    have q2 := b53.c2
    have q3 := b53.c3
    have HK5 := Lib.hid (HK4.out.trans k5)
    have HC2 := operand_any w0 b HB.out y HY.out hly (lv + 1) (l ++ P.1 ++ ([32] ++ kw ++ [32])) o (max d (o + P.2)) q c' w5 (by rw [← HQ.out]; exact ho2) (by rw [← HQ.out]; simp at hlen2 ⊢; omega) (by omega) hw5 (HX5.out _ HK5.out) (FAt.wk k5 HG4.out)
    rw [← HQ.out] at HC2
    replace HC2 := Lib.hid HC2
    clear hw5 k5 e51 e53 b51 b53
    go_wp2_with fail
    refine HC2.out.mono ?_
    rintro e w6 ⟨rfl, hw6, k6⟩
    have HW6 := Lib.hid hw6
    have HK6 := Lib.hid (HK5.out.trans k6)
    clear hw6 k6
    go_wp2_with fail
    go_end0
    refine ⟨rfl, ?_, HK6.out⟩
    have hfin := HW6.out
    rw [show max (max d (o + P.2)) (o + Q.2) = max d (o + max P.2 Q.2) by omega] at hfin
    simpa using hfin
end Go.Proofs.YtlmmfhbdebfgkaaGreatDoor.Ex
