/-
  Several texts in one: ExTxA, ExTxB, ExTxC, ExTxD.
-/
import Derived.Test.YtabbdkdpmpjchaaGreatDoorZTzI
import Derived.Test.YtabbdkdpmpjchaaGreatDoorZTzF
import Derived.Test.YtabbdkdpmpjchaaGreatDoorZTzWj
namespace Go.Proofs.YtabbdkdpmpjchaaGreatDoor.Ex
open Go.RowKit
open Lx
set_option linter.unusedVariables false
set_option linter.unusedSimpArgs false
set_option maxHeartbeats 2000000 in
theorem rbound_any (o : Int) (w : World) : Calls Tryz.prog 73 #[.int .i64 o] w fun e w' => e = .returned (.int .i64 (bound o : Int)) ∧ w = w' := by
  go_enter Tryz.func73, Tryz.ntmps73
  go_wp2_with fail
  all_goals (go_ret; refine ⟨congrArg (fun x => Ending.returned (Value.int .i64 x)) ?_, rfl⟩; unfold bound)
  all_goals (try simp only [beq_iff_eq, beq_eq_false_iff_ne, ne_eq] at *)
  all_goals (repeat' split)
  all_goals (first | rfl | omega | simp_all)
set_option maxHeartbeats 2000000 in
theorem rsign_any (o : Int) (w : World) : Calls Tryz.prog 74 #[.int .i64 o] w fun e w' => e = .returned (.string (S (signL o))) ∧ w = w' := by
  go_enter Tryz.func74, Tryz.ntmps74
  go_wp2_with fail
  all_goals (go_ret; refine ⟨congrArg (fun x => Ending.returned (Value.string x)) ?_, rfl⟩; unfold signL)
  all_goals (try simp only [beq_iff_eq, beq_eq_false_iff_ne, ne_eq] at *)
  all_goals (repeat' split)
  all_goals (first | rfl | omega | simp_all)
def RtxC (t : T) : Prop := ∀ (p : Option Addr) (c : Nat) (w : World), FAt w (fun _ => True) t.args p →
  Calls Tryz.prog 37 #[.agg #[.int .i64 t.op, .int .i64 t.num, .string (S t.text), .slice p t.args.len c]] w fun e w' => e = .returned (.tuple #[.string (S t.tx.text), .int .i64 (t.tx.open_ : Int)]) ∧ Below w.heap.size w w'
def RtxAll : F → Prop
  | .nil => True
  | .cons o n t a r => RtxC ⟨o, n, t, a⟩ ∧ RtxAll r
theorem tx_op (t : T) : t.tx.op = t.op := by
  unfold T.tx nodeTx
  repeat' split
  all_goals rfl
theorem add_run (a b : List UInt8) (h : a.length + b.length ≤ 1000000000) (w : World) : (Op.stringOp .add (S a) (S b)).run Tryz.prog w = .ok (.string (S (a ++ b))) w := by
  rw [run_string_add_sum w _ _ (by rw [S_size, S_size]; omega)]
  exact congrArg (fun x => Result.ok (Value.string x) w) (S_append a b)
set_option maxRecDepth 100000 in
set_option maxHeartbeats 4000000 in
theorem rwithin_any (t : T) (ht : RtxC t) (hl : t.tx.text.length ≤ 100000) (ho : t.tx.open_ ≤ 100000) (lev : Nat) (hlev : lev ≤ 10) (p : Option Addr) (c : Nat) (w : World) (hfa : FAt w (fun _ => True) t.args p) :
    Calls Tryz.prog 72 #[.agg #[.int .i64 t.op, .int .i64 t.num, .string (S t.text), .slice p t.args.len c], .int .i64 (lev : Int)] w fun e w' => e = .returned (.tuple #[.string (S (t.tx.within lev).1), .int .i64 ((t.tx.within lev).2 : Int)]) ∧ Below w.heap.size w w' := by
  have hb0 := (Below.refl w.heap.size w).alloc (Nat.le_refl _) (.cells #[.int .i64 t.op, .int .i64 t.num, .string (S t.text), .slice p t.args.len c] 24)
  have hbx := Bx.new w (.int .i64 t.op) (.int .i64 t.num) (.string (S t.text)) (.slice p t.args.len c)
  have HC := Lib.hid (ht p c _ (hfa.keep (Kept.of_below hb0)))
  have HB0 := Lib.hid hb0
  have HBX := Lib.hid hbx
  have HBD := Lib.hid (fun wr => rbound_any t.op wr)
  have HA1 := Lib.hid (fun w => add_run [40] t.tx.text (by simp; omega) w)
  have HA2 := Lib.hid (fun w => add_run ([40] ++ t.tx.text) [41] (by simp; omega) w)
  have HWI := Lib.hid (show t.tx.within lev = if bound t.op < lev then ([40] ++ t.tx.text ++ [41], t.tx.open_ + 1) else (t.tx.text, t.tx.open_) by unfold Tx.within; rw [tx_op])
  have HCA := Lib.hid (show (t.tx.open_ : Int) + 1 = ((t.tx.open_ + 1 : Nat) : Int) by omega)
  have hoi : (t.tx.open_ : Int) ≤ 100000 := by omega
  clear hb0 hbx hfa ht
  by_cases hb : bound t.op < lev
  · have hbi : (bound t.op : Int) < (lev : Int) := by omega
    have HW := Lib.hid (HWI.out.trans (if_pos hb))
    have ha1 : ∀ w, (Op.stringOp .add ⟨#[40]⟩ (S t.tx.text)).run Tryz.prog w = .ok (.string (S ([40] ++ t.tx.text))) w := HA1.out
    have ha2 : ∀ w, (Op.stringOp .add (S ([40] ++ t.tx.text)) ⟨#[41]⟩).run Tryz.prog w = .ok (.string (S ([40] ++ t.tx.text ++ [41]))) w := HA2.out
    generalize S ([40] ++ t.tx.text) = S1 at *
    generalize hS2 : S ([40] ++ t.tx.text ++ [41]) = S2 at *
    clear hb
    go_enter Tryz.func72, Tryz.ntmps72
    go_wp2_with fail
    refine HC.out.mono ?_
    rintro e w1 ⟨rfl, b1⟩
    have HB1 := Lib.hid (HB0.out.trans (b1.mono HB0.out.size))
    have hx1 := HBX.out.keep (Kept.of_below (ok := fun _ => True) b1) trivial
    have q0 := hx1.c0
    clear b1 hx1
    go_wp2_with fail
    refine (HBD.out _).mono ?_
    rintro e w2 ⟨rfl, rfl⟩
    go_wp2_with fail
    go_ret2
    rw [HW.out]
    exact ⟨by rw [← hS2, ← HCA.out]; rfl, HB1.out⟩
  · have hbi : ¬ (bound t.op : Int) < (lev : Int) := by omega
    have HW := Lib.hid (HWI.out.trans (if_neg hb))
    clear hb
    go_enter Tryz.func72, Tryz.ntmps72
    go_wp2_with fail
    refine HC.out.mono ?_
    rintro e w1 ⟨rfl, b1⟩
    have HB1 := Lib.hid (HB0.out.trans (b1.mono HB0.out.size))
    have hx1 := HBX.out.keep (Kept.of_below (ok := fun _ => True) b1) trivial
    have q0 := hx1.c0
    clear b1 hx1
    go_wp2_with fail
    refine (HBD.out _).mono ?_
    rintro e w2 ⟨rfl, rfl⟩
    go_wp2_with fail
    go_ret2
    rw [HW.out]
    exact ⟨rfl, HB1.out⟩
end Go.Proofs.YtabbdkdpmpjchaaGreatDoor.Ex

namespace Go.Proofs.YtabbdkdpmpjchaaGreatDoor.Ex
open Go.RowKit
open Lx Va
set_option linter.unusedVariables false
set_option linter.unusedSimpArgs false
theorem rp2 (t : List UInt8) (ht : t.length ≤ 100000) (w : World) : Calls Tryz.prog 71 #[.agg #[.int .i64 3, .int .i64 0, .string (S t), .slice none 0 0]] w fun e w' => e = .returned (.string (S (34 :: (escT t ++ [34])))) ∧ Below w.heap.size w w' :=
  refPrint_text 0 t [] ht none 0 w
theorem rp3 (n : Int) (h : n = 0 ∨ n = 1) (w : World) : Calls Tryz.prog 71 #[.agg #[.int .i64 2, .int .i64 n, .string ⟨#[]⟩, .slice none 0 0]] w fun e w' => e = .returned (.string (S (printV ⟨2, n, [], []⟩))) ∧ Below w.heap.size w w' :=
  refPrint_any ⟨2, n, [], []⟩ ⟨by rcases h with rfl | rfl <;> decide, by simp, by simp, by simp⟩ (by rcases h with rfl | rfl <;> rfl) none 0 w (fun i hi => absurd hi (Nat.not_lt_zero i))
set_option maxRecDepth 100000 in
set_option maxHeartbeats 2000000 in
theorem rtext_1 (num : Int) (tx : List UInt8) (A : F) (h : 0 ≤ num) (h2 : num ≤ 9223372036854775807) : RtxC ⟨1, num, tx, A⟩ := by
  intro p c w hfa
  have e : T.tx ⟨1, num, tx, A⟩ = ⟨1, decZ num, 0⟩ := rfl
  rw [e]
  dsimp only
  clear e
  have hb0 := (Below.refl w.heap.size w).alloc (Nat.le_refl _) (.cells #[.int .i64 1, .int .i64 num, .string (S tx), .slice p A.len c] 24)
  have HB0 := Lib.hid hb0
  clear hb0 hfa
  have HC := Lib.hid (dec_any num · (by omega) h2)
  generalize S (decZ num) = R at *
  clear h h2
  go_enter Tryz.func37, Tryz.ntmps37
  go_wp2_with fail
  refine (HC.out _).mono ?_
  rintro e w1 ⟨rfl, b1⟩
  have HB1 := Lib.hid (HB0.out.trans (b1.mono HB0.out.size))
  clear b1
  go_wp2_with fail
  go_ret2
  exact ⟨rfl, HB1.out⟩
set_option maxRecDepth 100000 in
set_option maxHeartbeats 2000000 in
theorem rtext_2 (num : Int) (tx : List UInt8) (A : F) (h : tx.length ≤ 64) : RtxC ⟨2, num, tx, A⟩ := by
  intro p c w hfa
  have e : T.tx ⟨2, num, tx, A⟩ = ⟨2, 34 :: (escT tx ++ [34]), 0⟩ := rfl
  rw [e]
  dsimp only
  clear e
  have hb0 := (Below.refl w.heap.size w).alloc (Nat.le_refl _) (.cells #[.int .i64 2, .int .i64 num, .string (S tx), .slice p A.len c] 24)
  have HB0 := Lib.hid hb0
  clear hb0 hfa
  have HC := Lib.hid (fun wr => rp2 tx (by omega) wr)
  generalize S (34 :: (escT tx ++ [34])) = R at *
  go_enter Tryz.func37, Tryz.ntmps37
  go_wp2_with fail
  refine (HC.out _).mono ?_
  rintro e w1 ⟨rfl, b1⟩
  have HB1 := Lib.hid (HB0.out.trans (b1.mono HB0.out.size))
  clear b1
  go_wp2_with fail
  go_ret2
  exact ⟨rfl, HB1.out⟩
set_option maxRecDepth 100000 in
set_option maxHeartbeats 2000000 in
theorem rtext_3 (num : Int) (tx : List UInt8) (A : F) (h : num = 0 ∨ num = 1) : RtxC ⟨3, num, tx, A⟩ := by
  intro p c w hfa
  have e : T.tx ⟨3, num, tx, A⟩ = ⟨3, printV ⟨2, num, [], []⟩, 0⟩ := rfl
  rw [e]
  dsimp only
  clear e
  have hb0 := (Below.refl w.heap.size w).alloc (Nat.le_refl _) (.cells #[.int .i64 3, .int .i64 num, .string (S tx), .slice p A.len c] 24)
  have HB0 := Lib.hid hb0
  clear hb0 hfa
  have HC := Lib.hid (fun wr => rp3 num h wr)
  generalize S (printV ⟨2, num, [], []⟩) = R at *
  clear h
  go_enter Tryz.func37, Tryz.ntmps37
  go_wp2_with fail
  refine (HC.out _).mono ?_
  rintro e w1 ⟨rfl, b1⟩
  have HB1 := Lib.hid (HB0.out.trans (b1.mono HB0.out.size))
  clear b1
  go_wp2_with fail
  go_ret2
  exact ⟨rfl, HB1.out⟩
set_option maxRecDepth 100000 in
set_option maxHeartbeats 2000000 in
theorem rtext_4 (num : Int) (tx : List UInt8) (A : F) (h : tx.length ≤ 100000) : RtxC ⟨4, num, tx, A⟩ := by
  intro p c w hfa
  have e : T.tx ⟨4, num, tx, A⟩ = ⟨4, 39 :: tx, 0⟩ := rfl
  rw [e]
  dsimp only
  clear e
  have hb0 := (Below.refl w.heap.size w).alloc (Nat.le_refl _) (.cells #[.int .i64 4, .int .i64 num, .string (S tx), .slice p A.len c] 24)
  have HB0 := Lib.hid hb0
  clear hb0 hfa
  have ha : ∀ w, (Op.stringOp .add ⟨#[39]⟩ (S tx)).run Tryz.prog w = .ok (.string (S (39 :: tx))) w := fun w => add_run [39] tx (by simp; omega) w
  generalize S (39 :: tx) = R at *
  go_enter Tryz.func37, Tryz.ntmps37
  go_wp2_with fail
  go_ret2
  exact ⟨rfl, HB0.out⟩
set_option maxRecDepth 100000 in
set_option maxHeartbeats 2000000 in
theorem rtext_6 (num : Int) (tx : List UInt8) (A : F)  : RtxC ⟨6, num, tx, A⟩ := by
  intro p c w hfa
  have e : T.tx ⟨6, num, tx, A⟩ = ⟨6, tx, 0⟩ := rfl
  rw [e]
  dsimp only
  clear e
  have hb0 := (Below.refl w.heap.size w).alloc (Nat.le_refl _) (.cells #[.int .i64 6, .int .i64 num, .string (S tx), .slice p A.len c] 24)
  have HB0 := Lib.hid hb0
  clear hb0 hfa
  go_enter Tryz.func37, Tryz.ntmps37
  go_wp2_with fail
  go_ret2
  exact ⟨rfl, HB0.out⟩
set_option maxRecDepth 100000 in
set_option maxHeartbeats 2000000 in
theorem rtext_7 (num : Int) (tx : List UInt8) (A : F) (h : tx.length ≤ 100000) : RtxC ⟨7, num, tx, A⟩ := by
  intro p c w hfa
  have e : T.tx ⟨7, num, tx, A⟩ = ⟨7, wMsg ++ [46] ++ tx, 0⟩ := rfl
  rw [e]
  dsimp only
  clear e
  have hb0 := (Below.refl w.heap.size w).alloc (Nat.le_refl _) (.cells #[.int .i64 7, .int .i64 num, .string (S tx), .slice p A.len c] 24)
  have HB0 := Lib.hid hb0
  clear hb0 hfa
  have ha : ∀ w, (Op.stringOp .add ⟨#[109, 115, 103, 46]⟩ (S tx)).run Tryz.prog w = .ok (.string (S (wMsg ++ [46] ++ tx))) w := fun w => add_run [109, 115, 103, 46] tx (by simp; omega) w
  generalize S (wMsg ++ [46] ++ tx) = R at *
  go_enter Tryz.func37, Tryz.ntmps37
  go_wp2_with fail
  go_ret2
  exact ⟨rfl, HB0.out⟩
set_option maxRecDepth 100000 in
set_option maxHeartbeats 4000000 in
theorem rtext_10 (num : Int) (tx : List UInt8) (x : T) (hx : RtxC x) (hl : x.tx.text.length ≤ 100000) (ho : x.tx.open_ ≤ 100000) : RtxC ⟨10, num, tx, .cons x.op x.num x.text x.args .nil⟩ := by
  intro p c w hfa
  have e : T.tx ⟨10, num, tx, .cons x.op x.num x.text x.args .nil⟩ = ⟨10, [33] ++ (x.tx.within 5).1, (x.tx.within 5).2 + 1⟩ := rfl
  have hwl := within_len x.tx 5
  obtain ⟨P, hP⟩ : ∃ P, P = x.tx.within 5 := ⟨_, rfl⟩
  rw [e, ← hP]
  dsimp only
  obtain ⟨R, hR⟩ : ∃ R, R = S ([33] ++ P.1) := ⟨_, rfl⟩
  obtain ⟨O, hO⟩ : ∃ O : Int, O = ((P.2 + 1 : Nat) : Int) := ⟨_, rfl⟩
  rw [← hR, ← hO]
  rw [← hP] at hwl
  clear e
  have hb0 := (Below.refl w.heap.size w).alloc (Nat.le_refl _) (.cells #[.int .i64 10, .int .i64 num, .string (S tx), .slice p 1 c] 24)
  have hbx := Bx.new w (.int .i64 10) (.int .i64 num) (.string (S tx)) (.slice p 1 c)
  obtain ⟨g, k, q, cc, rfl, hgk, hgl, f0, f1, f2, f3, hfa1, _⟩ := hfa
  rw [← hb0.cell (p := ⟨g, _, none⟩) hgl] at f0 f1 f2 f3
  have hgl1 := Nat.lt_of_lt_of_le hgl hb0.size
  have HC := Lib.hid (rwithin_any x hx hl ho 5 (by decide) q cc _ (hfa1.keep (Kept.of_below hb0)))
  rw [← hP] at HC
  have HB0 := Lib.hid hb0
  have HBX := Lib.hid hbx
  have HADD := Lib.hid (fun w => add_run [33] P.1 (by simp; omega) w)
  rw [← hR] at HADD
  have hoi : (P.2 : Int) ≤ 200000 := by omega
  have hoz : (0 : Int) ≤ (P.2 : Int) := by omega
  have HCA := Lib.hid (show (P.2 : Int) + 1 = O by omega)
  clear hb0 hbx hfa1 hx hP hwl hgk hR hO
  show Calls _ _ #[.agg #[.int .i64 10, .int .i64 num, .string (S tx), .slice (some ⟨g, k, none⟩) 1 c]] _ _
  have he : (ByteArray.mk #[33, 45]).extract 0 (0 + 1) = S [33] := rfl
  go_enter Tryz.func37, Tryz.ntmps37
  go_wp2_with fail
  refine HC.out.mono ?_
  rintro e w1 ⟨rfl, b1⟩
  have HB1 := Lib.hid (HB0.out.trans (b1.mono HB0.out.size))
  have hx1 := HBX.out.keep (Kept.of_below (ok := fun _ => True) b1) trivial
  have q0 := hx1.c0
  have ha := HADD.out
  clear b1 hx1
  go_wp2_with fail
  go_ret2
  exact ⟨by rw [← HCA.out]; rfl, HB1.out⟩
set_option maxRecDepth 100000 in
set_option maxHeartbeats 4000000 in
theorem rtext_11 (num : Int) (tx : List UInt8) (x : T) (hx : RtxC x) (hl : x.tx.text.length ≤ 100000) (ho : x.tx.open_ ≤ 100000) : RtxC ⟨11, num, tx, .cons x.op x.num x.text x.args .nil⟩ := by
  intro p c w hfa
  have e : T.tx ⟨11, num, tx, .cons x.op x.num x.text x.args .nil⟩ = ⟨11, [45] ++ (x.tx.within 5).1, (x.tx.within 5).2 + 1⟩ := rfl
  have hwl := within_len x.tx 5
  obtain ⟨P, hP⟩ : ∃ P, P = x.tx.within 5 := ⟨_, rfl⟩
  rw [e, ← hP]
  dsimp only
  obtain ⟨R, hR⟩ : ∃ R, R = S ([45] ++ P.1) := ⟨_, rfl⟩
  obtain ⟨O, hO⟩ : ∃ O : Int, O = ((P.2 + 1 : Nat) : Int) := ⟨_, rfl⟩
  rw [← hR, ← hO]
  rw [← hP] at hwl
  clear e
  have hb0 := (Below.refl w.heap.size w).alloc (Nat.le_refl _) (.cells #[.int .i64 11, .int .i64 num, .string (S tx), .slice p 1 c] 24)
  have hbx := Bx.new w (.int .i64 11) (.int .i64 num) (.string (S tx)) (.slice p 1 c)
  obtain ⟨g, k, q, cc, rfl, hgk, hgl, f0, f1, f2, f3, hfa1, _⟩ := hfa
  rw [← hb0.cell (p := ⟨g, _, none⟩) hgl] at f0 f1 f2 f3
  have hgl1 := Nat.lt_of_lt_of_le hgl hb0.size
  have HC := Lib.hid (rwithin_any x hx hl ho 5 (by decide) q cc _ (hfa1.keep (Kept.of_below hb0)))
  rw [← hP] at HC
  have HB0 := Lib.hid hb0
  have HBX := Lib.hid hbx
  have HADD := Lib.hid (fun w => add_run [45] P.1 (by simp; omega) w)
  rw [← hR] at HADD
  have hoi : (P.2 : Int) ≤ 200000 := by omega
  have hoz : (0 : Int) ≤ (P.2 : Int) := by omega
  have HCA := Lib.hid (show (P.2 : Int) + 1 = O by omega)
  clear hb0 hbx hfa1 hx hP hwl hgk hR hO
  show Calls _ _ #[.agg #[.int .i64 11, .int .i64 num, .string (S tx), .slice (some ⟨g, k, none⟩) 1 c]] _ _
  have he : (ByteArray.mk #[33, 45]).extract 1 (1 + 1) = S [45] := rfl
  go_enter Tryz.func37, Tryz.ntmps37
  go_wp2_with fail
  refine HC.out.mono ?_
  rintro e w1 ⟨rfl, b1⟩
  have HB1 := Lib.hid (HB0.out.trans (b1.mono HB0.out.size))
  have hx1 := HBX.out.keep (Kept.of_below (ok := fun _ => True) b1) trivial
  have q0 := hx1.c0
  have ha := HADD.out
  clear b1 hx1
  go_wp2_with fail
  go_ret2
  exact ⟨by rw [← HCA.out]; rfl, HB1.out⟩
end Go.Proofs.YtabbdkdpmpjchaaGreatDoor.Ex

namespace Go.Proofs.YtabbdkdpmpjchaaGreatDoor.Ex
open Go.RowKit
open Lx Va
set_option linter.unusedVariables false
set_option linter.unusedSimpArgs false
set_option maxRecDepth 100000 in
set_option maxHeartbeats 8000000 in
theorem rtext_5 (num : Int) (tx : List UInt8) (A : F) (hA : RtxAll A) (hlen : A.len ≤ 281474976710656) (hl : (commas (txF A)).length ≤ 100000000) (ho : most (txF A) ≤ 100000) : RtxC ⟨5, num, tx, A⟩ := by
  intro p c w hfa
  have e : T.tx ⟨5, num, tx, A⟩ = ⟨5, [91] ++ commas (txF A) ++ [93], most (txF A) + 1⟩ := rfl
  rw [e]
  dsimp only
  clear e
  obtain ⟨TX, hTX⟩ : ∃ TX, TX = S ([91] ++ commas (txF A) ++ [93]) := ⟨_, rfl⟩
  obtain ⟨O, hO⟩ : ∃ O : Int, O = ((most (txF A) + 1 : Nat) : Int) := ⟨_, rfl⟩
  rw [← hTX, ← hO]
  have HTX := Lib.hid hTX
  have HO := Lib.hid hO
  clear hTX hO
  have hb0 := (Below.refl w.heap.size w).alloc (Nat.le_refl _) (.cells #[.int .i64 5, .int .i64 num, .string (S tx), .slice p A.len c] 24)
  have hbx := Bx.new w (.int .i64 5) (.int .i64 num) (.string (S tx)) (.slice p A.len c)
  have HFA0 := Lib.hid (hfa.keep (Kept.of_below hb0))
  have HB0 := Lib.hid hb0
  have HBX := Lib.hid hbx
  have HALL := Lib.hid hA
  clear hb0 hbx hfa hA
  have hki : (A.len : Int) ≤ 281474976710656 := by omega
  go_enter Tryz.func37, Tryz.ntmps37
  go_wp2_with fail
  go_loopw [6, 7, 89] (fun sv mv iv wr => ∃ (i : Nat) (r : F) (Y : List UInt8) (m : Nat) (pr : Option Addr), sv = .string (S Y) ∧ mv = .int .i64 (m : Int) ∧ iv = .int .i64 i ∧ i + r.len = A.len ∧ RtxAll r ∧ FAt wr (fun _ => True) r pr ∧ (∀ g k, pr = some ⟨g, k, none⟩ → r ≠ .nil → ∃ k0, p = some ⟨g, k0, none⟩ ∧ k = k0 + 4 * i) ∧
    [91] ++ commas (txF A) = Y ++ tailL i (txF r) ∧ max m (most (txF r)) = most (txF A) ∧ Below w.heap.size w wr ∧ Bx wr w.heap.size (.int .i64 5) (.int .i64 num) (.string (S tx)) (.slice p A.len c)) (fun _ _ iv _ => A.len - (intOf iv).toNat)
  case atStart => exact ⟨0, A, [91], 0, p, rfl, rfl, rfl, by omega, HALL.out, HFA0.out, fun g k e _ => ⟨k, e, by omega⟩, rfl, Nat.zero_max _, HB0.out, HBX.out⟩
  case round =>
    obtain ⟨i, r, Y, m, pr, rfl, rfl, rfl, hil, hal, hfr, hpr, hY, hm, hb, hx⟩ := hrel
    have q0 := hx.c0
    have q3 := hx.c3
    cases r with
    | nil =>
      have hil2 : i = A.len := by simpa [F.len] using hil
      have hie : ¬ (i : Int) < (A.len : Int) := by omega
      have hYe : [91] ++ commas (txF A) = Y := by rw [hY]; simp [txF, tailL_nil]
      have hme : m = most (txF A) := by rw [← hm]; simp [txF, most]
      have HB := Lib.hid hb
      have hYl : Y.length ≤ 100000100 := by rw [← hYe]; simp; omega
      have ha : ∀ w, (Op.stringOp .add (S Y) ⟨#[93]⟩).run Tryz.prog w = .ok (.string TX) w := fun w => (add_run Y [93] (by simp; omega) w).trans (by rw [HTX.out, hYe])
      have hmi : (m : Int) ≤ 100000 := by omega
      have HCA := Lib.hid (show (m : Int) + 1 = O by rw [HO.out, ← hme]; omega)
      clear hfr hpr hal hY hx hm hYe hme hb
      go_wp2_with fail
      go_ret2
      exact ⟨by rw [← HCA.out]; rfl, HB.out⟩
    | cons op nm tt a r =>
      obtain ⟨g, k, q, cc, rfl, hgk, hgl, f0, f1, f2, f3, hfa, hfr2⟩ := hfr
      obtain ⟨k0, rfl, rfl⟩ := hpr g k rfl (by intro e; cases e)
      have hil2 : i + (r.len + 1) = A.len := by simpa [F.len] using hil
      have hie : (i : Int) < (A.len : Int) := by omega
      rw [show k0 + 4 * i = k0 + i * 4 by omega] at f0 f1 f2 f3
      obtain ⟨x, hxe⟩ : ∃ x, x = T.tx ⟨op, nm, tt, a⟩ := ⟨_, rfl⟩
      have htx : txF (.cons op nm tt a r) = x :: txF r := by rw [hxe]; rfl
      rw [htx] at hY hm
      rw [tailL_cons] at hY
      have hYl : Y.length + (if i = 0 then ([] : List UInt8) else [44, 32]).length + x.text.length ≤ 1 + (commas (txF A)).length := by
        have := congrArg List.length hY
        simp only [List.length_append, List.length_cons, List.length_nil] at this ⊢
        omega
      have HM := Lib.hid (show max (max m x.open_) (most (txF r)) = most (txF A) by
        have : max m (max x.open_ (most (txF r))) = most (txF A) := hm
        omega)
      have hmi : (m : Int) ≤ 100000 := by
        have : max m (max x.open_ (most (txF r))) = most (txF A) := hm
        omega
      have hxi : (x.open_ : Int) ≤ 100000 := by
        have : max m (max x.open_ (most (txF r))) = most (txF A) := hm
        omega
      have HMAX := Lib.hid (show max (m : Int) (x.open_ : Int) = ((max m x.open_ : Nat) : Int) by omega)
      have HC := hal.1 q cc wr hfa
      rw [← hxe] at HC
      have HCALL := Lib.hid HC
      have HFR := Lib.hid hfr2
      have HB := Lib.hid hb
      have HX := Lib.hid hx
      have HAL := Lib.hid hal.2
      by_cases hi0 : i = 0
      · subst hi0
        simp only [Nat.mul_zero, Nat.zero_mul, Nat.add_zero, Nat.zero_add, if_true, List.length_nil] at hil hil2 hY hYl f0 f1 f2 f3 HFR
        have HY := Lib.hid (show [91] ++ commas (txF A) = (Y ++ x.text) ++ tailL 1 (txF r) by rw [hY]; simp)
        have HAD := Lib.hid (fun w => add_run Y x.text (by omega) w)
        have e1 : ((0 : Nat) : Int) = 0 := rfl
        clear HC hal hfa hfr2 hb hx hm hY hYl htx hxe hpr hgk hil
        go_wp2_with fail
        refine HCALL.out.mono ?_
        rintro e w5 ⟨rfl, b5⟩
        have HB5 := Lib.hid (HB.out.trans (b5.mono HB.out.size))
        have HF5 := Lib.hid (HFR.out.keep (Kept.of_below b5))
        have HX5 := Lib.hid (HX.out.keep (Kept.of_below (ok := fun _ => True) b5) trivial)
        have ha := HAD.out
        obtain ⟨R, hR⟩ : ∃ R, R = S (Y ++ x.text) := ⟨_, rfl⟩
        rw [← hR] at ha
        have HR := Lib.hid hR
        clear b5 hR
        go_wp2_with fail
        go_roundw
        case rel => exact ⟨1, r, Y ++ x.text, max m x.open_, some ⟨g, k0 + 4, none⟩, by rw [← HR.out], by rw [← HMAX.out] <;> (try rfl), by go_num, by omega, HAL.out, HF5.out, fun g' k' e _ => by injection e with e; injection e with e1 e2 _; subst e1 e2; exact ⟨k0, rfl, by omega⟩, HY.out, HM.out, HB5.out, HX5.out⟩
        case measure => simp [intOf]; omega
      · have hi1 : (0 : Int) < (i : Int) := by omega
        rw [if_neg hi0] at hY hYl
        simp only [List.length_cons, List.length_nil] at hYl
        have HY := Lib.hid (show [91] ++ commas (txF A) = ((Y ++ [44, 32]) ++ x.text) ++ tailL (i + 1) (txF r) by rw [hY]; simp)
        have HAC := Lib.hid (fun w => add_run Y [44, 32] (by simp; omega) w)
        have HAD := Lib.hid (fun w => add_run (Y ++ [44, 32]) x.text (by simp; omega) w)
        clear HC hal hfa hfr2 hb hx hm hY hYl htx hxe hpr hgk
        go_wp2_with fail
        refine HCALL.out.mono ?_
        rintro e w5 ⟨rfl, b5⟩
        have HB5 := Lib.hid (HB.out.trans (b5.mono HB.out.size))
        have HF5 := Lib.hid (HFR.out.keep (Kept.of_below b5))
        have HX5 := Lib.hid (HX.out.keep (Kept.of_below (ok := fun _ => True) b5) trivial)
        have ha : ∀ w, (Op.stringOp .add (S Y) ⟨#[44, 32]⟩).run Tryz.prog w = .ok (.string (S (Y ++ [44, 32]))) w := HAC.out
        have ha2 := HAD.out
        obtain ⟨R, hR⟩ : ∃ R, R = S (Y ++ [44, 32] ++ x.text) := ⟨_, rfl⟩
        rw [← hR] at ha2
        have HR := Lib.hid hR
        generalize S (Y ++ [44, 32]) = R1 at ha ha2
        clear b5 hR
        go_wp2_with fail
        go_roundw
        case rel => exact ⟨i + 1, r, (Y ++ [44, 32]) ++ x.text, max m x.open_, some ⟨g, k0 + 4 * i + 4, none⟩, by rw [← HR.out], by rw [← HMAX.out] <;> (try rfl), by go_num, by omega, HAL.out, HF5.out, fun g' k' e _ => by injection e with e; injection e with e1 e2 _; subst e1 e2; exact ⟨k0, rfl, by omega⟩, HY.out, HM.out, HB5.out, HX5.out⟩
        case measure => simp [intOf]; omega
set_option maxRecDepth 100000 in
set_option maxHeartbeats 8000000 in
theorem rtext_12 (num : Int) (tx : List UInt8) (A : F) (hA : RtxAll A) (hlen : A.len ≤ 281474976710656) (hl : (commas (txF A)).length ≤ 100000000) (ho : most (txF A) ≤ 100000) : RtxC ⟨12, num, tx, A⟩ := by
  intro p c w hfa
  have e : T.tx ⟨12, num, tx, A⟩ = ⟨12, [108, 101, 110, 40] ++ commas (txF A) ++ [41], most (txF A) + 1⟩ := rfl
  rw [e]
  dsimp only
  clear e
  obtain ⟨TX, hTX⟩ : ∃ TX, TX = S ([108, 101, 110, 40] ++ commas (txF A) ++ [41]) := ⟨_, rfl⟩
  obtain ⟨O, hO⟩ : ∃ O : Int, O = ((most (txF A) + 1 : Nat) : Int) := ⟨_, rfl⟩
  rw [← hTX, ← hO]
  have HTX := Lib.hid hTX
  have HO := Lib.hid hO
  clear hTX hO
  have hb0 := (Below.refl w.heap.size w).alloc (Nat.le_refl _) (.cells #[.int .i64 12, .int .i64 num, .string (S tx), .slice p A.len c] 24)
  have hbx := Bx.new w (.int .i64 12) (.int .i64 num) (.string (S tx)) (.slice p A.len c)
  have HFA0 := Lib.hid (hfa.keep (Kept.of_below hb0))
  have HB0 := Lib.hid hb0
  have HBX := Lib.hid hbx
  have HALL := Lib.hid hA
  clear hb0 hbx hfa hA
  have hki : (A.len : Int) ≤ 281474976710656 := by omega
  go_enter Tryz.func37, Tryz.ntmps37
  go_wp2_with fail
  go_loopw [6, 7, 89] (fun sv mv iv wr => ∃ (i : Nat) (r : F) (Y : List UInt8) (m : Nat) (pr : Option Addr), sv = .string (S Y) ∧ mv = .int .i64 (m : Int) ∧ iv = .int .i64 i ∧ i + r.len = A.len ∧ RtxAll r ∧ FAt wr (fun _ => True) r pr ∧ (∀ g k, pr = some ⟨g, k, none⟩ → r ≠ .nil → ∃ k0, p = some ⟨g, k0, none⟩ ∧ k = k0 + 4 * i) ∧
    [108, 101, 110, 40] ++ commas (txF A) = Y ++ tailL i (txF r) ∧ max m (most (txF r)) = most (txF A) ∧ Below w.heap.size w wr ∧ Bx wr w.heap.size (.int .i64 12) (.int .i64 num) (.string (S tx)) (.slice p A.len c)) (fun _ _ iv _ => A.len - (intOf iv).toNat)
  case atStart => exact ⟨0, A, [108, 101, 110, 40], 0, p, rfl, rfl, rfl, by omega, HALL.out, HFA0.out, fun g k e _ => ⟨k, e, by omega⟩, rfl, Nat.zero_max _, HB0.out, HBX.out⟩
  case round =>
    obtain ⟨i, r, Y, m, pr, rfl, rfl, rfl, hil, hal, hfr, hpr, hY, hm, hb, hx⟩ := hrel
    have q0 := hx.c0
    have q3 := hx.c3
    cases r with
    | nil =>
      have hil2 : i = A.len := by simpa [F.len] using hil
      have hie : ¬ (i : Int) < (A.len : Int) := by omega
      have hYe : [108, 101, 110, 40] ++ commas (txF A) = Y := by rw [hY]; simp [txF, tailL_nil]
      have hme : m = most (txF A) := by rw [← hm]; simp [txF, most]
      have HB := Lib.hid hb
      have hYl : Y.length ≤ 100000100 := by rw [← hYe]; simp; omega
      have ha : ∀ w, (Op.stringOp .add (S Y) ⟨#[41]⟩).run Tryz.prog w = .ok (.string TX) w := fun w => (add_run Y [41] (by simp; omega) w).trans (by rw [HTX.out, hYe])
      have hmi : (m : Int) ≤ 100000 := by omega
      have HCA := Lib.hid (show (m : Int) + 1 = O by rw [HO.out, ← hme]; omega)
      clear hfr hpr hal hY hx hm hYe hme hb
      go_wp2_with fail
      go_ret2
      exact ⟨by rw [← HCA.out]; rfl, HB.out⟩
    | cons op nm tt a r =>
      obtain ⟨g, k, q, cc, rfl, hgk, hgl, f0, f1, f2, f3, hfa, hfr2⟩ := hfr
      obtain ⟨k0, rfl, rfl⟩ := hpr g k rfl (by intro e; cases e)
      have hil2 : i + (r.len + 1) = A.len := by simpa [F.len] using hil
      have hie : (i : Int) < (A.len : Int) := by omega
      rw [show k0 + 4 * i = k0 + i * 4 by omega] at f0 f1 f2 f3
      obtain ⟨x, hxe⟩ : ∃ x, x = T.tx ⟨op, nm, tt, a⟩ := ⟨_, rfl⟩
      have htx : txF (.cons op nm tt a r) = x :: txF r := by rw [hxe]; rfl
      rw [htx] at hY hm
      rw [tailL_cons] at hY
      have hYl : Y.length + (if i = 0 then ([] : List UInt8) else [44, 32]).length + x.text.length ≤ 4 + (commas (txF A)).length := by
        have := congrArg List.length hY
        simp only [List.length_append, List.length_cons, List.length_nil] at this ⊢
        omega
      have HM := Lib.hid (show max (max m x.open_) (most (txF r)) = most (txF A) by
        have : max m (max x.open_ (most (txF r))) = most (txF A) := hm
        omega)
      have hmi : (m : Int) ≤ 100000 := by
        have : max m (max x.open_ (most (txF r))) = most (txF A) := hm
        omega
      have hxi : (x.open_ : Int) ≤ 100000 := by
        have : max m (max x.open_ (most (txF r))) = most (txF A) := hm
        omega
      have HMAX := Lib.hid (show max (m : Int) (x.open_ : Int) = ((max m x.open_ : Nat) : Int) by omega)
      have HC := hal.1 q cc wr hfa
      rw [← hxe] at HC
      have HCALL := Lib.hid HC
      have HFR := Lib.hid hfr2
      have HB := Lib.hid hb
      have HX := Lib.hid hx
      have HAL := Lib.hid hal.2
      by_cases hi0 : i = 0
      · subst hi0
        simp only [Nat.mul_zero, Nat.zero_mul, Nat.add_zero, Nat.zero_add, if_true, List.length_nil] at hil hil2 hY hYl f0 f1 f2 f3 HFR
        have HY := Lib.hid (show [108, 101, 110, 40] ++ commas (txF A) = (Y ++ x.text) ++ tailL 1 (txF r) by rw [hY]; simp)
        have HAD := Lib.hid (fun w => add_run Y x.text (by omega) w)
        have e1 : ((0 : Nat) : Int) = 0 := rfl
        clear HC hal hfa hfr2 hb hx hm hY hYl htx hxe hpr hgk hil
        go_wp2_with fail
        refine HCALL.out.mono ?_
        rintro e w5 ⟨rfl, b5⟩
        have HB5 := Lib.hid (HB.out.trans (b5.mono HB.out.size))
        have HF5 := Lib.hid (HFR.out.keep (Kept.of_below b5))
        have HX5 := Lib.hid (HX.out.keep (Kept.of_below (ok := fun _ => True) b5) trivial)
        have ha := HAD.out
        obtain ⟨R, hR⟩ : ∃ R, R = S (Y ++ x.text) := ⟨_, rfl⟩
        rw [← hR] at ha
        have HR := Lib.hid hR
        clear b5 hR
        go_wp2_with fail
        go_roundw
        case rel => exact ⟨1, r, Y ++ x.text, max m x.open_, some ⟨g, k0 + 4, none⟩, by rw [← HR.out], by rw [← HMAX.out] <;> (try rfl), by go_num, by omega, HAL.out, HF5.out, fun g' k' e _ => by injection e with e; injection e with e1 e2 _; subst e1 e2; exact ⟨k0, rfl, by omega⟩, HY.out, HM.out, HB5.out, HX5.out⟩
        case measure => simp [intOf]; omega
      · have hi1 : (0 : Int) < (i : Int) := by omega
        rw [if_neg hi0] at hY hYl
        simp only [List.length_cons, List.length_nil] at hYl
        have HY := Lib.hid (show [108, 101, 110, 40] ++ commas (txF A) = ((Y ++ [44, 32]) ++ x.text) ++ tailL (i + 1) (txF r) by rw [hY]; simp)
        have HAC := Lib.hid (fun w => add_run Y [44, 32] (by simp; omega) w)
        have HAD := Lib.hid (fun w => add_run (Y ++ [44, 32]) x.text (by simp; omega) w)
        clear HC hal hfa hfr2 hb hx hm hY hYl htx hxe hpr hgk
        go_wp2_with fail
        refine HCALL.out.mono ?_
        rintro e w5 ⟨rfl, b5⟩
        have HB5 := Lib.hid (HB.out.trans (b5.mono HB.out.size))
        have HF5 := Lib.hid (HFR.out.keep (Kept.of_below b5))
        have HX5 := Lib.hid (HX.out.keep (Kept.of_below (ok := fun _ => True) b5) trivial)
        have ha : ∀ w, (Op.stringOp .add (S Y) ⟨#[44, 32]⟩).run Tryz.prog w = .ok (.string (S (Y ++ [44, 32]))) w := HAC.out
        have ha2 := HAD.out
        obtain ⟨R, hR⟩ : ∃ R, R = S (Y ++ [44, 32] ++ x.text) := ⟨_, rfl⟩
        rw [← hR] at ha2
        have HR := Lib.hid hR
        generalize S (Y ++ [44, 32]) = R1 at ha ha2
        clear b5 hR
        go_wp2_with fail
        go_roundw
        case rel => exact ⟨i + 1, r, (Y ++ [44, 32]) ++ x.text, max m x.open_, some ⟨g, k0 + 4 * i + 4, none⟩, by rw [← HR.out], by rw [← HMAX.out] <;> (try rfl), by go_num, by omega, HAL.out, HF5.out, fun g' k' e _ => by injection e with e; injection e with e1 e2 _; subst e1 e2; exact ⟨k0, rfl, by omega⟩, HY.out, HM.out, HB5.out, HX5.out⟩
        case measure => simp [intOf]; omega
set_option maxRecDepth 100000 in
set_option maxHeartbeats 8000000 in
theorem rtext_25 (num : Int) (tx : List UInt8) (A : F) (hA : RtxAll A) (hlen : A.len ≤ 281474976710656) (hl : (commas (txF A)).length ≤ 100000000) (ho : most (txF A) ≤ 100000) : RtxC ⟨25, num, tx, A⟩ := by
  intro p c w hfa
  have e : T.tx ⟨25, num, tx, A⟩ = ⟨25, [97, 116, 40] ++ commas (txF A) ++ [41], most (txF A) + 1⟩ := rfl
  rw [e]
  dsimp only
  clear e
  obtain ⟨TX, hTX⟩ : ∃ TX, TX = S ([97, 116, 40] ++ commas (txF A) ++ [41]) := ⟨_, rfl⟩
  obtain ⟨O, hO⟩ : ∃ O : Int, O = ((most (txF A) + 1 : Nat) : Int) := ⟨_, rfl⟩
  rw [← hTX, ← hO]
  have HTX := Lib.hid hTX
  have HO := Lib.hid hO
  clear hTX hO
  have hb0 := (Below.refl w.heap.size w).alloc (Nat.le_refl _) (.cells #[.int .i64 25, .int .i64 num, .string (S tx), .slice p A.len c] 24)
  have hbx := Bx.new w (.int .i64 25) (.int .i64 num) (.string (S tx)) (.slice p A.len c)
  have HFA0 := Lib.hid (hfa.keep (Kept.of_below hb0))
  have HB0 := Lib.hid hb0
  have HBX := Lib.hid hbx
  have HALL := Lib.hid hA
  clear hb0 hbx hfa hA
  have hki : (A.len : Int) ≤ 281474976710656 := by omega
  go_enter Tryz.func37, Tryz.ntmps37
  go_wp2_with fail
  go_loopw [6, 7, 89] (fun sv mv iv wr => ∃ (i : Nat) (r : F) (Y : List UInt8) (m : Nat) (pr : Option Addr), sv = .string (S Y) ∧ mv = .int .i64 (m : Int) ∧ iv = .int .i64 i ∧ i + r.len = A.len ∧ RtxAll r ∧ FAt wr (fun _ => True) r pr ∧ (∀ g k, pr = some ⟨g, k, none⟩ → r ≠ .nil → ∃ k0, p = some ⟨g, k0, none⟩ ∧ k = k0 + 4 * i) ∧
    [97, 116, 40] ++ commas (txF A) = Y ++ tailL i (txF r) ∧ max m (most (txF r)) = most (txF A) ∧ Below w.heap.size w wr ∧ Bx wr w.heap.size (.int .i64 25) (.int .i64 num) (.string (S tx)) (.slice p A.len c)) (fun _ _ iv _ => A.len - (intOf iv).toNat)
  case atStart => exact ⟨0, A, [97, 116, 40], 0, p, rfl, rfl, rfl, by omega, HALL.out, HFA0.out, fun g k e _ => ⟨k, e, by omega⟩, rfl, Nat.zero_max _, HB0.out, HBX.out⟩
  case round =>
    obtain ⟨i, r, Y, m, pr, rfl, rfl, rfl, hil, hal, hfr, hpr, hY, hm, hb, hx⟩ := hrel
    have q0 := hx.c0
    have q3 := hx.c3
    cases r with
    | nil =>
      have hil2 : i = A.len := by simpa [F.len] using hil
      have hie : ¬ (i : Int) < (A.len : Int) := by omega
      have hYe : [97, 116, 40] ++ commas (txF A) = Y := by rw [hY]; simp [txF, tailL_nil]
      have hme : m = most (txF A) := by rw [← hm]; simp [txF, most]
      have HB := Lib.hid hb
      have hYl : Y.length ≤ 100000100 := by rw [← hYe]; simp; omega
      have ha : ∀ w, (Op.stringOp .add (S Y) ⟨#[41]⟩).run Tryz.prog w = .ok (.string TX) w := fun w => (add_run Y [41] (by simp; omega) w).trans (by rw [HTX.out, hYe])
      have hmi : (m : Int) ≤ 100000 := by omega
      have HCA := Lib.hid (show (m : Int) + 1 = O by rw [HO.out, ← hme]; omega)
      clear hfr hpr hal hY hx hm hYe hme hb
      go_wp2_with fail
      go_ret2
      exact ⟨by rw [← HCA.out]; rfl, HB.out⟩
    | cons op nm tt a r =>
      obtain ⟨g, k, q, cc, rfl, hgk, hgl, f0, f1, f2, f3, hfa, hfr2⟩ := hfr
      obtain ⟨k0, rfl, rfl⟩ := hpr g k rfl (by intro e; cases e)
      have hil2 : i + (r.len + 1) = A.len := by simpa [F.len] using hil
      have hie : (i : Int) < (A.len : Int) := by omega
      rw [show k0 + 4 * i = k0 + i * 4 by omega] at f0 f1 f2 f3
      obtain ⟨x, hxe⟩ : ∃ x, x = T.tx ⟨op, nm, tt, a⟩ := ⟨_, rfl⟩
      have htx : txF (.cons op nm tt a r) = x :: txF r := by rw [hxe]; rfl
      rw [htx] at hY hm
      rw [tailL_cons] at hY
      have hYl : Y.length + (if i = 0 then ([] : List UInt8) else [44, 32]).length + x.text.length ≤ 3 + (commas (txF A)).length := by
        have := congrArg List.length hY
        simp only [List.length_append, List.length_cons, List.length_nil] at this ⊢
        omega
      have HM := Lib.hid (show max (max m x.open_) (most (txF r)) = most (txF A) by
        have : max m (max x.open_ (most (txF r))) = most (txF A) := hm
        omega)
      have hmi : (m : Int) ≤ 100000 := by
        have : max m (max x.open_ (most (txF r))) = most (txF A) := hm
        omega
      have hxi : (x.open_ : Int) ≤ 100000 := by
        have : max m (max x.open_ (most (txF r))) = most (txF A) := hm
        omega
      have HMAX := Lib.hid (show max (m : Int) (x.open_ : Int) = ((max m x.open_ : Nat) : Int) by omega)
      have HC := hal.1 q cc wr hfa
      rw [← hxe] at HC
      have HCALL := Lib.hid HC
      have HFR := Lib.hid hfr2
      have HB := Lib.hid hb
      have HX := Lib.hid hx
      have HAL := Lib.hid hal.2
      by_cases hi0 : i = 0
      · subst hi0
        simp only [Nat.mul_zero, Nat.zero_mul, Nat.add_zero, Nat.zero_add, if_true, List.length_nil] at hil hil2 hY hYl f0 f1 f2 f3 HFR
        have HY := Lib.hid (show [97, 116, 40] ++ commas (txF A) = (Y ++ x.text) ++ tailL 1 (txF r) by rw [hY]; simp)
        have HAD := Lib.hid (fun w => add_run Y x.text (by omega) w)
        have e1 : ((0 : Nat) : Int) = 0 := rfl
        clear HC hal hfa hfr2 hb hx hm hY hYl htx hxe hpr hgk hil
        go_wp2_with fail
        refine HCALL.out.mono ?_
        rintro e w5 ⟨rfl, b5⟩
        have HB5 := Lib.hid (HB.out.trans (b5.mono HB.out.size))
        have HF5 := Lib.hid (HFR.out.keep (Kept.of_below b5))
        have HX5 := Lib.hid (HX.out.keep (Kept.of_below (ok := fun _ => True) b5) trivial)
        have ha := HAD.out
        obtain ⟨R, hR⟩ : ∃ R, R = S (Y ++ x.text) := ⟨_, rfl⟩
        rw [← hR] at ha
        have HR := Lib.hid hR
        clear b5 hR
        go_wp2_with fail
        go_roundw
        case rel => exact ⟨1, r, Y ++ x.text, max m x.open_, some ⟨g, k0 + 4, none⟩, by rw [← HR.out], by rw [← HMAX.out] <;> (try rfl), by go_num, by omega, HAL.out, HF5.out, fun g' k' e _ => by injection e with e; injection e with e1 e2 _; subst e1 e2; exact ⟨k0, rfl, by omega⟩, HY.out, HM.out, HB5.out, HX5.out⟩
        case measure => simp [intOf]; omega
      · have hi1 : (0 : Int) < (i : Int) := by omega
        rw [if_neg hi0] at hY hYl
        simp only [List.length_cons, List.length_nil] at hYl
        have HY := Lib.hid (show [97, 116, 40] ++ commas (txF A) = ((Y ++ [44, 32]) ++ x.text) ++ tailL (i + 1) (txF r) by rw [hY]; simp)
        have HAC := Lib.hid (fun w => add_run Y [44, 32] (by simp; omega) w)
        have HAD := Lib.hid (fun w => add_run (Y ++ [44, 32]) x.text (by simp; omega) w)
        clear HC hal hfa hfr2 hb hx hm hY hYl htx hxe hpr hgk
        go_wp2_with fail
        refine HCALL.out.mono ?_
        rintro e w5 ⟨rfl, b5⟩
        have HB5 := Lib.hid (HB.out.trans (b5.mono HB.out.size))
        have HF5 := Lib.hid (HFR.out.keep (Kept.of_below b5))
        have HX5 := Lib.hid (HX.out.keep (Kept.of_below (ok := fun _ => True) b5) trivial)
        have ha : ∀ w, (Op.stringOp .add (S Y) ⟨#[44, 32]⟩).run Tryz.prog w = .ok (.string (S (Y ++ [44, 32]))) w := HAC.out
        have ha2 := HAD.out
        obtain ⟨R, hR⟩ : ∃ R, R = S (Y ++ [44, 32] ++ x.text) := ⟨_, rfl⟩
        rw [← hR] at ha2
        have HR := Lib.hid hR
        generalize S (Y ++ [44, 32]) = R1 at ha ha2
        clear b5 hR
        go_wp2_with fail
        go_roundw
        case rel => exact ⟨i + 1, r, (Y ++ [44, 32]) ++ x.text, max m x.open_, some ⟨g, k0 + 4 * i + 4, none⟩, by rw [← HR.out], by rw [← HMAX.out] <;> (try rfl), by go_num, by omega, HAL.out, HF5.out, fun g' k' e _ => by injection e with e; injection e with e1 e2 _; subst e1 e2; exact ⟨k0, rfl, by omega⟩, HY.out, HM.out, HB5.out, HX5.out⟩
        case measure => simp [intOf]; omega
set_option maxRecDepth 100000 in
set_option maxHeartbeats 8000000 in
theorem rtext_26 (num : Int) (tx : List UInt8) (A : F) (hA : RtxAll A) (hlen : A.len ≤ 281474976710656) (hl : (commas (txF A)).length ≤ 100000000) (ho : most (txF A) ≤ 100000) : RtxC ⟨26, num, tx, A⟩ := by
  intro p c w hfa
  have e : T.tx ⟨26, num, tx, A⟩ = ⟨26, [112, 117, 115, 104, 40] ++ commas (txF A) ++ [41], most (txF A) + 1⟩ := rfl
  rw [e]
  dsimp only
  clear e
  obtain ⟨TX, hTX⟩ : ∃ TX, TX = S ([112, 117, 115, 104, 40] ++ commas (txF A) ++ [41]) := ⟨_, rfl⟩
  obtain ⟨O, hO⟩ : ∃ O : Int, O = ((most (txF A) + 1 : Nat) : Int) := ⟨_, rfl⟩
  rw [← hTX, ← hO]
  have HTX := Lib.hid hTX
  have HO := Lib.hid hO
  clear hTX hO
  have hb0 := (Below.refl w.heap.size w).alloc (Nat.le_refl _) (.cells #[.int .i64 26, .int .i64 num, .string (S tx), .slice p A.len c] 24)
  have hbx := Bx.new w (.int .i64 26) (.int .i64 num) (.string (S tx)) (.slice p A.len c)
  have HFA0 := Lib.hid (hfa.keep (Kept.of_below hb0))
  have HB0 := Lib.hid hb0
  have HBX := Lib.hid hbx
  have HALL := Lib.hid hA
  clear hb0 hbx hfa hA
  have hki : (A.len : Int) ≤ 281474976710656 := by omega
  go_enter Tryz.func37, Tryz.ntmps37
  go_wp2_with fail
  go_loopw [6, 7, 89] (fun sv mv iv wr => ∃ (i : Nat) (r : F) (Y : List UInt8) (m : Nat) (pr : Option Addr), sv = .string (S Y) ∧ mv = .int .i64 (m : Int) ∧ iv = .int .i64 i ∧ i + r.len = A.len ∧ RtxAll r ∧ FAt wr (fun _ => True) r pr ∧ (∀ g k, pr = some ⟨g, k, none⟩ → r ≠ .nil → ∃ k0, p = some ⟨g, k0, none⟩ ∧ k = k0 + 4 * i) ∧
    [112, 117, 115, 104, 40] ++ commas (txF A) = Y ++ tailL i (txF r) ∧ max m (most (txF r)) = most (txF A) ∧ Below w.heap.size w wr ∧ Bx wr w.heap.size (.int .i64 26) (.int .i64 num) (.string (S tx)) (.slice p A.len c)) (fun _ _ iv _ => A.len - (intOf iv).toNat)
  case atStart => exact ⟨0, A, [112, 117, 115, 104, 40], 0, p, rfl, rfl, rfl, by omega, HALL.out, HFA0.out, fun g k e _ => ⟨k, e, by omega⟩, rfl, Nat.zero_max _, HB0.out, HBX.out⟩
  case round =>
    obtain ⟨i, r, Y, m, pr, rfl, rfl, rfl, hil, hal, hfr, hpr, hY, hm, hb, hx⟩ := hrel
    have q0 := hx.c0
    have q3 := hx.c3
    cases r with
    | nil =>
      have hil2 : i = A.len := by simpa [F.len] using hil
      have hie : ¬ (i : Int) < (A.len : Int) := by omega
      have hYe : [112, 117, 115, 104, 40] ++ commas (txF A) = Y := by rw [hY]; simp [txF, tailL_nil]
      have hme : m = most (txF A) := by rw [← hm]; simp [txF, most]
      have HB := Lib.hid hb
      have hYl : Y.length ≤ 100000100 := by rw [← hYe]; simp; omega
      have ha : ∀ w, (Op.stringOp .add (S Y) ⟨#[41]⟩).run Tryz.prog w = .ok (.string TX) w := fun w => (add_run Y [41] (by simp; omega) w).trans (by rw [HTX.out, hYe])
      have hmi : (m : Int) ≤ 100000 := by omega
      have HCA := Lib.hid (show (m : Int) + 1 = O by rw [HO.out, ← hme]; omega)
      clear hfr hpr hal hY hx hm hYe hme hb
      go_wp2_with fail
      go_ret2
      exact ⟨by rw [← HCA.out]; rfl, HB.out⟩
    | cons op nm tt a r =>
      obtain ⟨g, k, q, cc, rfl, hgk, hgl, f0, f1, f2, f3, hfa, hfr2⟩ := hfr
      obtain ⟨k0, rfl, rfl⟩ := hpr g k rfl (by intro e; cases e)
      have hil2 : i + (r.len + 1) = A.len := by simpa [F.len] using hil
      have hie : (i : Int) < (A.len : Int) := by omega
      rw [show k0 + 4 * i = k0 + i * 4 by omega] at f0 f1 f2 f3
      obtain ⟨x, hxe⟩ : ∃ x, x = T.tx ⟨op, nm, tt, a⟩ := ⟨_, rfl⟩
      have htx : txF (.cons op nm tt a r) = x :: txF r := by rw [hxe]; rfl
      rw [htx] at hY hm
      rw [tailL_cons] at hY
      have hYl : Y.length + (if i = 0 then ([] : List UInt8) else [44, 32]).length + x.text.length ≤ 5 + (commas (txF A)).length := by
        have := congrArg List.length hY
        simp only [List.length_append, List.length_cons, List.length_nil] at this ⊢
        omega
      have HM := Lib.hid (show max (max m x.open_) (most (txF r)) = most (txF A) by
        have : max m (max x.open_ (most (txF r))) = most (txF A) := hm
        omega)
      have hmi : (m : Int) ≤ 100000 := by
        have : max m (max x.open_ (most (txF r))) = most (txF A) := hm
        omega
      have hxi : (x.open_ : Int) ≤ 100000 := by
        have : max m (max x.open_ (most (txF r))) = most (txF A) := hm
        omega
      have HMAX := Lib.hid (show max (m : Int) (x.open_ : Int) = ((max m x.open_ : Nat) : Int) by omega)
      have HC := hal.1 q cc wr hfa
      rw [← hxe] at HC
      have HCALL := Lib.hid HC
      have HFR := Lib.hid hfr2
      have HB := Lib.hid hb
      have HX := Lib.hid hx
      have HAL := Lib.hid hal.2
      by_cases hi0 : i = 0
      · subst hi0
        simp only [Nat.mul_zero, Nat.zero_mul, Nat.add_zero, Nat.zero_add, if_true, List.length_nil] at hil hil2 hY hYl f0 f1 f2 f3 HFR
        have HY := Lib.hid (show [112, 117, 115, 104, 40] ++ commas (txF A) = (Y ++ x.text) ++ tailL 1 (txF r) by rw [hY]; simp)
        have HAD := Lib.hid (fun w => add_run Y x.text (by omega) w)
        have e1 : ((0 : Nat) : Int) = 0 := rfl
        clear HC hal hfa hfr2 hb hx hm hY hYl htx hxe hpr hgk hil
        go_wp2_with fail
        refine HCALL.out.mono ?_
        rintro e w5 ⟨rfl, b5⟩
        have HB5 := Lib.hid (HB.out.trans (b5.mono HB.out.size))
        have HF5 := Lib.hid (HFR.out.keep (Kept.of_below b5))
        have HX5 := Lib.hid (HX.out.keep (Kept.of_below (ok := fun _ => True) b5) trivial)
        have ha := HAD.out
        obtain ⟨R, hR⟩ : ∃ R, R = S (Y ++ x.text) := ⟨_, rfl⟩
        rw [← hR] at ha
        have HR := Lib.hid hR
        clear b5 hR
        go_wp2_with fail
        go_roundw
        case rel => exact ⟨1, r, Y ++ x.text, max m x.open_, some ⟨g, k0 + 4, none⟩, by rw [← HR.out], by rw [← HMAX.out] <;> (try rfl), by go_num, by omega, HAL.out, HF5.out, fun g' k' e _ => by injection e with e; injection e with e1 e2 _; subst e1 e2; exact ⟨k0, rfl, by omega⟩, HY.out, HM.out, HB5.out, HX5.out⟩
        case measure => simp [intOf]; omega
      · have hi1 : (0 : Int) < (i : Int) := by omega
        rw [if_neg hi0] at hY hYl
        simp only [List.length_cons, List.length_nil] at hYl
        have HY := Lib.hid (show [112, 117, 115, 104, 40] ++ commas (txF A) = ((Y ++ [44, 32]) ++ x.text) ++ tailL (i + 1) (txF r) by rw [hY]; simp)
        have HAC := Lib.hid (fun w => add_run Y [44, 32] (by simp; omega) w)
        have HAD := Lib.hid (fun w => add_run (Y ++ [44, 32]) x.text (by simp; omega) w)
        clear HC hal hfa hfr2 hb hx hm hY hYl htx hxe hpr hgk
        go_wp2_with fail
        refine HCALL.out.mono ?_
        rintro e w5 ⟨rfl, b5⟩
        have HB5 := Lib.hid (HB.out.trans (b5.mono HB.out.size))
        have HF5 := Lib.hid (HFR.out.keep (Kept.of_below b5))
        have HX5 := Lib.hid (HX.out.keep (Kept.of_below (ok := fun _ => True) b5) trivial)
        have ha : ∀ w, (Op.stringOp .add (S Y) ⟨#[44, 32]⟩).run Tryz.prog w = .ok (.string (S (Y ++ [44, 32]))) w := HAC.out
        have ha2 := HAD.out
        obtain ⟨R, hR⟩ : ∃ R, R = S (Y ++ [44, 32] ++ x.text) := ⟨_, rfl⟩
        rw [← hR] at ha2
        have HR := Lib.hid hR
        generalize S (Y ++ [44, 32]) = R1 at ha ha2
        clear b5 hR
        go_wp2_with fail
        go_roundw
        case rel => exact ⟨i + 1, r, (Y ++ [44, 32]) ++ x.text, max m x.open_, some ⟨g, k0 + 4 * i + 4, none⟩, by rw [← HR.out], by rw [← HMAX.out] <;> (try rfl), by go_num, by omega, HAL.out, HF5.out, fun g' k' e _ => by injection e with e; injection e with e1 e2 _; subst e1 e2; exact ⟨k0, rfl, by omega⟩, HY.out, HM.out, HB5.out, HX5.out⟩
        case measure => simp [intOf]; omega
end Go.Proofs.YtabbdkdpmpjchaaGreatDoor.Ex

namespace Go.Proofs.YtabbdkdpmpjchaaGreatDoor.Ex
open Go.RowKit
open Lx Va
set_option linter.unusedVariables false
set_option linter.unusedSimpArgs false
set_option maxRecDepth 100000 in
set_option maxHeartbeats 8000000 in
theorem rtext_bin (op num : Int) (tx : List UInt8) (x y : T) (hx : RtxC x) (hy : RtxC y) (n : Nat) (hn : n = bound op) (hn5 : n ≤ 5)
    (hop : 20 ≤ op) (h25 : op ≠ 25) (h26 : op ≠ 26)
    (hlx : x.tx.text.length ≤ 100000) (hox : x.tx.open_ ≤ 100000) (hly : y.tx.text.length ≤ 100000) (hoy : y.tx.open_ ≤ 100000) : RtxC ⟨op, num, tx, .cons x.op x.num x.text x.args (.cons y.op y.num y.text y.args .nil)⟩ := by
  intro p c w hfa
  have e : T.tx ⟨op, num, tx, .cons x.op x.num x.text x.args (.cons y.op y.num y.text y.args .nil)⟩ = ⟨op, (x.tx.within (if n = 2 then 3 else n)).1 ++ [32] ++ signL op ++ [32] ++ (y.tx.within (n + 1)).1, max (x.tx.within (if n = 2 then 3 else n)).2 (y.tx.within (n + 1)).2⟩ := by
    rw [hn]
    show nodeTx op num tx [x.tx, y.tx] = _
    unfold nodeTx
    rw [if_neg (by omega), if_neg (by omega), if_neg (by omega), if_neg (by omega), if_neg (by omega), if_neg (by omega)]
  have hP1 := within_len x.tx (if n = 2 then 3 else n)
  have hQ1 := within_len y.tx (n + 1)
  have hsl := sign_len op
  have HW1 := Lib.hid (fun lv (h : lv ≤ 10) => rwithin_any x hx hlx hox lv h)
  have HW2 := Lib.hid (rwithin_any y hy hly hoy (n + 1) (by omega))
  obtain ⟨P, hP⟩ : ∃ P, P = x.tx.within (if n = 2 then 3 else n) := ⟨_, rfl⟩
  obtain ⟨Q, hQ⟩ : ∃ Q, Q = y.tx.within (n + 1) := ⟨_, rfl⟩
  rw [← hP, ← hQ] at e
  rw [← hP] at hP1
  rw [← hQ] at hQ1 HW2
  rw [e]
  dsimp only
  clear e
  obtain ⟨R4, hR4⟩ : ∃ R4, R4 = S (P.1 ++ [32] ++ signL op ++ [32] ++ Q.1) := ⟨_, rfl⟩
  obtain ⟨O, hO⟩ : ∃ O : Int, O = ((max P.2 Q.2 : Nat) : Int) := ⟨_, rfl⟩
  rw [← hR4, ← hO]
  have e1 : (op == 1) = false := by rw [beq_eq_false_iff_ne]; omega
  have e2 : (op == 2) = false := by rw [beq_eq_false_iff_ne]; omega
  have e3 : (op == 3) = false := by rw [beq_eq_false_iff_ne]; omega
  have e4 : (op == 4) = false := by rw [beq_eq_false_iff_ne]; omega
  have e6 : (op == 6) = false := by rw [beq_eq_false_iff_ne]; omega
  have e7 : (op == 7) = false := by rw [beq_eq_false_iff_ne]; omega
  have e10 : (op == 10) = false := by rw [beq_eq_false_iff_ne]; omega
  have e11 : (op == 11) = false := by rw [beq_eq_false_iff_ne]; omega
  have e5 : (op == 5) = false := by rw [beq_eq_false_iff_ne]; omega
  have e12 : (op == 12) = false := by rw [beq_eq_false_iff_ne]; omega
  have e25 : (op == 25) = false := by rw [beq_eq_false_iff_ne]; omega
  have e26 : (op == 26) = false := by rw [beq_eq_false_iff_ne]; omega
  have hb0 := (Below.refl w.heap.size w).alloc (Nat.le_refl _) (.cells #[.int .i64 op, .int .i64 num, .string (S tx), .slice p 2 c] 24)
  have hbx := Bx.new w (.int .i64 op) (.int .i64 num) (.string (S tx)) (.slice p 2 c)
  obtain ⟨g, k, q, cc, rfl, hgk, hgl, f0, f1, f2, f3, hfa1, hfr⟩ := hfa
  obtain ⟨g2, k2, q2, c2, e2, hgk2, hgl2, g0, g1, g2', g3, hfa2, _⟩ := hfr
  injection e2 with e2
  injection e2 with e21 e22 _
  subst e21 e22
  rw [← hb0.cell (p := ⟨g, _, none⟩) hgl] at f0 f1 f2 f3 g0 g1 g2' g3
  have hgl1 := Nat.lt_of_lt_of_le hgl hb0.size
  have HFA := Lib.hid (hfa1.keep (Kept.of_below hb0))
  have HGA := Lib.hid (hfa2.keep (Kept.of_below hb0))
  have HB0 := Lib.hid hb0
  have HBX := Lib.hid hbx
  have HBD := Lib.hid (fun wr => rbound_any op wr)
  rw [← hn] at HBD
  have HSG := Lib.hid (fun wr => rsign_any op wr)
  have HA1 := Lib.hid (fun w => add_run P.1 [32] (by simp; omega) w)
  have HA2 := Lib.hid (fun w => add_run (P.1 ++ [32]) (signL op) (by simp; omega) w)
  have HA3 := Lib.hid (fun w => add_run (P.1 ++ [32] ++ signL op) [32] (by simp; omega) w)
  have HA4 := Lib.hid (fun w => add_run (P.1 ++ [32] ++ signL op ++ [32]) Q.1 (by simp; omega) w)
  rw [← hR4] at HA4
  have HMAX := Lib.hid (show max (P.2 : Int) (Q.2 : Int) = O by omega)
  clear hR4 hO
  have hp2 : (P.2 : Int) ≤ 200000 := by omega
  have hq2 : (Q.2 : Int) ≤ 200000 := by omega
  have hn1 : (n : Int) ≤ 5 := by omega
  have hn0 : (0 : Int) ≤ (n : Int) := by omega
  have HN1 := Lib.hid (show ((n + 1 : Nat) : Int) = (n : Int) + 1 by omega)
  rw [HN1.out] at HW2
  clear hb0 hbx hfa1 hfa2 hx hy hgk hgk2 hgl2 hn hQ hP1 hQ1 hsl
  show Calls _ _ #[.agg #[.int .i64 op, .int .i64 num, .string (S tx), .slice (some ⟨g, k, none⟩) 2 c]] _ _
  by_cases h2 : n = 2
  · subst h2
    rw [if_pos rfl] at hP
    have HC1 := Lib.hid (HW1.out 3 (by decide) q cc _ HFA.out)
    rw [← hP] at HC1
    clear hP
    go_enter Tryz.func37, Tryz.ntmps37
    go_wp2_with fail
    refine (HBD.out _).mono ?_
    rintro e w1 ⟨rfl, rfl⟩
    go_wp2_with fail
    refine HC1.out.mono ?_
    rintro e w2 ⟨rfl, b2⟩
    have HB2 := Lib.hid (HB0.out.trans (b2.mono HB0.out.size))
    have hx2 := HBX.out.keep (Kept.of_below (ok := fun _ => True) b2) trivial
    have q0 := hx2.c0
    have q3 := hx2.c3
    rw [← b2.cell (p := ⟨g, _, none⟩) hgl1] at g0 g1 g2' g3
    have hgl2 := Nat.lt_of_lt_of_le hgl1 b2.size
    have HX2 := Lib.hid hx2
    have HC2 := Lib.hid (HW2.out q2 c2 w2 (HGA.out.keep (Kept.of_below b2)))
    clear b2 hx2
    go_wp2_with fail
    refine HC2.out.mono ?_
    rintro e w3 ⟨rfl, b3⟩
    have HB3 := Lib.hid (HB2.out.trans (b3.mono HB2.out.size))
    have hx3 := HX2.out.keep (Kept.of_below (ok := fun _ => True) b3) trivial
    have q0 := hx3.c0
    have ha1 : ∀ w, (Op.stringOp .add (S P.1) ⟨#[32]⟩).run Tryz.prog w = .ok (.string (S (P.1 ++ [32]))) w := HA1.out
    have ha2 := HA2.out
    have ha3 : ∀ w, (Op.stringOp .add (S (P.1 ++ [32] ++ signL op)) ⟨#[32]⟩).run Tryz.prog w = .ok (.string (S (P.1 ++ [32] ++ signL op ++ [32]))) w := HA3.out
    have ha4 := HA4.out
    have HSG3 := Lib.hid (HSG.out w3)
    generalize S (P.1 ++ [32] ++ signL op ++ [32]) = R3 at *
    generalize S (P.1 ++ [32] ++ signL op) = R2 at *
    generalize S (P.1 ++ [32]) = R1 at *
    generalize S (signL op) = R0 at *
    clear b3 hx3
    go_wp2_with fail
    refine HSG3.out.mono ?_
    rintro e w4 ⟨rfl, rfl⟩
    go_wp2_with fail
    go_ret2
    exact ⟨by rw [← HMAX.out]; rfl, HB3.out⟩
  · rw [if_neg h2] at hP
    have hne : ((n : Int) == 2) = false := by rw [beq_eq_false_iff_ne]; omega
    have HC1 := Lib.hid (HW1.out n (by omega) q cc _ HFA.out)
    rw [← hP] at HC1
    clear hP
    go_enter Tryz.func37, Tryz.ntmps37
    go_wp2_with fail
    refine (HBD.out _).mono ?_
    rintro e w1 ⟨rfl, rfl⟩
    go_wp2_with fail
    refine HC1.out.mono ?_
    rintro e w2 ⟨rfl, b2⟩
    have HB2 := Lib.hid (HB0.out.trans (b2.mono HB0.out.size))
    have hx2 := HBX.out.keep (Kept.of_below (ok := fun _ => True) b2) trivial
    have q0 := hx2.c0
    have q3 := hx2.c3
    rw [← b2.cell (p := ⟨g, _, none⟩) hgl1] at g0 g1 g2' g3
    have hgl2 := Nat.lt_of_lt_of_le hgl1 b2.size
    have HX2 := Lib.hid hx2
    have HC2 := Lib.hid (HW2.out q2 c2 w2 (HGA.out.keep (Kept.of_below b2)))
    clear b2 hx2
    go_wp2_with fail
    refine HC2.out.mono ?_
    rintro e w3 ⟨rfl, b3⟩
    have HB3 := Lib.hid (HB2.out.trans (b3.mono HB2.out.size))
    have hx3 := HX2.out.keep (Kept.of_below (ok := fun _ => True) b3) trivial
    have q0 := hx3.c0
    have ha1 : ∀ w, (Op.stringOp .add (S P.1) ⟨#[32]⟩).run Tryz.prog w = .ok (.string (S (P.1 ++ [32]))) w := HA1.out
    have ha2 := HA2.out
    have ha3 : ∀ w, (Op.stringOp .add (S (P.1 ++ [32] ++ signL op)) ⟨#[32]⟩).run Tryz.prog w = .ok (.string (S (P.1 ++ [32] ++ signL op ++ [32]))) w := HA3.out
    have ha4 := HA4.out
    have HSG3 := Lib.hid (HSG.out w3)
    generalize S (P.1 ++ [32] ++ signL op ++ [32]) = R3 at *
    generalize S (P.1 ++ [32] ++ signL op) = R2 at *
    generalize S (P.1 ++ [32]) = R1 at *
    generalize S (signL op) = R0 at *
    clear b3 hx3
    go_wp2_with fail
    refine HSG3.out.mono ?_
    rintro e w4 ⟨rfl, rfl⟩
    go_wp2_with fail
    go_ret2
    exact ⟨by rw [← HMAX.out]; rfl, HB3.out⟩
end Go.Proofs.YtabbdkdpmpjchaaGreatDoor.Ex
