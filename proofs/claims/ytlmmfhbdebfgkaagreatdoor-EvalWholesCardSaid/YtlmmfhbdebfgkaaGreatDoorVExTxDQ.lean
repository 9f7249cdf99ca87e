/-
  ExTxD, ExCkA, ExCkB.
-/
import Derived.Test.YtlmmfhbdebfgkaaGreatDoorVExWrHQ
import Derived.Test.YtlmmfhbdebfgkaaGreatDoorVExTxC
import Derived.Test.YtlmmfhbdebfgkaaGreatDoorVExChkQ
import Derived.Deep.DeepCutAuto
set_option linter.unusedVariables false
set_option linter.unusedSimpArgs false
set_option maxRecDepth 100000
set_option maxHeartbeats 8000000
namespace Go.Proofs.YtlmmfhbdebfgkaaGreatDoor.Ex
open Go.RowKit
open Lx Va
theorem rtext_bin (op num : Int) (tx : List UInt8) (x y : T) (hx : RtxC x) (hy : RtxC y) (n : Nat) (hn : n = bound op) (hn5 : n ≤ 5)
    (hop : 20 ≤ op) (h25 : op ≠ 25) (h26 : op ≠ 26)
    (hlx : x.tx.text.length ≤ 100000) (hox : x.tx.open_ ≤ 100000) (hly : y.tx.text.length ≤ 100000) (hoy : y.tx.open_ ≤ 100000) : RtxC ⟨op, num, tx, .cons x.op x.num x.text x.args (.cons y.op y.num y.text y.args .nil)⟩ := by
  intro p c w hfa
  have e : T.tx ⟨op, num, tx, .cons x.op x.num x.text x.args (.cons y.op y.num y.text y.args .nil)⟩ = ⟨op, (x.tx.within (if n = 2 then 3 else n)).1 ++ [32] ++ signL op ++ [32] ++ (y.tx.within (n + 1)).1, max (x.tx.within (if n = 2 then 3 else n)).2 (y.tx.within (n + 1)).2⟩ := by
    rw [hn]
    show nodeTx op num tx [x.tx, y.tx] = _
    unfold nodeTx
    rw [if_neg (by omega), if_neg (by omega), if_neg (by omega), if_neg (by omega), if_neg (by omega), if_neg (by omega)]
  have hP1 := within_len x.tx (if n = 2 then 3 else n)
  have hQ1 := within_len y.tx (n + 1)
  have hsl := sign_len op
  have HW1 := Lib.hid (fun lv (h : lv ≤ 10) => rwithin_any x hx hlx hox lv h)
  have HW2 := Lib.hid (rwithin_any y hy hly hoy (n + 1) (by omega))
  obtain ⟨P, hP⟩ : ∃ P, P = x.tx.within (if n = 2 then 3 else n) := ⟨_, rfl⟩
  obtain ⟨Q, hQ⟩ : ∃ Q, Q = y.tx.within (n + 1) := ⟨_, rfl⟩
  rw [← hP, ← hQ] at e
  rw [← hP] at hP1
  rw [← hQ] at hQ1 HW2
  rw [e]
  dsimp only
  clear e
  obtain ⟨R4, hR4⟩ : ∃ R4, R4 = S (P.1 ++ [32] ++ signL op ++ [32] ++ Q.1) := ⟨_, rfl⟩
  obtain ⟨O, hO⟩ : ∃ O : Int, O = ((max P.2 Q.2 : Nat) : Int) := ⟨_, rfl⟩
  rw [← hR4, ← hO]
  have e1 : (op == 1) = false := by rw [beq_eq_false_iff_ne]; omega
  have e2 : (op == 2) = false := by rw [beq_eq_false_iff_ne]; omega
  have e3 : (op == 3) = false := by rw [beq_eq_false_iff_ne]; omega
  have e4 : (op == 4) = false := by rw [beq_eq_false_iff_ne]; omega
  have e6 : (op == 6) = false := by rw [beq_eq_false_iff_ne]; omega
  have e7 : (op == 7) = false := by rw [beq_eq_false_iff_ne]; omega
  have e10 : (op == 10) = false := by rw [beq_eq_false_iff_ne]; omega
  have e11 : (op == 11) = false := by rw [beq_eq_false_iff_ne]; omega
  have e5 : (op == 5) = false := by rw [beq_eq_false_iff_ne]; omega
  have e12 : (op == 12) = false := by rw [beq_eq_false_iff_ne]; omega
  have e25 : (op == 25) = false := by rw [beq_eq_false_iff_ne]; omega
  have e26 : (op == 26) = false := by rw [beq_eq_false_iff_ne]; omega
  have hb0 := (Below.refl w.heap.size w).alloc (Nat.le_refl _) (.cells #[.int .i64 op, .int .i64 num, .string (S tx), .slice p 2 c] 24)
  have hbx := Bx.new w (.int .i64 op) (.int .i64 num) (.string (S tx)) (.slice p 2 c)
  obtain ⟨g, k, q, cc, rfl, hgk, hgl, f0, f1, f2, f3, hfa1, hfr⟩ := hfa
  obtain ⟨g2, k2, q2, c2, e2, hgk2, hgl2, g0, g1, g2', g3, hfa2, _⟩ := hfr
  injection e2 with e2
  injection e2 with e21 e22 _
  subst e21 e22
  rw [← hb0.cell (p := ⟨g, _, none⟩) hgl] at f0 f1 f2 f3 g0 g1 g2' g3
  have hgl1 := Nat.lt_of_lt_of_le hgl hb0.size
  have HFA := Lib.hid (hfa1.keep (Kept.of_below hb0))
  have HGA := Lib.hid (hfa2.keep (Kept.of_below hb0))
  have HB0 := Lib.hid hb0
  have HBX := Lib.hid hbx
  have HBD := Lib.hid (fun wr => rbound_any op wr)
  rw [← hn] at HBD
  have HSG := Lib.hid (fun wr => rsign_any op wr)
  have HA1 := Lib.hid (fun w => add_run P.1 [32] (by simp; omega) w)
  have HA2 := Lib.hid (fun w => add_run (P.1 ++ [32]) (signL op) (by simp; omega) w)
  have HA3 := Lib.hid (fun w => add_run (P.1 ++ [32] ++ signL op) [32] (by simp; omega) w)
  have HA4 := Lib.hid (fun w => add_run (P.1 ++ [32] ++ signL op ++ [32]) Q.1 (by simp; omega) w)
  rw [← hR4] at HA4
  have HMAX := Lib.hid (show max (P.2 : Int) (Q.2 : Int) = O by omega)
  clear hR4 hO
  have hp2 : (P.2 : Int) ≤ 200000 := by omega
  have hq2 : (Q.2 : Int) ≤ 200000 := by omega
  have hn1 : (n : Int) ≤ 5 := by omega
  have hn0 : (0 : Int) ≤ (n : Int) := by omega
  have HN1 := Lib.hid (show ((n + 1 : Nat) : Int) = (n : Int) + 1 by omega)
  rw [HN1.out] at HW2
  clear hb0 hbx hfa1 hfa2 hx hy hgk hgk2 hgl2 hn hQ hP1 hQ1 hsl
  show Calls _ _ #[.agg #[.int .i64 op, .int .i64 num, .string (S tx), .slice (some ⟨g, k, none⟩) 2 c]] _ _
  by_cases h2 : n = 2
  · subst h2
    rw [if_pos rfl] at hP
    have HC1 := Lib.hid (HW1.out 3 (by decide) q cc _ HFA.out)
    rw [← hP] at HC1
    clear hP
    go_enter Tryz.func59, Tryz.ntmps59
    go_wp2_with fail
    refine (HBD.out _).mono ?_
    rintro e w1 ⟨rfl, rfl⟩
    go_wp2_with fail
    refine HC1.out.mono ?_
    rintro e w2 ⟨rfl, b2⟩
    have HB2 := Lib.hid (HB0.out.trans (b2.mono HB0.out.size))
    have hx2 := HBX.out.keep (Kept.of_below (ok := fun _ => True) b2) trivial
    have q0 := hx2.c0
    have q3 := hx2.c3
    rw [← b2.cell (p := ⟨g, _, none⟩) hgl1] at g0 g1 g2' g3
    have hgl2 := Nat.lt_of_lt_of_le hgl1 b2.size
    have HX2 := Lib.hid hx2
    have HC2 := Lib.hid (HW2.out q2 c2 w2 (HGA.out.keep (Kept.of_below b2)))
    clear b2 hx2
    go_wp2_with fail
    refine HC2.out.mono ?_
    rintro e w3 ⟨rfl, b3⟩
    have HB3 := Lib.hid (HB2.out.trans (b3.mono HB2.out.size))
    have hx3 := HX2.out.keep (Kept.of_below (ok := fun _ => True) b3) trivial
    have q0 := hx3.c0
    have ha1 : ∀ w, (Op.stringOp .add (S P.1) ⟨#[32]⟩).run Tryz.prog w = .ok (.string (S (P.1 ++ [32]))) w := HA1.out
    have ha2 := HA2.out
    have ha3 : ∀ w, (Op.stringOp .add (S (P.1 ++ [32] ++ signL op)) ⟨#[32]⟩).run Tryz.prog w = .ok (.string (S (P.1 ++ [32] ++ signL op ++ [32]))) w := HA3.out
    have ha4 := HA4.out
    have HSG3 := Lib.hid (HSG.out w3)
    generalize S (P.1 ++ [32] ++ signL op ++ [32]) = R3 at *
    generalize S (P.1 ++ [32] ++ signL op) = R2 at *
    generalize S (P.1 ++ [32]) = R1 at *
    generalize S (signL op) = R0 at *
    clear b3 hx3
    go_wp2_with fail
    refine HSG3.out.mono ?_
    rintro e w4 ⟨rfl, rfl⟩
    go_wp2_with fail
    go_ret2
    exact ⟨by rw [← HMAX.out]; rfl, HB3.out⟩
  · rw [if_neg h2] at hP
    have hne : ((n : Int) == 2) = false := by rw [beq_eq_false_iff_ne]; omega
    have HC1 := Lib.hid (HW1.out n (by omega) q cc _ HFA.out)
    rw [← hP] at HC1
    clear hP
    go_enter Tryz.func59, Tryz.ntmps59
    go_wp2_with fail
    refine (HBD.out _).mono ?_
    rintro e w1 ⟨rfl, rfl⟩
    go_wp2_with fail
    refine HC1.out.mono ?_
    rintro e w2 ⟨rfl, b2⟩
    have HB2 := Lib.hid (HB0.out.trans (b2.mono HB0.out.size))
    have hx2 := HBX.out.keep (Kept.of_below (ok := fun _ => True) b2) trivial
    have q0 := hx2.c0
    have q3 := hx2.c3
    rw [← b2.cell (p := ⟨g, _, none⟩) hgl1] at g0 g1 g2' g3
    have hgl2 := Nat.lt_of_lt_of_le hgl1 b2.size
    have HX2 := Lib.hid hx2
    have HC2 := Lib.hid (HW2.out q2 c2 w2 (HGA.out.keep (Kept.of_below b2)))
    clear b2 hx2
    go_wp2_with fail
    refine HC2.out.mono ?_
    rintro e w3 ⟨rfl, b3⟩
    have HB3 := Lib.hid (HB2.out.trans (b3.mono HB2.out.size))
    have hx3 := HX2.out.keep (Kept.of_below (ok := fun _ => True) b3) trivial
    have q0 := hx3.c0
    have ha1 : ∀ w, (Op.stringOp .add (S P.1) ⟨#[32]⟩).run Tryz.prog w = .ok (.string (S (P.1 ++ [32]))) w := HA1.out
    have ha2 := HA2.out
    have ha3 : ∀ w, (Op.stringOp .add (S (P.1 ++ [32] ++ signL op)) ⟨#[32]⟩).run Tryz.prog w = .ok (.string (S (P.1 ++ [32] ++ signL op ++ [32]))) w := HA3.out
    have ha4 := HA4.out
    have HSG3 := Lib.hid (HSG.out w3)
    generalize S (P.1 ++ [32] ++ signL op ++ [32]) = R3 at *
    generalize S (P.1 ++ [32] ++ signL op) = R2 at *
    generalize S (P.1 ++ [32]) = R1 at *
    generalize S (signL op) = R0 at *
    clear b3 hx3
    go_wp2_with fail
    refine HSG3.out.mono ?_
    rintro e w4 ⟨rfl, rfl⟩
    go_wp2_with fail
    go_ret2
    exact ⟨by rw [← HMAX.out]; rfl, HB3.out⟩
end Go.Proofs.YtlmmfhbdebfgkaaGreatDoor.Ex
namespace Go.Proofs.YtlmmfhbdebfgkaaGreatDoor.Ex
open Go.RowKit
open Lx
def cN (o : Int) : Int := if o = 5 then -1 else if 1 ≤ o ∧ o ≤ 7 then 0 else if 10 ≤ o ∧ o ≤ 12 then 1 else if 20 ≤ o ∧ o ≤ 26 ∨ 30 ≤ o ∧ o ≤ 33 ∨ o = 40 ∨ o = 41 then 2 else -2
def badA (o : Int) (k : Nat) : Bool := decide (cN o = -2 ∨ (0 ≤ cN o ∧ (k : Int) ≠ cN o) ∨ 16 < k)
def badN (o n : Int) : Bool := decide ((n ≠ 0 ∧ o ≠ 1 ∧ o ≠ 3) ∨ n < 0 ∨ (o = 3 ∧ 1 < n))
def badT (o : Int) (t : List UInt8) : Bool := decide ((t ≠ [] ∧ o ≠ 2 ∧ o ≠ 4 ∧ o ≠ 6 ∧ o ≠ 7) ∨ (o = 2 ∧ 64 < t.length))
def badM (o : Int) (t : List UInt8) : Bool := decide (((o = 4 ∨ o = 6 ∨ o = 7) ∧ Va.nameB t = false) ∨ (o = 6 ∧ takenB t = true))
theorem formed_bad (o n : Int) (t : List UInt8) (k : Nat) : formedB o n t k = !(badA o k || badN o n || badT o t) := by
  have e1 : cntB o k = !badA o k := by
    unfold cntB badA cN
    by_cases h5 : o = 5
    · simp only [if_pos h5]
      rw [Bool.eq_iff_iff]
      simp
    by_cases h7 : 1 ≤ o ∧ o ≤ 7
    · simp only [if_neg h5, if_pos h7]
      by_cases hk : k = 0
      · simp [hk]
      · have : (k == 0) = false := by simpa using hk
        rw [this]; symm; simp; omega
    by_cases h12 : 10 ≤ o ∧ o ≤ 12
    · simp only [if_neg h5, if_neg h7, if_pos h12]
      by_cases hk : k = 1
      · simp [hk]
      · have : (k == 1) = false := by simpa using hk
        rw [this]; symm; simp; omega
    by_cases h20 : 20 ≤ o ∧ o ≤ 26 ∨ 30 ≤ o ∧ o ≤ 33 ∨ o = 40 ∨ o = 41
    · simp only [if_neg h5, if_neg h7, if_neg h12, if_pos h20]
      by_cases hk : k = 2
      · simp [hk]
      · have : (k == 2) = false := by simpa using hk
        rw [this]; symm; simp; omega
    · simp only [if_neg h5, if_neg h7, if_neg h12, if_neg h20]
      simp
  unfold formedB
  rw [e1]
  unfold badN badT
  cases badA o k with
  | true => simp
  | false =>
    simp only [Bool.not_false, Bool.true_and, Bool.false_or]
    cases t with
    | nil =>
      rw [Bool.eq_iff_iff]
      simp
      omega
    | cons c r =>
      rw [Bool.eq_iff_iff]
      simp
      omega
theorem named_bad (o : Int) (t : List UInt8) : namedB o t = !badM o t := by
  unfold namedB badM
  by_cases h4 : o = 4
  · subst h4; cases h : Va.nameB t <;> simp [h]
  by_cases h6 : o = 6
  · subst h6; cases h : Va.nameB t <;> cases h' : takenB t <;> simp [h, h']
  by_cases h7 : o = 7
  · subst h7; cases h : Va.nameB t <;> simp [h]
  simp [h4, h6, h7]
theorem rcount_any (o : Int) (w : World) : Calls Tryz.prog 97 #[.int .i64 o] w fun e w' => e = .returned (.int .i64 (cN o)) ∧ w = w' := by
  go_enter Tryz.func97, Tryz.ntmps97
  go_wp2_with fail
  all_goals (go_ret; refine ⟨congrArg (fun x => Ending.returned (Value.int .i64 x)) ?_, rfl⟩; unfold cN)
  all_goals (try simp only [beq_iff_eq, beq_eq_false_iff_ne, ne_eq] at *)
  all_goals (repeat' split)
  all_goals (first | rfl | omega)
end Go.Proofs.YtlmmfhbdebfgkaaGreatDoor.Ex
namespace Go.Proofs.YtlmmfhbdebfgkaaGreatDoor.Ex
open Go.RowKit
open Lx
def RckC (t : T) : Prop := ∀ (n : Nat) (p : Option Addr) (c : Nat) (w : World), n ≤ 200 → FAt w (fun _ => True) t.args p →
  Calls Tryz.prog 58 #[.agg #[.int .i64 t.op, .int .i64 t.num, .string (S t.text), .slice p t.args.len c], .int .i64 (n : Int)] w fun e w' => e = .returned (.tuple #[.int .i64 ((t.chk n).1 : Nat), .int .i64 ((t.chk n).2 : Nat)]) ∧ Below w.heap.size w w'
def RckAll : F → Prop
  | .nil => True
  | .cons o n t a r => RckC ⟨o, n, t, a⟩ ∧ RckAll r
theorem chk_bad (op num : Int) (tx : List UInt8) (A : F) (n : Nat) (h : ¬ 200 ≤ n) : (T.chk ⟨op, num, tx, A⟩ n) = if badA op A.len = true ∨ badN op num = true ∨ badT op tx = true then (4, n + 1) else if badM op tx = true then (20, n + 1) else chkF A (n + 1) := by
  rw [chk_one]
  simp only
  rw [if_neg h, formed_bad, named_bad]
  cases badA op A.len <;> cases badN op num <;> cases badT op tx <;> cases badM op tx <;> rfl
theorem nil_listE : (S []).toList = [] := by rw [ByteArray.toList_eq, S_toList]
theorem nil_emptyE : (S []).toList.isEmpty = true := by rw [nil_listE]; rfl
theorem rck_tree (t : T) (htl : t.text.length ≤ 281474976710656) (hk : t.args.len ≤ 281474976710656) (hall : RckAll t.args) : RckC t := by
  intro n p c w hn hfa
  obtain ⟨op, num, tx, A⟩ := t
  simp only at htl hk hall hfa ⊢
  have hni : (n : Int) ≤ 200 := by omega
  have hki : (A.len : Int) ≤ 281474976710656 := by omega
  have HA := Lib.hid (show (n : Int) + 1 = ((n + 1 : Nat) : Int) by omega)
  have hb0 := (Below.refl w.heap.size w).alloc (Nat.le_refl _) (.cells #[.int .i64 op, .int .i64 num, .string (S tx), .slice p A.len c] 24)
  have HB0 := Lib.hid hb0
  have HBX := Lib.hid (Bx.new w (.int .i64 op) (.int .i64 num) (.string (S tx)) (.slice p A.len c))
  have HF0 := Lib.hid (hfa.keep (Kept.of_below hb0))
  have HALL := Lib.hid hall
  have hts : (S tx).size = tx.length := S_size tx
  obtain ⟨W1, hW1⟩ : ∃ W1, W1 = w.alloc (.cells #[.int .i64 op, .int .i64 num, .string (S tx), .slice p A.len c] 24) := ⟨_, rfl⟩
  have hbx1 := HBX.out
  rw [← hW1] at hbx1 HB0 HF0
  have HBX1 := Lib.hid hbx1
  have HW1 := Lib.hid hW1
  clear hfa hall hb0 hbx1 hW1
  by_cases h200 : 200 ≤ n
  · obtain rfl : n = 200 := by omega
    have hch : T.chk ⟨op, num, tx, A⟩ 200 = (27, 201) := by rw [chk_one, if_pos (by decide)]
    rw [hch]
    go_enter Tryz.func58, Tryz.ntmps58
    go_wp2_with fail
    go_ret2
    rw [← HW1.out]
    exact ⟨rfl, HB0.out⟩
  have HCH := Lib.hid (chk_bad op num tx A n h200)
  have hn2 : (n : Int) + 1 ≤ 200 := by omega
  have HCN := Lib.hid (fun w => rcount_any op w)
  have HBA := Lib.hid (show badA op A.len = decide (cN op = -2 ∨ (0 ≤ cN op ∧ (A.len : Int) ≠ cN op) ∨ 16 < A.len) from rfl)
  have HBN := Lib.hid (show badN op num = decide ((num ≠ 0 ∧ op ≠ 1 ∧ op ≠ 3) ∨ num < 0 ∨ (op = 3 ∧ 1 < num)) from rfl)
  have HBT := Lib.hid (show badT op tx = decide ((tx ≠ [] ∧ op ≠ 2 ∧ op ≠ 4 ∧ op ≠ 6 ∧ op ≠ 7) ∨ (op = 2 ∧ 64 < tx.length)) from rfl)
  have HBM := Lib.hid (show badM op tx = decide (((op = 4 ∨ op = 6 ∨ op = 7) ∧ Va.nameB tx = false) ∨ (op = 6 ∧ takenB tx = true)) from rfl)
  generalize badA op A.len = bA at *
  generalize badN op num = bN at *
  generalize badT op tx = bT at *
  generalize badM op tx = bM at *
  generalize cN op = co at *
  go_enter Tryz.func58, Tryz.ntmps58
  go_wp2_with fail
  obtain ⟨n1, hn1⟩ : ∃ n1 : Int, n1 = ((n + 1 : Nat) : Int) := ⟨_, rfl⟩
  rw [HA.out, ← hn1]
  have HN1 := Lib.hid hn1
  clear hn1
  refine (HCN.out _).mono ?_
  rintro e w1 ⟨rfl, rfl⟩
  rw [← HW1.out]
  have p0 := HBX1.out.c0
  have p1 := HBX1.out.c1
  have p2 := HBX1.out.c2
  have p3 := HBX1.out.c3
  go_upto_region 5 with fail
  go_cut [0, 6, 36] (fun _ _ s wx => s = .bool bA ∧ W1 = wx)
  case first =>
    as_aux_lemma =>
      go_wp2_with fail
      all_goals (go_meet; refine ⟨congrArg Value.bool ?_, rfl⟩; rw [HBA.out])
      all_goals (symm; first | (apply decide_eq_true; omega) | (apply decide_eq_false; omega) | (rw [Bool.eq_iff_iff]; simp; omega) | skip)
  case rest =>
    obtain ⟨rfl, rfl⟩ := hcut
    cases bA with
    | true =>
      go_wp2_with fail
      go_ret2
      rw [HCH.out, if_pos (by simp), HN1.out]
      exact ⟨rfl, HB0.out⟩
    | false =>
      go_upto_region 7 with fail
      go_cut [0, 65] (fun _ s wx => s = .bool bN ∧ W1 = wx)
      case first =>
        as_aux_lemma =>
          go_wp2_with fail
          all_goals (go_meet; refine ⟨congrArg Value.bool ?_, rfl⟩; rw [HBN.out])
          all_goals (symm; first | (apply decide_eq_true; omega) | (apply decide_eq_false; omega) | (rw [Bool.eq_iff_iff]; simp; omega))
      case rest =>
        obtain ⟨rfl, rfl⟩ := hcut
        cases bN with
        | true =>
          go_wp2_with fail
          go_ret2
          rw [HCH.out, if_pos (by simp), HN1.out]
          exact ⟨rfl, HB0.out⟩
        | false =>
          have hemp : (S tx).toList.isEmpty = tx.isEmpty := by rw [ByteArray.toList_eq, S_toList]
          have hti : (tx.length : Int) ≤ 281474976710656 := by omega
          go_upto_region 9 with fail
          go_cut [0, 100] (fun _ s wx => s = .bool bT ∧ W1 = wx)
          case first =>
            as_aux_lemma =>
              by_cases htx : tx = []
              · have e0 : (S tx).toList = [] := by rw [htx]; exact nil_listE
                have e1 : (S tx).toList.isEmpty = true := by rw [htx]; exact nil_emptyE
                have HTX := Lib.hid htx
                clear htx hemp
                go_wp2_with fail
                all_goals (go_meet; refine ⟨congrArg Value.bool ?_, rfl⟩; rw [HBT.out])
                all_goals (have htx := HTX.out; symm; first | (apply decide_eq_true; simp [htx] <;> omega) | (apply decide_eq_false; simp [htx] <;> omega) | (rw [Bool.eq_iff_iff]; simp [htx] <;> omega))
              · have e0 : ¬ (S tx).toList = [] := by rw [ByteArray.toList_eq, S_toList]; exact htx
                have e1 : (S tx).toList.isEmpty = false := by rw [ByteArray.toList_eq, S_toList]; simpa using htx
                have HTX := Lib.hid htx
                clear htx hemp
                go_wp2_with fail
                all_goals (go_meet; refine ⟨congrArg Value.bool ?_, rfl⟩; rw [HBT.out])
                all_goals (have htx := HTX.out; symm; first | (apply decide_eq_true; simp [htx] <;> omega) | (apply decide_eq_false; simp [htx] <;> omega) | (rw [Bool.eq_iff_iff]; simp [htx] <;> omega))
          case rest =>
            obtain ⟨rfl, rfl⟩ := hcut
            cases bT with
            | true =>
              go_wp2_with fail
              go_ret2
              rw [HCH.out, if_pos (by simp), HN1.out]
              exact ⟨rfl, HB0.out⟩
            | false =>
              have HNM := Lib.hid (fun wr => show Calls Tryz.prog 98 #[.string (S tx)] wr fun e w' => e = .returned (.bool (Va.nameB tx)) ∧ wr = w' from by
                have := Va.refName_any (S tx) (by rw [S_size]; omega) wr
                rw [S_toList] at this
                exact this)
              have HTK := Lib.hid (fun wr => refTaken_any tx wr)
              generalize Va.nameB tx = nb at *
              generalize takenB tx = tb at *
              go_upto_region 11 with fail
              go_cut [0, 130] (fun _ s wx => s = .bool bM ∧ W1 = wx)
              case first =>
                as_aux_lemma =>
                  cases nb with
                  | true =>
                    cases tb with
                    | true =>
                      go_wp2_with (first | (go_at_call 98; (with_reducible refine (HNM.out _).mono ?_); rintro e w' ⟨rfl, rfl⟩) | (go_at_call 99; (with_reducible refine (HTK.out _).mono ?_); rintro e w' ⟨rfl, rfl⟩))
                      all_goals (go_meet; refine ⟨congrArg Value.bool ?_, rfl⟩; rw [HBM.out])
                      all_goals (symm; first | (apply decide_eq_true; simp <;> omega) | (apply decide_eq_false; simp <;> omega) | (rw [Bool.eq_iff_iff]; simp <;> omega))
                    | false =>
                      go_wp2_with (first | (go_at_call 98; (with_reducible refine (HNM.out _).mono ?_); rintro e w' ⟨rfl, rfl⟩) | (go_at_call 99; (with_reducible refine (HTK.out _).mono ?_); rintro e w' ⟨rfl, rfl⟩))
                      all_goals (go_meet; refine ⟨congrArg Value.bool ?_, rfl⟩; rw [HBM.out])
                      all_goals (symm; first | (apply decide_eq_true; simp <;> omega) | (apply decide_eq_false; simp <;> omega) | (rw [Bool.eq_iff_iff]; simp <;> omega))
                  | false =>
                    go_wp2_with (first | (go_at_call 98; (with_reducible refine (HNM.out _).mono ?_); rintro e w' ⟨rfl, rfl⟩) | (go_at_call 99; (with_reducible refine (HTK.out _).mono ?_); rintro e w' ⟨rfl, rfl⟩))
                    all_goals (go_meet; refine ⟨congrArg Value.bool ?_, rfl⟩; rw [HBM.out])
                    all_goals (symm; first | (apply decide_eq_true; simp <;> omega) | (apply decide_eq_false; simp <;> omega) | (rw [Bool.eq_iff_iff]; simp <;> omega))
              case rest =>
                obtain ⟨rfl, rfl⟩ := hcut
                cases bM with
                | true =>
                  go_wp2_with fail
                  go_ret2
                  rw [HCH.out, if_neg (by simp), if_pos (by simp), HN1.out]
                  exact ⟨rfl, HB0.out⟩
                | false =>
                  have HC2 := Lib.hid (show T.chk ⟨op, num, tx, A⟩ n = chkF A (n + 1) by rw [HCH.out, if_neg (by simp), if_neg (by simp)])
                  have hn1i : n1 ≤ 200 := by have := HN1.out; omega
                  go_wp2_with fail
                  go_loopw [1, 135] (fun nv iv wr => ∃ (i : Nat) (r : F) (m : Nat) (pr : Option Addr), nv = .int .i64 (m : Int) ∧ iv = .int .i64 i ∧ i + r.len = A.len ∧ m ≤ 200 ∧ RckAll r ∧ FAt wr (fun _ => True) r pr ∧ (∀ g k, pr = some ⟨g, k, none⟩ → r ≠ .nil → ∃ k0, p = some ⟨g, k0, none⟩ ∧ k = k0 + 4 * i) ∧ chkF A (n + 1) = chkF r m ∧ Bx wr w.heap.size (.int .i64 op) (.int .i64 num) (.string (S tx)) (.slice p A.len c) ∧ Below w.heap.size w wr) (fun _ iv _ => A.len - (intOf iv).toNat)
                  case atStart => exact ⟨0, A, n + 1, p, by rw [HN1.out], rfl, by omega, by omega, HALL.out, HF0.out, fun g k e _ => ⟨k, e, by omega⟩, rfl, HBX1.out, HB0.out⟩
                  case round =>
                    obtain ⟨i, r, m, pr, rfl, rfl, hil, hm, hal, hfr, hpr, hch, hbx, hbe⟩ := hrel
                    cases r with
                    | nil =>
                      have hil2 : i = A.len := by simpa [F.len] using hil
                      have hie : ¬ (i : Int) < (A.len : Int) := by omega
                      have HCE := Lib.hid hch
                      have HBE := Lib.hid hbe
                      clear hch hbe hfr hpr hal hbx
                      go_wp2_with fail
                      go_ret2
                      rw [HC2.out, HCE.out]
                      exact ⟨rfl, HBE.out⟩
                    | cons o nm tt a r =>
                     as_aux_lemma =>
                      obtain ⟨g, k, q, cc, rfl, hgk, hgl, f0, f1, f2, f3, hfa, hfr2⟩ := hfr
                      obtain ⟨k0, rfl, rfl⟩ := hpr g k rfl (by intro e; cases e)
                      have hil2 : i + (r.len + 1) = A.len := by simpa [F.len] using hil
                      have hie : (i : Int) < (A.len : Int) := by omega
                      rw [show k0 + 4 * i = k0 + i * 4 by omega] at f0 f1 f2 f3
                      have hcall := hal.1 m q cc wr hm hfa
                      have q3 := hbx.c3
                      have HBB := Lib.hid hbx
                      have HCE := Lib.hid hch
                      have HBE := Lib.hid hbe
                      have HFR := Lib.hid hfr2
                      have HAL := Lib.hid hal
                      have HGT := Lib.hid (chkF_cons o nm tt a r m)
                      have HCNT := Lib.hid (show (T.chk ⟨o, nm, tt, a⟩ m).1 = 0 → (T.chk ⟨o, nm, tt, a⟩ m).2 ≤ 200 from fun h0 => chkF_count (.cons o nm tt a .nil) m hm h0)
                      clear hbx hch hbe hfr2 hal hpr hfa
                      generalize hck2 : T.chk ⟨o, nm, tt, a⟩ m = ck at *
                      obtain ⟨ec, cm⟩ := ck
                      simp only at HGT HCNT hcall
                      have HCALL := Lib.hid hcall
                      clear hcall
                      go_wp2_with fail
                      refine HCALL.out.mono ?_
                      rintro e w5 ⟨rfl, b5⟩
                      have HBE5 := Lib.hid (HBE.out.trans (b5.mono HBE.out.size))
                      have HBB5 := Lib.hid (HBB.out.keep (Kept.of_below (ok := fun _ => True) b5) trivial)
                      have HF5 := Lib.hid (HFR.out.keep (Kept.of_below b5))
                      clear b5
                      by_cases hce : ec = 0
                      · subst hce
                        have HCH2 := Lib.hid (show chkF A (n + 1) = chkF r cm by rw [HCE.out, HGT.out, if_pos rfl])
                        have hcm := HCNT.out rfl
                        go_wp2_with fail
                        go_roundw
                        case rel => exact ⟨i + 1, r, cm, some ⟨g, k0 + 4 * i + 4, none⟩, rfl, by go_num, by omega, hcm, HAL.out.2, HF5.out, fun g' k' e _ => by injection e with e; injection e with e1 e2 _; subst e1 e2; exact ⟨k0, rfl, by omega⟩, HCH2.out, HBB5.out, HBE5.out⟩
                        case measure => simp [intOf]; omega
                      · have hce2 : ((ec : Int) == 0) = false := by rw [beq_eq_false_iff_ne]; omega
                        have hce3 : ((ec : Int) != 0) = true := by simp; exact hce
                        have HCH2 := Lib.hid (show chkF A (n + 1) = (ec, cm) by rw [HCE.out, HGT.out, if_neg hce])
                        go_wp2_with fail
                        try simp only [Exit.inBlock, Exit.then]
                        go_ret2
                        rw [HC2.out, HCH2.out]
                        exact ⟨rfl, HBE5.out⟩
theorem rck_all : ∀ l : F, l.fits → RckAll l
  | .nil, _ => trivial
  | .cons o n t a r, h => ⟨rck_tree ⟨o, n, t, a⟩ h.1 h.2.1 (rck_all a h.2.2.1), rck_all r h.2.2.2⟩
theorem rck_any (t : T) (h : t.row.fits) : RckC t := (rck_all t.row h).1
end Go.Proofs.YtlmmfhbdebfgkaaGreatDoor.Ex
