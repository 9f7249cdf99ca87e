/-
  The program's typing: may an operator have these?
-/
import Derived.Test.YtdgeofmnoabilaaGreatDoorZTzD
namespace Go.Proofs.YtdgeofmnoabilaaGreatDoor.Ty
open Go.RowKit
open Ex Lx

/-- What is known, as a value. -/
def scV (pe pa pf : Option Addr) (s : Sc) (ce ca cf : Nat) : Value := .agg #[.slice pe s.enums.length ce, .slice pa s.attrs.length ca, .slice pf s.fields.length cf]
def scO (pe pa pf : Option Addr) (s : Sc) (ce ca cf : Nat) : Obj := .cells #[.slice pe s.enums.length ce, .slice pa s.attrs.length ca, .slice pf s.fields.length cf] 77
theorem allK_cons (x : TT) (r : List TT) (k : Int) : allK (x :: r) k = (x.kind == k && allK r k) := rfl

set_option linter.unusedVariables false
set_option linter.unusedSimpArgs false
set_option maxRecDepth 100000 in
set_option maxHeartbeats 4000000 in
theorem fit_a (s : Sc) (pe pa pf : Option Addr) (ce ca cf : Nat) (op : Int) (l : List TT) (q : Option Addr) (c : Nat) (w : World) (hs : ScAt w pe pa pf s) (hf : ScFit s) (hl : TTsAt w q l) (hlen : l.length ≤ 281474976710656) (hop : op = 10 ∨ op = 40 ∨ op = 41) :
    Calls Tryz.prog 74 #[.agg #[.slice pe s.enums.length ce, .slice pa s.attrs.length ca, .slice pf s.fields.length cf], .int .i64 op, .slice q l.length c] w fun e w' => e = .returned (.bool (fitB s.enums op l)) ∧ Below w.heap.size w w' := by
  have hba := (Below.refl w.heap.size w).alloc (Nat.le_refl _) (.cells #[.slice pe s.enums.length ce, .slice pa s.attrs.length ca, .slice pf s.fields.length cf] 77)
  have HALL := Lib.hid (fun k wr (b : Below w.heap.size w wr) => all_any l k q c wr (hl.later b) hlen)
  have HBA := Lib.hid hba
  clear hl hs hba
  have hfb : fitB s.enums op l = allK l 2 := by
    unfold fitB
    rcases hop with rfl | rfl | rfl <;> rfl
  rw [hfb]
  clear hfb
  have HC := Lib.hid (HALL.out 2 _ HBA.out)
  generalize allK l 2 = r at *
  rcases hop with rfl | rfl | rfl
  all_goals
    go_enter Tryz.func74, Tryz.ntmps74
    go_wp2_with fail
    refine HC.out.mono ?_
    rintro e w1 ⟨rfl, b1⟩
    have HB1 := Lib.hid (HBA.out.trans (b1.mono HBA.out.size))
    clear b1
    go_wp2_with fail
    go_ret
    exact ⟨rfl, HB1.out⟩

set_option maxRecDepth 100000 in
set_option maxHeartbeats 4000000 in
theorem fit_b (s : Sc) (pe pa pf : Option Addr) (ce ca cf : Nat) (op : Int) (l : List TT) (q : Option Addr) (c : Nat) (w : World) (hs : ScAt w pe pa pf s) (hf : ScFit s) (hl : TTsAt w q l) (hlen : l.length ≤ 281474976710656) (hop : op = 12) :
    Calls Tryz.prog 74 #[.agg #[.slice pe s.enums.length ce, .slice pa s.attrs.length ca, .slice pf s.fields.length cf], .int .i64 op, .slice q l.length c] w fun e w' => e = .returned (.bool (fitB s.enums op l)) ∧ Below w.heap.size w w' := by
  have hba := (Below.refl w.heap.size w).alloc (Nat.le_refl _) (.cells #[.slice pe s.enums.length ce, .slice pa s.attrs.length ca, .slice pf s.fields.length cf] 77)
  have HALL := Lib.hid (fun k wr (b : Below w.heap.size w wr) => all_any l k q c wr (hl.later b) hlen)
  have HBA := Lib.hid hba
  clear hl hs hba
  have hfb : fitB s.enums op l = (allK l 5 || allK l 3) := by
    unfold fitB
    subst hop; rfl
  rw [hfb]
  clear hfb
  have HC := Lib.hid (HALL.out 5 _ HBA.out)
  have HD := Lib.hid (HALL.out 3)
  generalize allK l 5 = r at *
  generalize allK l 3 = u at *
  subst hop
  all_goals
    cases r with
    | true =>
      go_enter Tryz.func74, Tryz.ntmps74
      go_wp2_with fail
      refine HC.out.mono ?_
      rintro e w1 ⟨rfl, b1⟩
      have HB1 := Lib.hid (HBA.out.trans (b1.mono HBA.out.size))
      clear b1
      go_wp2_with fail
      go_ret
      exact ⟨rfl, HB1.out⟩
    | false =>
      go_enter Tryz.func74, Tryz.ntmps74
      go_wp2_with fail
      refine HC.out.mono ?_
      rintro e w1 ⟨rfl, b1⟩
      have HB1 := Lib.hid (HBA.out.trans (b1.mono HBA.out.size))
      clear b1
      go_wp2_with fail
      refine (HD.out _ HB1.out).mono ?_
      rintro e w2 ⟨rfl, b2⟩
      have HB2 := Lib.hid (HB1.out.trans (b2.mono HB1.out.size))
      clear b2
      go_wp2_with fail
      go_ret
      exact ⟨rfl, HB2.out⟩

set_option maxRecDepth 100000 in
set_option maxHeartbeats 4000000 in
theorem fit_c (s : Sc) (pe pa pf : Option Addr) (ce ca cf : Nat) (op : Int) (l : List TT) (q : Option Addr) (c : Nat) (w : World) (hs : ScAt w pe pa pf s) (hf : ScFit s) (hl : TTsAt w q l) (hlen : l.length ≤ 281474976710656) (hop : op = 32 ∨ op = 33) :
    Calls Tryz.prog 74 #[.agg #[.slice pe s.enums.length ce, .slice pa s.attrs.length ca, .slice pf s.fields.length cf], .int .i64 op, .slice q l.length c] w fun e w' => e = .returned (.bool (fitB s.enums op l)) ∧ Below w.heap.size w w' := by
  have hba := (Below.refl w.heap.size w).alloc (Nat.le_refl _) (.cells #[.slice pe s.enums.length ce, .slice pa s.attrs.length ca, .slice pf s.fields.length cf] 77)
  have HALL := Lib.hid (fun k wr (b : Below w.heap.size w wr) => all_any l k q c wr (hl.later b) hlen)
  have HBA := Lib.hid hba
  clear hl hs hba
  have hfb : fitB s.enums op l = (allK l 1 || allK l 3) := by
    unfold fitB
    rcases hop with rfl | rfl <;> rfl
  rw [hfb]
  clear hfb
  have HC := Lib.hid (HALL.out 1 _ HBA.out)
  have HD := Lib.hid (HALL.out 3)
  generalize allK l 1 = r at *
  generalize allK l 3 = u at *
  rcases hop with rfl | rfl
  all_goals
    cases r with
    | true =>
      go_enter Tryz.func74, Tryz.ntmps74
      go_wp2_with fail
      refine HC.out.mono ?_
      rintro e w1 ⟨rfl, b1⟩
      have HB1 := Lib.hid (HBA.out.trans (b1.mono HBA.out.size))
      clear b1
      go_wp2_with fail
      go_ret
      exact ⟨rfl, HB1.out⟩
    | false =>
      go_enter Tryz.func74, Tryz.ntmps74
      go_wp2_with fail
      refine HC.out.mono ?_
      rintro e w1 ⟨rfl, b1⟩
      have HB1 := Lib.hid (HBA.out.trans (b1.mono HBA.out.size))
      clear b1
      go_wp2_with fail
      refine (HD.out _ HB1.out).mono ?_
      rintro e w2 ⟨rfl, b2⟩
      have HB2 := Lib.hid (HB1.out.trans (b2.mono HB1.out.size))
      clear b2
      go_wp2_with fail
      go_ret
      exact ⟨rfl, HB2.out⟩

set_option maxRecDepth 100000 in
set_option maxHeartbeats 4000000 in
theorem fit_d (s : Sc) (pe pa pf : Option Addr) (ce ca cf : Nat) (op : Int) (l : List TT) (q : Option Addr) (c : Nat) (w : World) (hs : ScAt w pe pa pf s) (hf : ScFit s) (hl : TTsAt w q l) (hlen : l.length ≤ 281474976710656) (hop : op = 25 ∨ op = 26) (h2 : l.length = 2) :
    Calls Tryz.prog 74 #[.agg #[.slice pe s.enums.length ce, .slice pa s.attrs.length ca, .slice pf s.fields.length cf], .int .i64 op, .slice q l.length c] w fun e w' => e = .returned (.bool (fitB s.enums op l)) ∧ Below w.heap.size w w' := by
  have hba := (Below.refl w.heap.size w).alloc (Nat.le_refl _) (.cells #[.slice pe s.enums.length ce, .slice pa s.attrs.length ca, .slice pf s.fields.length cf] 77)
  have HALL := Lib.hid (fun k wr (b : Below w.heap.size w wr) => all_any l k q c wr (hl.later b) hlen)
  have HBA := Lib.hid hba
  clear hs
  match l, h2 with
  | [x, y], _ =>
    have hfb : fitB s.enums op [x, y] = (x.kind == 5 && y.kind == 1) := by
      unfold fitB
      rcases hop with rfl | rfl <;> rfl
    rw [hfb]
    clear hfb
    obtain ⟨b, o, rfl, hb, f0, _, _⟩ := hl 0 (by simp)
    obtain ⟨b', o', e, hb', g0, _, _⟩ := hl 1 (by simp)
    injection e with e
    injection e with e1 e2 _
    subst e1 e2
    simp only [Nat.zero_mul, Nat.one_mul, Nat.add_zero, List.getElem_cons_zero, List.getElem_cons_succ] at f0 g0
    have f1 := (hba.cell (p := ⟨b, o, none⟩) hb).trans f0
    have g1 := (hba.cell (p := ⟨b, o + 3, none⟩) hb).trans g0
    clear hl HALL hba f0 g0
    simp only [List.length_cons, List.length_nil]
    by_cases hx : x.kind = 5
    · have hx2 : (x.kind == 5) = true := by simpa using hx
      rw [hx2, Bool.true_and]
      rcases hop with rfl | rfl
      all_goals
        go_enter Tryz.func74, Tryz.ntmps74
        go_wp2_with fail
        go_ret
        exact ⟨rfl, HBA.out⟩
    · have hx2 : (x.kind == 5) = false := by simpa using hx
      rw [hx2, Bool.false_and]
      rcases hop with rfl | rfl
      all_goals
        go_enter Tryz.func74, Tryz.ntmps74
        go_wp2_with fail
        go_ret
        exact ⟨rfl, HBA.out⟩

set_option maxRecDepth 100000 in
set_option maxHeartbeats 4000000 in
theorem fit_e (s : Sc) (pe pa pf : Option Addr) (ce ca cf : Nat) (op : Int) (l : List TT) (q : Option Addr) (c : Nat) (w : World) (hs : ScAt w pe pa pf s) (hf : ScFit s) (hl : TTsAt w q l) (hlen : l.length ≤ 281474976710656) (hop : op = 30 ∨ op = 31) (h2 : l.length = 2) :
    Calls Tryz.prog 74 #[.agg #[.slice pe s.enums.length ce, .slice pa s.attrs.length ca, .slice pf s.fields.length cf], .int .i64 op, .slice q l.length c] w fun e w' => e = .returned (.bool (fitB s.enums op l)) ∧ Below w.heap.size w w' := by
  have hba := (Below.refl w.heap.size w).alloc (Nat.le_refl _) (.cells #[.slice pe s.enums.length ce, .slice pa s.attrs.length ca, .slice pf s.fields.length cf] 77)
  have HALL := Lib.hid (fun k wr (b : Below w.heap.size w wr) => all_any l k q c wr (hl.later b) hlen)
  have HBA := Lib.hid hba
  match l, h2 with
  | [x, y], _ =>
    have hfb : fitB s.enums op [x, y] = alikeB s.enums x y := by
      unfold fitB
      rcases hop with rfl | rfl <;> rfl
    rw [hfb]
    clear hfb
    have HC := Lib.hid (fun wr (b : Below w.heap.size w wr) => alike_any s.enums x y pe ce wr (hs.enums.later b) hf.enums hf.syms)
    generalize alikeB s.enums x y = r at *
    obtain ⟨b, o, rfl, hb, f0, f1, f2⟩ := hl 0 (by simp)
    obtain ⟨b', o', e, hb', g0, g1, g2⟩ := hl 1 (by simp)
    injection e with e
    injection e with e1 e2 _
    subst e1 e2
    simp only [Nat.zero_mul, Nat.one_mul, Nat.add_zero, List.getElem_cons_zero, List.getElem_cons_succ] at f0 f1 f2 g0 g1 g2
    have F0 := Lib.hid (fun wr (k : Below w.heap.size w wr) => (k.cell (p := ⟨b, o, none⟩) hb).trans f0)
    have F1 := Lib.hid (fun wr (k : Below w.heap.size w wr) => (k.cell (p := ⟨b, o + 1, none⟩) hb).trans f1)
    have F2 := Lib.hid (fun wr (k : Below w.heap.size w wr) => (k.cell (p := ⟨b, o + 2, none⟩) hb).trans f2)
    have G0 := Lib.hid (fun wr (k : Below w.heap.size w wr) => (k.cell (p := ⟨b, o + 3, none⟩) hb).trans g0)
    have G1 := Lib.hid (fun wr (k : Below w.heap.size w wr) => (k.cell (p := ⟨b, o + 3 + 1, none⟩) hb).trans g1)
    have G2 := Lib.hid (fun wr (k : Below w.heap.size w wr) => (k.cell (p := ⟨b, o + 3 + 2, none⟩) hb).trans g2)
    obtain ⟨W1, hW1⟩ : ∃ W1, W1 = w.alloc (.cells #[.slice pe s.enums.length ce, .slice pa s.attrs.length ca, .slice pf s.fields.length cf] 77) := ⟨_, rfl⟩
    have hbox : W1.cell? ⟨w.heap.size, 0, none⟩ = some (.slice pe s.enums.length ce) := by rw [hW1]; exact cell_of_row _ w.heap.size 0 _ _ (0, 0) (heap_alloc_new w _)
    have hsz : w.heap.size < W1.heap.size := by rw [hW1]; simp
    have HBX := Lib.hid hbox
    have HSZ := Lib.hid hsz
    rw [← hW1] at HBA hba
    have HW1 := Lib.hid hW1
    clear hl HALL hba hs hb f0 f1 f2 g0 g1 g2 hbox hsz hW1
    simp only [List.length_cons, List.length_nil]
    rcases hop with rfl | rfl
    all_goals
      go_enter Tryz.func74, Tryz.ntmps74
      go_wp2_with fail
      rw [← HW1.out]
      go_region_held3 (fun w' => w'.cell? ⟨w.heap.size, 0, none⟩ = some (.slice pe s.enums.length ce) ∧ w'.cell? ⟨b, o, none⟩ = some (.int .i64 x.kind) ∧ w'.cell? ⟨b, o + 1, none⟩ = some (.string (S x.enum)) ∧ w'.cell? ⟨b, o + 2, none⟩ = some (.string (S x.lit)) ∧ w'.cell? ⟨b, o + 3, none⟩ = some (.int .i64 y.kind) ∧ w'.cell? ⟨b, o + 3 + 1, none⟩ = some (.string (S y.enum)) ∧ w'.cell? ⟨b, o + 3 + 2, none⟩ = some (.string (S y.lit)))
        (first | assumption | exact ⟨HBX.out, F0.out _ HBA.out.drew, F1.out _ HBA.out.drew, F2.out _ HBA.out.drew, G0.out _ HBA.out.drew, G1.out _ HBA.out.drew, G2.out _ HBA.out.drew⟩ | exact ⟨by assumption, by assumption, by assumption, by assumption, by assumption, by assumption, by assumption⟩ | go_keep)
        (first
          | (go_at_call 107; (with_reducible refine (HC.out _ HBA.out.drew).mono ?_); rintro e w2 ⟨rfl, b2⟩; have B2 := HBA.out.drew.trans (b2.mono HBA.out.size); have q0 := (b2.cell (p := ⟨w.heap.size, 0, none⟩) HSZ.out).trans HBX.out; have q1 := F0.out _ B2; have q2 := F1.out _ B2; have q3 := F2.out _ B2; have q4 := G0.out _ B2; have q5 := G1.out _ B2; have q6 := G2.out _ B2; have HB2 := Lib.hid B2; clear b2 B2))
      go_wp2_with fail
      go_ret
      exact ⟨rfl, HB2.out⟩

set_option maxRecDepth 100000 in
set_option maxHeartbeats 4000000 in
theorem fit_f (s : Sc) (pe pa pf : Option Addr) (ce ca cf : Nat) (op : Int) (l : List TT) (q : Option Addr) (c : Nat) (w : World) (hs : ScAt w pe pa pf s) (hf : ScFit s) (hl : TTsAt w q l) (hlen : l.length ≤ 281474976710656) (hop : op ≠ 10 ∧ op ≠ 40 ∧ op ≠ 41 ∧ op ≠ 12 ∧ op ≠ 25 ∧ op ≠ 26 ∧ op ≠ 30 ∧ op ≠ 31 ∧ op ≠ 32 ∧ op ≠ 33) :
    Calls Tryz.prog 74 #[.agg #[.slice pe s.enums.length ce, .slice pa s.attrs.length ca, .slice pf s.fields.length cf], .int .i64 op, .slice q l.length c] w fun e w' => e = .returned (.bool (fitB s.enums op l)) ∧ Below w.heap.size w w' := by
  have hba := (Below.refl w.heap.size w).alloc (Nat.le_refl _) (.cells #[.slice pe s.enums.length ce, .slice pa s.attrs.length ca, .slice pf s.fields.length cf] 77)
  have HALL := Lib.hid (fun k wr (b : Below w.heap.size w wr) => all_any l k q c wr (hl.later b) hlen)
  have HBA := Lib.hid hba
  clear hl hs hba
  have hfb : fitB s.enums op l = allK l 1 := by
    unfold fitB
    rw [if_neg (by omega), if_neg (by omega), if_neg (by omega), if_neg (by omega), if_neg (by omega)]
  rw [hfb]
  clear hfb
  have HC := Lib.hid (HALL.out 1 _ HBA.out)
  generalize allK l 1 = r at *
  have n10 : (op == 10) = false := by simp; omega
  have n40 : (op == 40) = false := by simp; omega
  have n41 : (op == 41) = false := by simp; omega
  have n12 : (op == 12) = false := by simp; omega
  have n25 : (op == 25) = false := by simp; omega
  have n26 : (op == 26) = false := by simp; omega
  have n30 : (op == 30) = false := by simp; omega
  have n31 : (op == 31) = false := by simp; omega
  have n32 : (op == 32) = false := by simp; omega
  have n33 : (op == 33) = false := by simp; omega
  clear hop
  go_enter Tryz.func74, Tryz.ntmps74
  go_wp2_with fail
  refine HC.out.mono ?_
  rintro e w1 ⟨rfl, b1⟩
  have HB1 := Lib.hid (HBA.out.trans (b1.mono HBA.out.size))
  clear b1
  go_wp2_with fail
  go_ret
  exact ⟨rfl, HB1.out⟩

theorem fit_any (s : Sc) (pe pa pf : Option Addr) (ce ca cf : Nat) (op : Int) (l : List TT) (q : Option Addr) (c : Nat) (w : World) (hs : ScAt w pe pa pf s) (hf : ScFit s) (hl : TTsAt w q l) (hlen : l.length ≤ 281474976710656) (h2 : op = 25 ∨ op = 26 ∨ op = 30 ∨ op = 31 → l.length = 2) :
    Calls Tryz.prog 74 #[.agg #[.slice pe s.enums.length ce, .slice pa s.attrs.length ca, .slice pf s.fields.length cf], .int .i64 op, .slice q l.length c] w fun e w' => e = .returned (.bool (fitB s.enums op l)) ∧ Below w.heap.size w w' := by
  by_cases ha : op = 10 ∨ op = 40 ∨ op = 41
  · exact fit_a s pe pa pf ce ca cf op l q c w hs hf hl hlen ha
  by_cases hb : op = 12
  · exact fit_b s pe pa pf ce ca cf op l q c w hs hf hl hlen hb
  by_cases hc : op = 32 ∨ op = 33
  · exact fit_c s pe pa pf ce ca cf op l q c w hs hf hl hlen hc
  by_cases hd : op = 25 ∨ op = 26
  · exact fit_d s pe pa pf ce ca cf op l q c w hs hf hl hlen hd (h2 (by omega))
  by_cases he : op = 30 ∨ op = 31
  · exact fit_e s pe pa pf ce ca cf op l q c w hs hf hl hlen he (h2 (by omega))
  exact fit_f s pe pa pf ce ca cf op l q c w hs hf hl hlen (by omega)

end Go.Proofs.YtdgeofmnoabilaaGreatDoor.Ty
