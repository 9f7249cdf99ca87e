/-
  ExChk, ExWrB, ExWrC.
-/
import Derived.Test.YtlmmfhbdebfgkaaGreatDoorVExNamedQ
import Derived.Test.YtlmmfhbdebfgkaaGreatDoorVEvRnDQ
set_option linter.unusedVariables false
set_option linter.unusedSimpArgs false
set_option maxRecDepth 100000
set_option maxHeartbeats 8000000
namespace Go.Proofs.YtlmmfhbdebfgkaaGreatDoor.Ex
open Go.RowKit
open Lx
def F.fits : F → Prop
  | .nil => True
  | .cons _ _ t a r => t.length ≤ 281474976710656 ∧ a.len ≤ 281474976710656 ∧ a.fits ∧ r.fits
theorem chkF_count : ∀ (l : F) (n : Nat), n ≤ 200 → (chkF l n).1 = 0 → (chkF l n).2 ≤ 200
  | .nil, n, h, _ => h
  | .cons o nm t a r, n, h, h0 => by
    unfold chkF at h0 ⊢
    by_cases h1 : 200 ≤ n
    · rw [if_pos h1] at h0; cases h0
    rw [if_neg h1] at h0 ⊢
    by_cases h2 : formedB o nm t a.len = false
    · rw [if_pos h2] at h0; cases h0
    rw [if_neg h2] at h0 ⊢
    by_cases h3 : namedB o t = false
    · rw [if_pos h3] at h0; cases h0
    rw [if_neg h3] at h0 ⊢
    by_cases h4 : (chkF a (n + 1)).1 = 0
    · rw [if_pos h4] at h0 ⊢
      exact chkF_count r _ (chkF_count a (n + 1) (by omega) h4) h0
    · rw [if_neg h4] at h0
      exact absurd h0 h4
def Ck (w : World) (b : Nat) (n : Nat) : Prop := w.heap[b]? = some (.cells #[.int .i64 (n : Int)] 64 (0, 0))
theorem Ck.c0 {w : World} {b n : Nat} (h : Ck w b n) : w.cell? ⟨b, 0, none⟩ = some (.int .i64 (n : Int)) := cell_of_row w b 0 _ _ (0, 0) h
theorem Ck.lt {w : World} {b n : Nat} (h : Ck w b n) : b < w.heap.size := World.block_lt_of_cell? w _ h.c0
theorem Ck.keep {w w' : World} {b n : Nat} {ok : Nat → Prop} (h : Ck w b n) (k : Kept ok w w') (hb : ok b) : Ck w' b n := (k.block b hb h.lt).trans h
def ChkC (b : Nat) (t : T) : Prop := ∀ (n : Nat) (p : Option Addr) (c : Nat) (w : World), n ≤ 200 → Ck w b n → ConsAt w → 0 ≠ b → FAt w (· ≠ b) t.args p →
  Calls Tryz.prog 21 #[.pointer (some ⟨b, 0, none⟩), .agg #[.int .i64 t.op, .int .i64 t.num, .string (S t.text), .slice p t.args.len c]] w fun e w' => e = .returned (.int .i64 ((t.chk n).1 : Nat)) ∧ Only b w w' ∧ Ck w' b (t.chk n).2
def ChkAll (b : Nat) : F → Prop
  | .nil => True
  | .cons o n t a r => ChkC b ⟨o, n, t, a⟩ ∧ ChkAll b r
theorem chkF_c (o nm : Int) (t : List UInt8) (a r : F) (n : Nat) : chkF (.cons o nm t a r) n =
    if 200 ≤ n then (27, n + 1) else if formedB o nm t a.len = false then (4, n + 1) else if namedB o t = false then (20, n + 1) else if (chkF a (n + 1)).1 = 0 then chkF r (chkF a (n + 1)).2 else chkF a (n + 1) := rfl
theorem chk_one (t : T) (n : Nat) : t.chk n = if 200 ≤ n then (27, n + 1) else if formedB t.op t.num t.text t.args.len = false then (4, n + 1) else if namedB t.op t.text = false then (20, n + 1) else chkF t.args (n + 1) := by
  have h : t.chk n = chkF (.cons t.op t.num t.text t.args .nil) n := rfl
  rw [h, chkF_c]
  by_cases h4 : (chkF t.args (n + 1)).1 = 0
  · have e : chkF .nil (chkF t.args (n + 1)).2 = chkF t.args (n + 1) := by
      show (0, (chkF t.args (n + 1)).2) = _
      rw [← h4]
    rw [if_pos h4, e]
  · rw [if_neg h4]
theorem chkF_cons (o nm : Int) (t : List UInt8) (a r : F) (n : Nat) : chkF (.cons o nm t a r) n = if (T.chk ⟨o, nm, t, a⟩ n).1 = 0 then chkF r (T.chk ⟨o, nm, t, a⟩ n).2 else T.chk ⟨o, nm, t, a⟩ n := by
  rw [chk_one, chkF_c]
  by_cases h1 : 200 ≤ n
  · rw [if_pos h1, if_pos h1, if_neg (by simp)]
  rw [if_neg h1, if_neg h1]
  by_cases h2 : formedB o nm t a.len = false
  · rw [if_pos h2, if_pos h2, if_neg (by simp)]
  rw [if_neg h2, if_neg h2]
  by_cases h3 : namedB o t = false
  · rw [if_pos h3, if_pos h3, if_neg (by simp)]
  rw [if_neg h3, if_neg h3]
theorem chk_tree (b : Nat) (t : T) (htl : t.text.length ≤ 281474976710656) (hk : t.args.len ≤ 281474976710656) (hall : ChkAll b t.args) : ChkC b t := by
  intro n p c w hn hck hC hgb hfa
  obtain ⟨op, num, tx, A⟩ := t
  simp only at htl hk hall hfa ⊢
  rw [chk_one]
  simp only
  have hlt := hck.lt
  have hni : (n : Int) ≤ 200 := by omega
  have c0 := hck.c0
  have fz : ∀ j, w.frozen? ⟨b, j, none⟩ = false := fun j => frozen_of_row w b j _ _ hck
  have hne : ¬ b = w.heap.size := by omega
  have hne2 : ¬ w.heap.size = b := by omega
  have zb : ∀ o j, (w.alloc o).cell? ⟨b, j, none⟩ = w.cell? ⟨b, j, none⟩ := fun o j => Kept.cell (Kept.alloc (ok := fun _ => True) w o) trivial hlt
  have zf : ∀ o j, (w.alloc o).frozen? ⟨b, j, none⟩ = false := fun o j => frozen_of_row (w.alloc o) b j _ _ (hck.keep (Kept.alloc (ok := fun _ => True) w o) trivial)
  have HA := Lib.hid (show (n : Int) + 1 = ((n + 1 : Nat) : Int) by omega)
  have O1 := (Only.set b w 0 (.int .i64 ((n + 1 : Nat) : Int))).alloc (.cells #[.int .i64 op, .int .i64 num, .string (S tx), .slice p A.len c] 24)
  have hck1 : Ck (w.setCell ⟨b, 0, none⟩ (.int .i64 ((n + 1 : Nat) : Int))) b (n + 1) := heap_setCell_same w b 0 _ _ _ hck
  have HCK1 := Lib.hid (hck1.keep (Kept.alloc (ok := fun _ => True) _ (.cells #[.int .i64 op, .int .i64 num, .string (S tx), .slice p A.len c] 24)) trivial)
  have HO1 := Lib.hid O1
  have hbx := Bx.new (w.setCell ⟨b, 0, none⟩ (.int .i64 ((n + 1 : Nat) : Int))) (.int .i64 op) (.int .i64 num) (.string (S tx)) (.slice p A.len c)
  rw [set_size] at hbx
  have HX1 := Lib.hid hbx
  have HC1 := Lib.hid (hC.keep O1.kept hgb)
  have HF1 := Lib.hid (hfa.keep O1.kept)
  have HALL := Lib.hid hall
  clear hck hC hfa O1 hck1 hbx hall
  by_cases h200 : 200 ≤ n
  · rw [if_pos h200]
    obtain rfl : n = 200 := by omega
    go_enter Tryz.func21, Tryz.ntmps21
    go_wp2_with fail
    go_ret
    exact ⟨rfl, HO1.out, HCK1.out⟩
  rw [if_neg h200]
  have hn2 : (n : Int) + 1 ≤ 200 := by omega
  have HFM := Lib.hid (fun w1 (k : ConsAt w1) => formed_any op num tx p A.len c hk htl w1 k)
  have HNM := Lib.hid (fun w1 => named_any op num tx p A.len c (by omega) w1)
  cases hfm : formedB op num tx A.len with
  | false =>
    rw [if_pos rfl]
    rw [hfm] at HFM
    go_enter Tryz.func21, Tryz.ntmps21
    go_wp2_with fail
    rw [HA.out]
    refine (HFM.out _ HC1.out).mono ?_
    rintro e w2 ⟨rfl, b2⟩
    have HO2 := Lib.hid (HO1.out.trans (Only.of_below b2))
    have HCK2 := Lib.hid (HCK1.out.keep (Kept.of_below (ok := fun _ => True) b2) trivial)
    clear b2
    go_wp2_with fail
    go_ret
    exact ⟨rfl, HO2.out, HCK2.out⟩
  | true =>
    rw [if_neg (by decide)]
    rw [hfm] at HFM
    cases hnm : namedB op tx with
    | false =>
      rw [if_pos rfl]
      rw [hnm] at HNM
      go_enter Tryz.func21, Tryz.ntmps21
      go_wp2_with fail
      rw [HA.out]
      refine (HFM.out _ HC1.out).mono ?_
      rintro e w2 ⟨rfl, b2⟩
      have HO2 := Lib.hid (HO1.out.trans (Only.of_below b2))
      have HCK2 := Lib.hid (HCK1.out.keep (Kept.of_below (ok := fun _ => True) b2) trivial)
      have hx2 := HX1.out.keep (Kept.of_below (ok := fun _ => True) b2) trivial
      have p0 := hx2.c0
      have p1 := hx2.c1
      have p2 := hx2.c2
      have p3 := hx2.c3
      clear b2 hx2
      go_wp2_with fail
      refine (HNM.out _).mono ?_
      rintro e w3 ⟨rfl, b3⟩
      have HO3 := Lib.hid (HO2.out.trans (Only.of_below b3))
      have HCK3 := Lib.hid (HCK2.out.keep (Kept.of_below (ok := fun _ => True) b3) trivial)
      clear b3
      go_wp2_with fail
      go_ret
      exact ⟨rfl, HO3.out, HCK3.out⟩
    | true =>
      rw [if_neg (by decide)]
      rw [hnm] at HNM
      go_enter Tryz.func21, Tryz.ntmps21
      go_wp2_with fail
      rw [HA.out]
      refine (HFM.out _ HC1.out).mono ?_
      rintro e w2 ⟨rfl, b2⟩
      have HO2 := Lib.hid (HO1.out.trans (Only.of_below b2))
      have HCK2 := Lib.hid (HCK1.out.keep (Kept.of_below (ok := fun _ => True) b2) trivial)
      have hx2 := HX1.out.keep (Kept.of_below (ok := fun _ => True) b2) trivial
      have HX2 := Lib.hid hx2
      have HC2 := Lib.hid (HC1.out.keep (Kept.of_below (ok := fun _ => True) b2) trivial)
      have HF2 := Lib.hid (HF1.out.keep (Kept.of_below b2))
      have p0 := hx2.c0
      have p1 := hx2.c1
      have p2 := hx2.c2
      have p3 := hx2.c3
      clear b2 hx2
      go_wp2_with fail
      refine (HNM.out _).mono ?_
      rintro e w3 ⟨rfl, b3⟩
      have HO3 := Lib.hid (HO2.out.trans (Only.of_below b3))
      have HCK3 := Lib.hid (HCK2.out.keep (Kept.of_below (ok := fun _ => True) b3) trivial)
      have hx3 := HX2.out.keep (Kept.of_below (ok := fun _ => True) b3) trivial
      have HC3 := Lib.hid (HC2.out.keep (Kept.of_below (ok := fun _ => True) b3) trivial)
      have HF3 := Lib.hid (HF2.out.keep (Kept.of_below b3))
      have q3 := hx3.c3
      clear b3 hx3
      have hki : (A.len : Int) ≤ 281474976710656 := by omega
      go_wp2_with fail
      go_loopw [29] (fun iv wr => ∃ (i : Nat) (r : F) (m : Nat) (pr : Option Addr), iv = .int .i64 i ∧ i + r.len = A.len ∧ m ≤ 200 ∧ ChkAll b r ∧ FAt wr (· ≠ b) r pr ∧ (∀ g k, pr = some ⟨g, k, none⟩ → r ≠ .nil → ∃ k0, p = some ⟨g, k0, none⟩ ∧ k = k0 + 4 * i) ∧ chkF A (n + 1) = chkF r m ∧ Ck wr b m ∧ ConsAt wr ∧ Only b w wr) (fun iv _ => A.len - (intOf iv).toNat)
      case atStart => exact ⟨0, A, n + 1, p, rfl, by omega, by omega, HALL.out, HF3.out, fun g k e _ => ⟨k, e, by omega⟩, rfl, HCK3.out, HC3.out, HO3.out⟩
      case round =>
        obtain ⟨i, r, m, pr, rfl, hil, hm, hal, hfr, hpr, hch, hck, hC, hO⟩ := hrel
        cases r with
        | nil =>
          have hil2 : i = A.len := by simpa [F.len] using hil
          have hie : ¬ (i : Int) < (A.len : Int) := by omega
          have HCH := Lib.hid hch
          have HO := Lib.hid hO
          have HCK := Lib.hid hck
          clear hch hO hck hC hfr hpr hal
          go_wp2_with fail
          go_ret
          rw [HCH.out]
          exact ⟨rfl, HO.out, HCK.out⟩
        | cons o nm tt a r =>
          obtain ⟨g, k, q, cc, rfl, hgk, hgl, f0, f1, f2, f3, hfa, hfr2⟩ := hfr
          obtain ⟨k0, rfl, rfl⟩ := hpr g k rfl (by intro e; cases e)
          have hil2 : i + (r.len + 1) = A.len := by simpa [F.len] using hil
          have hie : (i : Int) < (A.len : Int) := by omega
          have hb := hck.lt
          have HCH := Lib.hid hch
          have HO := Lib.hid hO
          have HCK := Lib.hid hck
          have HCC := Lib.hid hC
          have HFA := Lib.hid hfa
          have HFR := Lib.hid hfr2
          have HAL := Lib.hid hal
          rw [show k0 + 4 * i = k0 + i * 4 by omega] at f0 f1 f2 f3
          have hcall := hal.1 m q cc (wr.alloc (.cells #[.int .i64 o, .int .i64 nm, .string (S tt), .slice q a.len cc] 24)) hm (hck.keep (Kept.alloc (ok := fun _ => True) wr _) trivial) (hC.keep (Kept.alloc (ok := fun _ => True) wr _) trivial) hgb (hfa.keep (Kept.alloc wr _))
          have HCALL := Lib.hid hcall
          clear hch hO hck hC hfa hfr2 hal hcall hpr
          have HGT := Lib.hid (chkF_cons o nm tt a r m)
          have hcnt : (T.chk ⟨o, nm, tt, a⟩ m).1 = 0 → (T.chk ⟨o, nm, tt, a⟩ m).2 ≤ 200 := fun h0 => chkF_count (.cons o nm tt a .nil) m hm h0
          have HCNT := Lib.hid hcnt
          clear hcnt
          generalize hck2 : T.chk ⟨o, nm, tt, a⟩ m = ck at *
          obtain ⟨ce, cm⟩ := ck
          simp only at HGT HCNT
          go_wp2_with fail
          refine HCALL.out.mono ?_
          rintro e w5 ⟨rfl, o5, ck5⟩
          have HO5 := Lib.hid ((HO.out.alloc (.cells #[.int .i64 o, .int .i64 nm, .string (S tt), .slice q a.len cc] 24)).trans o5)
          have HCK5 := Lib.hid ck5
          have HC5 := Lib.hid ((HCC.out.keep (Kept.alloc (ok := fun _ => True) wr (.cells #[.int .i64 o, .int .i64 nm, .string (S tt), .slice q a.len cc] 24)) trivial).keep o5.kept hgb)
          have HF5 := Lib.hid ((HFR.out.keep (Kept.alloc wr (.cells #[.int .i64 o, .int .i64 nm, .string (S tt), .slice q a.len cc] 24))).keep o5.kept)
          clear o5 ck5
          by_cases hce : ce = 0
          · subst hce
            have HCH2 := Lib.hid (show chkF A (n + 1) = chkF r cm by rw [HCH.out, HGT.out, if_pos rfl])
            have hcm := HCNT.out rfl
            go_wp2_with fail
            go_roundw
            case rel => exact ⟨i + 1, r, cm, some ⟨g, k0 + 4 * i + 4, none⟩, by go_num, by omega, hcm, HAL.out.2, HF5.out, fun g' k' e _ => by injection e with e; injection e with e1 e2 _; subst e1 e2; exact ⟨k0, rfl, by omega⟩, HCH2.out, HCK5.out, HC5.out, HO5.out⟩
            case measure => simp [intOf]; omega
          · have hce2 : ((ce : Int) == 0) = false := by rw [beq_eq_false_iff_ne]; omega
            have hce3 : ((ce : Int) != 0) = true := by simp; exact hce
            have HCH2 := Lib.hid (show chkF A (n + 1) = (ce, cm) by rw [HCH.out, HGT.out, if_neg hce])
            go_wp2_with fail
            try simp only [Exit.inBlock, Exit.then]
            go_ret
            rw [HCH2.out]
            exact ⟨rfl, HO5.out, HCK5.out⟩
theorem chk_all (b : Nat) : ∀ l : F, l.fits → ChkAll b l
  | .nil, _ => trivial
  | .cons o n t a r, h => ⟨chk_tree b ⟨o, n, t, a⟩ h.1 h.2.1 (chk_all b a h.2.2.1), chk_all b r h.2.2.2⟩
theorem chk_any (b : Nat) (t : T) (h : t.row.fits) : ChkC b t := (chk_all b t.row h).1
end Go.Proofs.YtlmmfhbdebfgkaaGreatDoor.Ex
namespace Go.Proofs.YtlmmfhbdebfgkaaGreatDoor.Ex
open Go.RowKit
open Lx
theorem WrB.set2 {w : World} {b : Nat} {p v : Value} {o d : Int} (h : WrB w b p v o d) (x : Int) : WrB (w.setCell ⟨b, 2, none⟩ (.int .i64 x)) b p v x d := heap_setCell_same w b 2 _ _ _ h
theorem WrB.set3 {w : World} {b : Nat} {p v : Value} {o d : Int} (h : WrB w b p v o d) (x : Int) : WrB (w.setCell ⟨b, 3, none⟩ (.int .i64 x)) b p v o x := heap_setCell_same w b 3 _ _ _ h
theorem Wr.set23 {w : World} {b : Nat} {l : List UInt8} {o d o' d' : Int} (h : Wr w b l o d) : Wr ((w.setCell ⟨b, 2, none⟩ (.int .i64 o')).setCell ⟨b, 3, none⟩ (.int .i64 d')) b l o' d' ∧ Wk b w ((w.setCell ⟨b, 2, none⟩ (.int .i64 o')).setCell ⟨b, 3, none⟩ (.int .i64 d')) := by
  obtain ⟨p, v, hw, hp, hown⟩ := h.has
  have hne : v.ownBlock = none ∨ v.ownBlock ≠ some b := .inr (fun e => by
    have := (World.ownsRow.lt hown b e).1
    omega)
  have h1 := World.ownsRow.kept (row := some b) hown (Only.set b w 2 (.int .i64 o')) hne
  have h2 := World.ownsRow.kept (row := some b) h1 (Only.set b _ 3 (.int .i64 d')) hne
  exact ⟨⟨p, v, (hw.set2 o').set3 d', hp, h2⟩, Wk.step (((Below.refl b w).setCell (p := ⟨b, 2, none⟩) (Nat.le_refl _) _).setCell (p := ⟨b, 3, none⟩) (Nat.le_refl _) _) hw ((hw.set2 o').set3 d')
    (fun g _ hgb _ => (heap_setCell_other _ ⟨b, 3, none⟩ g _ (fun e => hgb (by simpa using e))).trans (heap_setCell_other w ⟨b, 2, none⟩ g _ (fun e => hgb (by simpa using e)))) (.inl rfl)⟩
theorem Wr.set2' {w : World} {b : Nat} {l : List UInt8} {o d o' : Int} (h : Wr w b l o d) : Wr (w.setCell ⟨b, 2, none⟩ (.int .i64 o')) b l o' d ∧ Wk b w (w.setCell ⟨b, 2, none⟩ (.int .i64 o')) := by
  obtain ⟨p, v, hw, hp, hown⟩ := h.has
  have hne : v.ownBlock = none ∨ v.ownBlock ≠ some b := .inr (fun e => by
    have := (World.ownsRow.lt hown b e).1
    omega)
  have h1 := World.ownsRow.kept (row := some b) hown (Only.set b w 2 (.int .i64 o')) hne
  exact ⟨⟨p, v, hw.set2 o', hp, h1⟩, Wk.step ((Below.refl b w).setCell (p := ⟨b, 2, none⟩) (Nat.le_refl _) _) hw (hw.set2 o')
    (fun g _ hgb _ => heap_setCell_other w ⟨b, 2, none⟩ g _ (fun e => hgb (by simpa using e))) (.inl rfl)⟩
theorem Wr.c2 {w : World} {b : Nat} {l : List UInt8} {o d : Int} (h : Wr w b l o d) : w.cell? ⟨b, 2, none⟩ = some (.int .i64 o) := by
  obtain ⟨p, v, hw, _⟩ := h.has
  exact hw.c2
theorem Wr.c3 {w : World} {b : Nat} {l : List UInt8} {o d : Int} (h : Wr w b l o d) : w.cell? ⟨b, 3, none⟩ = some (.int .i64 d) := by
  obtain ⟨p, v, hw, _⟩ := h.has
  exact hw.c3
theorem Wr.fz {w : World} {b : Nat} {l : List UInt8} {o d : Int} (h : Wr w b l o d) (j : Nat) : w.frozen? ⟨b, j, none⟩ = false := by
  obtain ⟨p, v, hw, _⟩ := h.has
  exact hw.fz j
theorem Wr.drew {w : World} {b : Nat} {l : List UInt8} {o d : Int} (h : Wr w b l o d) : Wr w.drew b l o d := h.below (Below.refl _ _).drew
theorem Wk.drew {b : Nat} {w w' : World} (h : Wk b w w') : Wk b w w'.drew := ⟨h.below.drew, h.block⟩
theorem enter_any (b : Nat) (l : List UInt8) (o d : Nat) (ho : o ≤ 100000) (w : World) (h : Wr w b l o d) :
    Calls Tryz.prog 40 #[.pointer (some ⟨b, 0, none⟩)] w fun e w' => e = .returned (.tuple #[]) ∧ Wr w' b l (o + 1 : Nat) (max d (o + 1) : Nat) ∧ Wk b w w' := by
  have c2 := h.c2
  have c3 := h.c3
  have f2 := h.fz 2
  have f3 := h.fz 3
  have hoi : (o : Int) ≤ 100000 := by omega
  have HF := Lib.hid (fun o' d' : Int => h.set23 (o' := o') (d' := d'))
  have HA := Lib.hid (show (o : Int) + 1 = ((o + 1 : Nat) : Int) by omega)
  clear h
  have HM := Lib.hid (show (max (d : Int) ((o : Int) + 1)) = ((max d (o + 1) : Nat) : Int) by omega)
  go_enter Tryz.func40, Tryz.ntmps40
  go_wp2_with fail
  go_region
  go_end0
  rw [HM.out, HA.out]
  obtain ⟨h1, h2⟩ := HF.out (o + 1 : Nat) (max d (o + 1) : Nat)
  exact ⟨rfl, h1.drew, h2.drew⟩
theorem conLevel (op : Int) : (match conOf op with | some c => c.level | none => 6) = (bound op : Int) := by
  by_cases h : op = 41 ∨ op = 40 ∨ op = 30 ∨ op = 31 ∨ op = 32 ∨ op = 33 ∨ op = 23 ∨ op = 24 ∨ op = 20 ∨ op = 21 ∨ op = 22 ∨ op = 10 ∨ op = 11 ∨ op = 12 ∨ op = 25 ∨ op = 26
  · rcases h with rfl | rfl | rfl | rfl | rfl | rfl | rfl | rfl | rfl | rfl | rfl | rfl | rfl | rfl | rfl | rfl <;> rfl
  · have hn : conOf op = none := con_none _ fun j hj => by
      have : j = 0 ∨ j = 1 ∨ j = 2 ∨ j = 3 ∨ j = 4 ∨ j = 5 ∨ j = 6 ∨ j = 7 ∨ j = 8 ∨ j = 9 ∨ j = 10 ∨ j = 11 ∨ j = 12 ∨ j = 13 ∨ j = 14 ∨ j = 15 ∨ j = 16 ∨ j = 17 := by omega
      rcases this with rfl | rfl | rfl | rfl | rfl | rfl | rfl | rfl | rfl | rfl | rfl | rfl | rfl | rfl | rfl | rfl | rfl | rfl <;> (simp [conAt, conL]; try omega)
    rw [hn]
    simp only
    unfold bound
    rw [if_neg (by omega), if_neg (by omega), if_neg (by omega), if_neg (by omega), if_neg (by omega), if_neg (by omega)]
    rfl
theorem levelOf_any (op : Int) (w : World) (hc : ConsAt w) :
    Calls Tryz.prog 67 #[.int .i64 op] w fun e w' => e = .returned (.int .i64 (bound op : Int)) ∧ Below w.heap.size w w' := by
  have HC := Lib.hid (constructOf_any op w hc)
  have HL := Lib.hid (conLevel op)
  clear hc
  cases hcon : conOf op with
  | none =>
    rw [hcon] at HC HL
    go_enter Tryz.func67, Tryz.ntmps67
    go_wp2_with fail
    refine HC.out.mono ?_
    rintro e w1 ⟨rfl, b1⟩
    have HB := Lib.hid b1
    clear b1
    unfold conV
    go_wp2_with fail
    go_ret
    rw [← HL.out]
    exact ⟨rfl, HB.out.alloc HB.out.size _⟩
  | some c =>
    rw [hcon] at HC HL
    go_enter Tryz.func67, Tryz.ntmps67
    go_wp2_with fail
    refine HC.out.mono ?_
    rintro e w1 ⟨rfl, b1⟩
    have HB := Lib.hid b1
    clear b1
    unfold conV
    go_wp2_with fail
    go_ret
    rw [← HL.out]
    exact ⟨rfl, HB.out.alloc HB.out.size _⟩
end Go.Proofs.YtlmmfhbdebfgkaaGreatDoor.Ex
namespace Go.Proofs.YtlmmfhbdebfgkaaGreatDoor.Ex
open Go.RowKit
open Lx Va
def okF : F → Prop
  | .nil => True
  | .cons o n t a r => formedB o n t a.len = true ∧ namedB o t = true ∧ n ≤ 9223372036854775807 ∧ okF a ∧ okF r
theorem nameB_len {s : List UInt8} (h : nameB s = true) : s.length ≤ 24 := by
  cases s with
  | nil => simp
  | cons c r => simp [nameB] at h; simp; omega
theorem nums_none (w : World) (a : Option Addr) : NumsAt w a [] := fun i hi => by simp at hi
theorem leaf_any (op num : Int) (t : List UInt8) (p : Option Addr) (k c : Nat) (hop : 1 ≤ op ∧ op ≤ 7) (hne5 : op ≠ 5) (hf : formedB op num t k = true) (hn : namedB op t = true) (hnum : num ≤ 9223372036854775807) (w : World) (htab : Tab w) :
    Calls Tryz.prog 39 #[.agg #[.int .i64 op, .int .i64 num, .string (S t), .slice p k c]] w fun e w' => e = .returned (.string (S (leafL op num t))) ∧ Below w.heap.size w w' := by
  have hb0 := (Below.refl w.heap.size w).alloc (Nat.le_refl _) (.cells #[.int .i64 op, .int .i64 num, .string (S t), .slice p k c] 24)
  have HT := Lib.hid (htab.below hb0)
  have HB := Lib.hid hb0
  clear htab hb0
  have h7 : op = 1 ∨ op = 2 ∨ op = 3 ∨ op = 4 ∨ op = 6 ∨ op = 7 := by omega
  have hms : wMsg ++ [46] = [109, 115, 103, 46] := rfl
  rcases h7 with rfl | rfl | rfl | rfl | rfl | rfl
  · have h0 : 0 ≤ num := by simp [formedB] at hf; omega
    have HP := Lib.hid (fun (wr : World) (h : Tab wr) => show Calls Tryz.prog 66 #[.agg #[.int .i64 1, .int .i64 num, .string ⟨#[]⟩, .slice none 0 0]] wr fun e w' => e = .returned (.string (S (printV ⟨1, num, [], []⟩))) ∧ Below wr.heap.size wr w' from Print_any ⟨1, num, [], []⟩ ⟨⟨by simp only; omega, hnum⟩, by simp, by simp, by simp⟩ (by simp [rightB]) none 0 wr (nums_none _ _) h)
    have HL := Lib.hid (show leafL 1 num t = printV ⟨1, num, [], []⟩ from rfl)
    clear hf hn hnum h0
    rw [HL.out]
    go_enter Tryz.func39, Tryz.ntmps39
    go_wp2_with fail
    refine (HP.out _ HT.out).mono ?_
    rintro e w1 ⟨rfl, b1⟩
    have HB1 := Lib.hid (HB.out.trans (b1.mono HB.out.size))
    clear b1
    go_wp2_with fail
    go_ret
    exact ⟨rfl, HB1.out⟩
  · have h0 : t.length ≤ 64 := by simp [formedB] at hf; omega
    have HP := Lib.hid (fun (wr : World) (h : Tab wr) => show Calls Tryz.prog 66 #[.agg #[.int .i64 3, .int .i64 0, .string (S t), .slice none 0 0]] wr fun e w' => e = .returned (.string (S (printV ⟨3, 0, t, []⟩))) ∧ Below wr.heap.size wr w' from Print_any ⟨3, 0, t, []⟩ ⟨by simp only; omega, by simp only; omega, by simp, by simp⟩ (by simpa [rightB] using h0) none 0 wr (nums_none _ _) h)
    have HL := Lib.hid (show leafL 2 num t = printV ⟨3, 0, t, []⟩ from rfl)
    clear hf hn hnum h0
    rw [HL.out]
    go_enter Tryz.func39, Tryz.ntmps39
    go_wp2_with fail
    refine (HP.out _ HT.out).mono ?_
    rintro e w1 ⟨rfl, b1⟩
    have HB1 := Lib.hid (HB.out.trans (b1.mono HB.out.size))
    clear b1
    go_wp2_with fail
    go_ret
    exact ⟨rfl, HB1.out⟩
  · have h0 : num = 0 ∨ num = 1 := by simp [formedB] at hf; omega
    have HP := Lib.hid (fun (wr : World) (h : Tab wr) => show Calls Tryz.prog 66 #[.agg #[.int .i64 2, .int .i64 num, .string ⟨#[]⟩, .slice none 0 0]] wr fun e w' => e = .returned (.string (S (printV ⟨2, num, [], []⟩))) ∧ Below wr.heap.size wr w' from Print_any ⟨2, num, [], []⟩ ⟨⟨by simp only; omega, hnum⟩, by simp, by simp, by simp⟩ (by rcases h0 with rfl | rfl <;> simp [rightB]) none 0 wr (nums_none _ _) h)
    have HL := Lib.hid (show leafL 3 num t = printV ⟨2, num, [], []⟩ from rfl)
    clear hf hn hnum h0
    rw [HL.out]
    go_enter Tryz.func39, Tryz.ntmps39
    go_wp2_with fail
    refine (HP.out _ HT.out).mono ?_
    rintro e w1 ⟨rfl, b1⟩
    have HB1 := Lib.hid (HB.out.trans (b1.mono HB.out.size))
    clear b1
    go_wp2_with fail
    go_ret
    exact ⟨rfl, HB1.out⟩
  · have h0 : nameB t = true := by simpa [namedB] using hn
    have hl0 : t.length ≤ 24 := nameB_len h0
    have HP := Lib.hid (fun (wr : World) (h : Tab wr) => show Calls Tryz.prog 66 #[.agg #[.int .i64 4, .int .i64 0, .string (S t), .slice none 0 0]] wr fun e w' => e = .returned (.string (S (39 :: t))) ∧ Below wr.heap.size wr w' from Print_any ⟨4, 0, t, []⟩ ⟨by simp only; omega, by simp only; omega, by simp, by simp⟩ (by simpa [rightB] using h0) none 0 wr (nums_none _ _) h)
    have HL := Lib.hid (show leafL 4 num t = 39 :: t from rfl)
    clear hf hn hnum h0 hl0
    rw [HL.out]
    go_enter Tryz.func39, Tryz.ntmps39
    go_wp2_with fail
    refine (HP.out _ HT.out).mono ?_
    rintro e w1 ⟨rfl, b1⟩
    have HB1 := Lib.hid (HB.out.trans (b1.mono HB.out.size))
    clear b1
    go_wp2_with fail
    go_ret
    exact ⟨rfl, HB1.out⟩
  · have HL := Lib.hid (show leafL 6 num t = t from rfl)
    clear hf hn hnum
    rw [HL.out]
    go_enter Tryz.func39, Tryz.ntmps39
    go_wp2_with fail
    go_ret
    exact ⟨rfl, HB.out⟩
  · have h0 : nameB t = true := by simpa [namedB] using hn
    have hl0 : t.length ≤ 24 := nameB_len h0
    have hsz : (S t).size = t.length := S_size t
    have HL := Lib.hid (show leafL 7 num t = [109, 115, 103, 46] ++ t from rfl)
    have HA := Lib.hid (show (S [109, 115, 103, 46]) ++ S t = S ([109, 115, 103, 46] ++ t) from rfl)
    clear hf hn hnum h0
    rw [HL.out]
    go_enter Tryz.func39, Tryz.ntmps39
    go_wp2_with fail
    go_ret
    exact ⟨rfl, HB.out⟩
end Go.Proofs.YtlmmfhbdebfgkaaGreatDoor.Ex
