/- ZTyRefD -/
import Derived.Test.YtchjckdjkecjnaaGreatDoorYTzN
import Derived.Test.YtchjckdjkecjnaaGreatDoorYTzTy
import Derived.Deep.RegionHeld3
import Derived.Deep.QuietTactic
import Derived.BigQuiet
import Derived.Lib.SmallJoins
namespace Go.Proofs.YtchjckdjkecjnaaGreatDoor.Ty
open Go.RowKit
open Ex Lx
set_option linter.unusedVariables false
set_option linter.unusedSimpArgs false
def RofC (s : Sc) (pe pa pf : Option Addr) (ce ca cf : Nat) (t : T) : Prop := ∀ (p : Option Addr) (c : Nat) (w : World), ScAt w pe pa pf s → FAt w (fun _ => True) t.args p →
  Calls Tryz.prog 25 #[.slice pe s.enums.length ce, .slice pa s.attrs.length ca, .slice pf s.fields.length cf, .agg #[.int .i64 t.op, .int .i64 t.num, .string (S t.text), .slice p t.args.len c]] w fun e w' => e = retT (tyT s t) ∧ Below w.heap.size w w'
def RofAll (s : Sc) (pe pa pf : Option Addr) (ce ca cf : Nat) : F → Prop
  | .nil => True
  | .cons o n t a r => RofC s pe pa pf ce ca cf ⟨o, n, t, a⟩ ∧ RofAll s pe pa pf ce ca cf r
set_option maxRecDepth 100000 in
set_option maxHeartbeats 16000000 in
theorem rof_tree (s : Sc) (pe pa pf : Option Addr) (ce ca cf : Nat) (hf : ScFit s) (t : T) (hcnt : cntB t.op t.args.len = true) (hall : RofAll s pe pa pf ce ca cf t.args) : RofC s pe pa pf ce ca cf t := by
  intro p c w hs hfa
  obtain ⟨op, num, tx, A⟩ := t
  simp only at hcnt hall hfa ⊢
  have hlen := (cnt_len hcnt).1
  obtain ⟨W2, hW2⟩ : ∃ W2, W2 = (w.alloc (.cells #[.int .i64 op, .int .i64 num, .string (S tx), .slice p A.len c] 28)).alloc (.cells #[.int .i64 0, .string ⟨#[]⟩, .string ⟨#[]⟩] 35) := ⟨_, rfl⟩
  have hb2 : Below w.heap.size w W2 := by rw [hW2]; exact ((Below.refl w.heap.size w).alloc (Nat.le_refl _) _).alloc (by simp) _
  have hs2 : W2.heap.size = w.heap.size + 1 + 1 := by rw [hW2]; simp
  have hbx : Bx W2 w.heap.size (.int .i64 op) (.int .i64 num) (.string (S tx)) (.slice p A.len c) := by rw [hW2]; exact (Bx.new w _ _ _ _).keep (Kept.alloc (ok := fun _ => True) _ _) trivial
  have hrb : RB W2 (w.heap.size + 1) (.int .i64 0) (.string ⟨#[]⟩) (.string ⟨#[]⟩) := by rw [hW2]; exact RB.new _ _ _ _ _ (by simp)
  have HF2 := Lib.hid ((FAt.mono (ok' := (· < w.heap.size)) (fun g hg _ => hg) _ _ hfa).keep (Kept.of_below hb2))
  have HW2 := Lib.hid hW2
  have HS := Lib.hid (hs.later hb2)
  have HBX := Lib.hid hbx
  have HRB := Lib.hid hrb
  have HB2 := Lib.hid hb2
  have HALL := Lib.hid hall
  have hki : (A.len : Int) ≤ 16 := by omega
  clear hW2 hb2 hbx hrb hs hfa hall
  go_enter Tryz.func25, Tryz.ntmps25
  go_wp2_with fail
  rw [← HW2.out]
  go_loopw [10, 11, 12, 19] (fun lv b1 b2 kv wr => ∃ (i : Nat) (r : F) (d : List TT) (pr q : Option Addr) (cap : Nat), lv = .slice q d.length cap ∧ b1 = .bool (allK d 1) ∧ b2 = .bool (allK d 2) ∧ kv = .int .i64 i ∧ i + r.len = A.len ∧ i = d.length ∧ RofAll s pe pa pf ce ca cf r ∧ FAt wr (· < w.heap.size) r pr ∧ (∀ g k, pr = some ⟨g, k, none⟩ → r ≠ .nil → ∃ k0, p = some ⟨g, k0, none⟩ ∧ k = k0 + 4 * i) ∧
    tyF s A = joinT d (tyF s r) ∧ wr.ownsRow W2.heap.size 35 3 (.slice q d.length cap) d.length (rttC d) ∧ Below W2.heap.size W2 wr) (fun _ _ _ kv _ => A.len - (intOf kv).toNat)
  case atStart => exact ⟨0, A, [], p, none, 0, rfl, rfl, rfl, rfl, by omega, rfl, HALL.out, HF2.out, fun g k e _ => ⟨k, e, by omega⟩, joinT_nil s A, World.ownsRow_nil _ _ _ _, Below.refl _ _⟩
  case round =>
    obtain ⟨i, r, d, pr, q, cap, rfl, rfl, rfl, rfl, hil, hid, hal, hfr, hpr, hty, hown, hb⟩ := hrel
    have hx := HBX.out.keep (Kept.of_below (ok := fun _ => True) hb) trivial
    have q0 := hx.c0
    have q1 := hx.c1
    have q2 := hx.c2
    have q3 := hx.c3
    have hle : w.heap.size + 1 + 1 ≤ wr.heap.size := by have := hb.size; omega
    have hrb := HRB.out.later hb
    cases r with
    | nil =>
      have hil2 : i = A.len := by simpa [F.len] using hil
      have hie : ¬ (i : Int) < (A.len : Int) := by omega
      have hdl : d.length = A.len := by omega
      have HTY := Lib.hid (show tyT s ⟨op, num, tx, A⟩ = oneR s op tx d by
        rw [oneR_eq s op tx d (by rw [hdl]; exact hcnt)]
        unfold tyT nodeTy
        simp only [hty, joinT_end, if_true])
      have HBE := Lib.hid (HB2.out.trans (hb.mono HB2.out.size))
      have HTT := Lib.hid (TTsAt.of_own hown)
      have HSC := Lib.hid (HS.out.later hb)
      have HNB := Lib.hid (show ∀ g, (Value.slice q d.length cap).ownBlock = some g → g ≠ w.heap.size + 1 from fun g hg => by have := (World.ownsRow.lt hown g hg).1; omega)
      clear hx hb hown hty hfr hpr hal HS HBX HRB HALL HF2 HW2
      by_cases h : op = 1
      · subst h
        have fz := hrb.fz
        have k0 := hrb.c0
        have k1 := hrb.c1
        have k2 := hrb.c2
        have HP := Lib.hid (hrb.put (.int .i64 1) (.string ⟨#[]⟩) (.string ⟨#[]⟩))
        clear hrb
        go_wp2_with fail
        have d0 := HP.out.c0
        have d1 := HP.out.c1
        have d2 := HP.out.c2
        (try simp only [Exit.inBlock, Exit.then])
        exact bodyPost_ret (v := .tuple #[.agg #[.int .i64 1, .string ⟨#[]⟩, .string ⟨#[]⟩], .int .i64 0]) (by simp [results, d0, d1, d2, Tryz.results25, go_sem]) rfl ⟨by rw [HTY.out]; rfl, ((HBE.out.setCell (p := ⟨w.heap.size + 1, 0, none⟩) (by simp) _).setCell (p := ⟨w.heap.size + 1, 1, none⟩) (by simp) _).setCell (p := ⟨w.heap.size + 1, 2, none⟩) (by simp) _⟩
      have e1 : (op == 1) = false := by rw [beq_eq_false_iff_ne]; exact h
      clear h
      by_cases h : op = 2
      · subst h
        have fz := hrb.fz
        have k0 := hrb.c0
        have k1 := hrb.c1
        have k2 := hrb.c2
        have HP := Lib.hid (hrb.put (.int .i64 3) (.string ⟨#[]⟩) (.string ⟨#[]⟩))
        clear hrb
        go_wp2_with fail
        have d0 := HP.out.c0
        have d1 := HP.out.c1
        have d2 := HP.out.c2
        (try simp only [Exit.inBlock, Exit.then])
        exact bodyPost_ret (v := .tuple #[.agg #[.int .i64 3, .string ⟨#[]⟩, .string ⟨#[]⟩], .int .i64 0]) (by simp [results, d0, d1, d2, Tryz.results25, go_sem]) rfl ⟨by rw [HTY.out]; rfl, ((HBE.out.setCell (p := ⟨w.heap.size + 1, 0, none⟩) (by simp) _).setCell (p := ⟨w.heap.size + 1, 1, none⟩) (by simp) _).setCell (p := ⟨w.heap.size + 1, 2, none⟩) (by simp) _⟩
      have e2 : (op == 2) = false := by rw [beq_eq_false_iff_ne]; exact h
      clear h
      by_cases h : op = 3
      · subst h
        have fz := hrb.fz
        have k0 := hrb.c0
        have k1 := hrb.c1
        have k2 := hrb.c2
        have HP := Lib.hid (hrb.put (.int .i64 2) (.string ⟨#[]⟩) (.string ⟨#[]⟩))
        clear hrb
        go_wp2_with fail
        have d0 := HP.out.c0
        have d1 := HP.out.c1
        have d2 := HP.out.c2
        (try simp only [Exit.inBlock, Exit.then])
        exact bodyPost_ret (v := .tuple #[.agg #[.int .i64 2, .string ⟨#[]⟩, .string ⟨#[]⟩], .int .i64 0]) (by simp [results, d0, d1, d2, Tryz.results25, go_sem]) rfl ⟨by rw [HTY.out]; rfl, ((HBE.out.setCell (p := ⟨w.heap.size + 1, 0, none⟩) (by simp) _).setCell (p := ⟨w.heap.size + 1, 1, none⟩) (by simp) _).setCell (p := ⟨w.heap.size + 1, 2, none⟩) (by simp) _⟩
      have e3 : (op == 3) = false := by rw [beq_eq_false_iff_ne]; exact h
      clear h
      by_cases h : op = 4
      · subst h
        have fz := hrb.fz
        have k0 := hrb.c0
        have k1 := hrb.c1
        have k2 := hrb.c2
        have HP := Lib.hid (hrb.put (.int .i64 4) (.string ⟨#[]⟩) (.string (S tx)))
        clear hrb
        go_wp2_with fail
        have d0 := HP.out.c0
        have d1 := HP.out.c1
        have d2 := HP.out.c2
        (try simp only [Exit.inBlock, Exit.then])
        exact bodyPost_ret (v := .tuple #[.agg #[.int .i64 4, .string ⟨#[]⟩, .string (S tx)], .int .i64 0]) (by simp [results, d0, d1, d2, Tryz.results25, go_sem]) rfl ⟨by rw [HTY.out]; rfl, ((HBE.out.setCell (p := ⟨w.heap.size + 1, 0, none⟩) (by simp) _).setCell (p := ⟨w.heap.size + 1, 1, none⟩) (by simp) _).setCell (p := ⟨w.heap.size + 1, 2, none⟩) (by simp) _⟩
      have e4 : (op == 4) = false := by rw [beq_eq_false_iff_ne]; exact h
      clear h
      by_cases h : op = 5
      · subst h
        have HOK := Lib.hid (show oneR s 5 tx d = whenR 5 (allK d 1) from rfl)
        have HC := Lib.hid (fun wq => when_any 5 (allK d 1) wq)
        have HX := Lib.hid (show tyT s ⟨5, num, tx, A⟩ = whenR 5 (allK d 1) from HTY.out.trans HOK.out)
        generalize whenR 5 (allK d 1) = X at HC HX
        obtain ⟨⟨xk, xe, xl⟩, xb⟩ := X
        unfold retT at HC
        simp only at HC
        clear HOK HTY
        have HRB2 := Lib.hid hrb
        clear hrb
        go_wp2_with fail
        refine (HC.out _).mono ?_
        rintro e w5 ⟨rfl, b5⟩
        have hnb := HRB2.out.later b5
        have fz := hnb.fz
        have k0 := hnb.c0
        have k1 := hnb.c1
        have k2 := hnb.c2
        have HP := Lib.hid (hnb.put (.int .i64 xk) (.string (S xe)) (.string (S xl)))
        have HBE5 := Lib.hid (HBE.out.trans (b5.mono HBE.out.size))
        clear b5 hnb
        go_wp2_with fail
        have d0 := HP.out.c0
        have d1 := HP.out.c1
        have d2 := HP.out.c2
        (try simp only [Exit.inBlock, Exit.then])
        exact bodyPost_ret (v := .tuple #[.agg #[.int .i64 xk, .string (S xe), .string (S xl)], .int .i64 xb]) (by simp [results, d0, d1, d2, Tryz.results25, go_sem]) rfl ⟨by rw [HX.out]; rfl, ((HBE5.out.setCell (p := ⟨w.heap.size + 1, 0, none⟩) (by simp) _).setCell (p := ⟨w.heap.size + 1, 1, none⟩) (by simp) _).setCell (p := ⟨w.heap.size + 1, 2, none⟩) (by simp) _⟩
      have e5 : (op == 5) = false := by rw [beq_eq_false_iff_ne]; exact h
      clear h
      by_cases h : op = 6
      · subst h
        have HOK := Lib.hid (show oneR s 6 tx d = namedTy s.attrs tx from rfl)
        have HC := Lib.hid (fun wq (k : Below wr.heap.size wr wq) => rnamed_any s.attrs tx pa ca wq (HSC.out.attrs.later k) hf.attrs)
        have HX := Lib.hid (show tyT s ⟨6, num, tx, A⟩ = (namedTy s.attrs tx) from HTY.out.trans HOK.out)
        generalize (namedTy s.attrs tx) = X at HC HX
        obtain ⟨⟨xk, xe, xl⟩, xb⟩ := X
        unfold retT at HC
        simp only at HC
        clear HOK HTY
        have HRB2 := Lib.hid hrb
        clear hrb
        go_wp2_with fail
        refine (HC.out _ (Below.refl _ _)).mono ?_
        rintro e w5 ⟨rfl, b5⟩
        have hnb := HRB2.out.later b5
        have fz := hnb.fz
        have k0 := hnb.c0
        have k1 := hnb.c1
        have k2 := hnb.c2
        have HP := Lib.hid (hnb.put (.int .i64 xk) (.string (S xe)) (.string (S xl)))
        have HBE5 := Lib.hid (HBE.out.trans (b5.mono HBE.out.size))
        clear b5 hnb
        go_wp2_with fail
        have d0 := HP.out.c0
        have d1 := HP.out.c1
        have d2 := HP.out.c2
        (try simp only [Exit.inBlock, Exit.then])
        exact bodyPost_ret (v := .tuple #[.agg #[.int .i64 xk, .string (S xe), .string (S xl)], .int .i64 xb]) (by simp [results, d0, d1, d2, Tryz.results25, go_sem]) rfl ⟨by rw [HX.out]; rfl, ((HBE5.out.setCell (p := ⟨w.heap.size + 1, 0, none⟩) (by simp) _).setCell (p := ⟨w.heap.size + 1, 1, none⟩) (by simp) _).setCell (p := ⟨w.heap.size + 1, 2, none⟩) (by simp) _⟩
      have e6 : (op == 6) = false := by rw [beq_eq_false_iff_ne]; exact h
      clear h
      by_cases h : op = 7
      · subst h
        have HOK := Lib.hid (show oneR s 7 tx d = namedTy s.fields tx from rfl)
        have HC := Lib.hid (fun wq (k : Below wr.heap.size wr wq) => rnamed_any s.fields tx pf cf wq (HSC.out.fields.later k) hf.fields)
        have HX := Lib.hid (show tyT s ⟨7, num, tx, A⟩ = (namedTy s.fields tx) from HTY.out.trans HOK.out)
        generalize (namedTy s.fields tx) = X at HC HX
        obtain ⟨⟨xk, xe, xl⟩, xb⟩ := X
        unfold retT at HC
        simp only at HC
        clear HOK HTY
        have HRB2 := Lib.hid hrb
        clear hrb
        go_wp2_with fail
        refine (HC.out _ (Below.refl _ _)).mono ?_
        rintro e w5 ⟨rfl, b5⟩
        have hnb := HRB2.out.later b5
        have fz := hnb.fz
        have k0 := hnb.c0
        have k1 := hnb.c1
        have k2 := hnb.c2
        have HP := Lib.hid (hnb.put (.int .i64 xk) (.string (S xe)) (.string (S xl)))
        have HBE5 := Lib.hid (HBE.out.trans (b5.mono HBE.out.size))
        clear b5 hnb
        go_wp2_with fail
        have d0 := HP.out.c0
        have d1 := HP.out.c1
        have d2 := HP.out.c2
        (try simp only [Exit.inBlock, Exit.then])
        exact bodyPost_ret (v := .tuple #[.agg #[.int .i64 xk, .string (S xe), .string (S xl)], .int .i64 xb]) (by simp [results, d0, d1, d2, Tryz.results25, go_sem]) rfl ⟨by rw [HX.out]; rfl, ((HBE5.out.setCell (p := ⟨w.heap.size + 1, 0, none⟩) (by simp) _).setCell (p := ⟨w.heap.size + 1, 1, none⟩) (by simp) _).setCell (p := ⟨w.heap.size + 1, 2, none⟩) (by simp) _⟩
      have e7 : (op == 7) = false := by rw [beq_eq_false_iff_ne]; exact h
      clear h
      by_cases h : op = 10
      · subst h
        have HOK := Lib.hid (show oneR s 10 tx d = whenR 2 (allK d 2) from rfl)
        have HC := Lib.hid (fun wq => when_any 2 (allK d 2) wq)
        have HX := Lib.hid (show tyT s ⟨10, num, tx, A⟩ = whenR 2 (allK d 2) from HTY.out.trans HOK.out)
        generalize whenR 2 (allK d 2) = X at HC HX
        obtain ⟨⟨xk, xe, xl⟩, xb⟩ := X
        unfold retT at HC
        simp only at HC
        clear HOK HTY
        have HRB2 := Lib.hid hrb
        clear hrb
        go_wp2_with fail
        refine (HC.out _).mono ?_
        rintro e w5 ⟨rfl, b5⟩
        have hnb := HRB2.out.later b5
        have fz := hnb.fz
        have k0 := hnb.c0
        have k1 := hnb.c1
        have k2 := hnb.c2
        have HP := Lib.hid (hnb.put (.int .i64 xk) (.string (S xe)) (.string (S xl)))
        have HBE5 := Lib.hid (HBE.out.trans (b5.mono HBE.out.size))
        clear b5 hnb
        go_wp2_with fail
        have d0 := HP.out.c0
        have d1 := HP.out.c1
        have d2 := HP.out.c2
        (try simp only [Exit.inBlock, Exit.then])
        exact bodyPost_ret (v := .tuple #[.agg #[.int .i64 xk, .string (S xe), .string (S xl)], .int .i64 xb]) (by simp [results, d0, d1, d2, Tryz.results25, go_sem]) rfl ⟨by rw [HX.out]; rfl, ((HBE5.out.setCell (p := ⟨w.heap.size + 1, 0, none⟩) (by simp) _).setCell (p := ⟨w.heap.size + 1, 1, none⟩) (by simp) _).setCell (p := ⟨w.heap.size + 1, 2, none⟩) (by simp) _⟩
      have e10 : (op == 10) = false := by rw [beq_eq_false_iff_ne]; exact h
      clear h
      by_cases h : op = 40
      · subst h
        have HOK := Lib.hid (show oneR s 40 tx d = whenR 2 (allK d 2) from rfl)
        have HC := Lib.hid (fun wq => when_any 2 (allK d 2) wq)
        have HX := Lib.hid (show tyT s ⟨40, num, tx, A⟩ = whenR 2 (allK d 2) from HTY.out.trans HOK.out)
        generalize whenR 2 (allK d 2) = X at HC HX
        obtain ⟨⟨xk, xe, xl⟩, xb⟩ := X
        unfold retT at HC
        simp only at HC
        clear HOK HTY
        have HRB2 := Lib.hid hrb
        clear hrb
        go_wp2_with fail
        refine (HC.out _).mono ?_
        rintro e w5 ⟨rfl, b5⟩
        have hnb := HRB2.out.later b5
        have fz := hnb.fz
        have k0 := hnb.c0
        have k1 := hnb.c1
        have k2 := hnb.c2
        have HP := Lib.hid (hnb.put (.int .i64 xk) (.string (S xe)) (.string (S xl)))
        have HBE5 := Lib.hid (HBE.out.trans (b5.mono HBE.out.size))
        clear b5 hnb
        go_wp2_with fail
        have d0 := HP.out.c0
        have d1 := HP.out.c1
        have d2 := HP.out.c2
        (try simp only [Exit.inBlock, Exit.then])
        exact bodyPost_ret (v := .tuple #[.agg #[.int .i64 xk, .string (S xe), .string (S xl)], .int .i64 xb]) (by simp [results, d0, d1, d2, Tryz.results25, go_sem]) rfl ⟨by rw [HX.out]; rfl, ((HBE5.out.setCell (p := ⟨w.heap.size + 1, 0, none⟩) (by simp) _).setCell (p := ⟨w.heap.size + 1, 1, none⟩) (by simp) _).setCell (p := ⟨w.heap.size + 1, 2, none⟩) (by simp) _⟩
      have e40 : (op == 40) = false := by rw [beq_eq_false_iff_ne]; exact h
      clear h
      by_cases h : op = 41
      · subst h
        have HOK := Lib.hid (show oneR s 41 tx d = whenR 2 (allK d 2) from rfl)
        have HC := Lib.hid (fun wq => when_any 2 (allK d 2) wq)
        have HX := Lib.hid (show tyT s ⟨41, num, tx, A⟩ = whenR 2 (allK d 2) from HTY.out.trans HOK.out)
        generalize whenR 2 (allK d 2) = X at HC HX
        obtain ⟨⟨xk, xe, xl⟩, xb⟩ := X
        unfold retT at HC
        simp only at HC
        clear HOK HTY
        have HRB2 := Lib.hid hrb
        clear hrb
        go_wp2_with fail
        refine (HC.out _).mono ?_
        rintro e w5 ⟨rfl, b5⟩
        have hnb := HRB2.out.later b5
        have fz := hnb.fz
        have k0 := hnb.c0
        have k1 := hnb.c1
        have k2 := hnb.c2
        have HP := Lib.hid (hnb.put (.int .i64 xk) (.string (S xe)) (.string (S xl)))
        have HBE5 := Lib.hid (HBE.out.trans (b5.mono HBE.out.size))
        clear b5 hnb
        go_wp2_with fail
        have d0 := HP.out.c0
        have d1 := HP.out.c1
        have d2 := HP.out.c2
        (try simp only [Exit.inBlock, Exit.then])
        exact bodyPost_ret (v := .tuple #[.agg #[.int .i64 xk, .string (S xe), .string (S xl)], .int .i64 xb]) (by simp [results, d0, d1, d2, Tryz.results25, go_sem]) rfl ⟨by rw [HX.out]; rfl, ((HBE5.out.setCell (p := ⟨w.heap.size + 1, 0, none⟩) (by simp) _).setCell (p := ⟨w.heap.size + 1, 1, none⟩) (by simp) _).setCell (p := ⟨w.heap.size + 1, 2, none⟩) (by simp) _⟩
      have e41 : (op == 41) = false := by rw [beq_eq_false_iff_ne]; exact h
      clear h
      by_cases h : op = 12
      · subst h
        obtain ⟨y0, hy⟩ : ∃ y0, d = [y0] := by
          have hd : d.length = 1 := by rw [hdl]; unfold cntB at hcnt; simpa using hcnt
          match d, hd with
          | [y], _ => exact ⟨y, rfl⟩
        subst hy
        obtain ⟨b0, o0, eq0, hbl0, f00, f01, f02⟩ := HTT.out 0 (by simp)
        subst eq0
        rw [Nat.zero_mul, Nat.add_zero] at f00 f01 f02
        simp only [List.getElem_cons_zero] at f00 f01 f02
        rw [show ([y0] : List TT).length = 1 from rfl]
        cases h5 : (y0.kind == 5) with
        | true =>
          have HOK := Lib.hid (show oneR s 12 tx [y0] = whenR 1 true by show whenR 1 (y0.kind == 5 || y0.kind == 3) = _; rw [h5]; rfl)
          have HC := Lib.hid (fun wq => when_any 1 true wq)
          have HX := Lib.hid (show tyT s ⟨12, num, tx, A⟩ = whenR 1 true from HTY.out.trans HOK.out)
          generalize whenR 1 true = X at HC HX
          obtain ⟨⟨xk, xe, xl⟩, xb⟩ := X
          unfold retT at HC
          simp only at HC
          clear HOK HTY
          have HRB2 := Lib.hid hrb
          clear hrb
          go_wp2_with fail
          refine (HC.out _).mono ?_
          rintro e w5 ⟨rfl, b5⟩
          have hnb := HRB2.out.later b5
          have fz := hnb.fz
          have k0 := hnb.c0
          have k1 := hnb.c1
          have k2 := hnb.c2
          have HP := Lib.hid (hnb.put (.int .i64 xk) (.string (S xe)) (.string (S xl)))
          have HBE5 := Lib.hid (HBE.out.trans (b5.mono HBE.out.size))
          clear b5 hnb
          go_wp2_with fail
          have d0 := HP.out.c0
          have d1 := HP.out.c1
          have d2 := HP.out.c2
          (try simp only [Exit.inBlock, Exit.then])
          exact bodyPost_ret (v := .tuple #[.agg #[.int .i64 xk, .string (S xe), .string (S xl)], .int .i64 xb]) (by simp [results, d0, d1, d2, Tryz.results25, go_sem]) rfl ⟨by rw [HX.out]; rfl, ((HBE5.out.setCell (p := ⟨w.heap.size + 1, 0, none⟩) (by simp) _).setCell (p := ⟨w.heap.size + 1, 1, none⟩) (by simp) _).setCell (p := ⟨w.heap.size + 1, 2, none⟩) (by simp) _⟩
        | false =>
          have HOK := Lib.hid (show oneR s 12 tx [y0] = whenR 1 (y0.kind == 3) by show whenR 1 (y0.kind == 5 || y0.kind == 3) = _; rw [h5]; rfl)
          have HC := Lib.hid (fun wq => when_any 1 (y0.kind == 3) wq)
          have HX := Lib.hid (show tyT s ⟨12, num, tx, A⟩ = whenR 1 (y0.kind == 3) from HTY.out.trans HOK.out)
          generalize whenR 1 (y0.kind == 3) = X at HC HX
          obtain ⟨⟨xk, xe, xl⟩, xb⟩ := X
          unfold retT at HC
          simp only at HC
          clear HOK HTY
          have HRB2 := Lib.hid hrb
          clear hrb
          go_wp2_with fail
          refine (HC.out _).mono ?_
          rintro e w5 ⟨rfl, b5⟩
          have hnb := HRB2.out.later b5
          have fz := hnb.fz
          have k0 := hnb.c0
          have k1 := hnb.c1
          have k2 := hnb.c2
          have HP := Lib.hid (hnb.put (.int .i64 xk) (.string (S xe)) (.string (S xl)))
          have HBE5 := Lib.hid (HBE.out.trans (b5.mono HBE.out.size))
          clear b5 hnb
          go_wp2_with fail
          have d0 := HP.out.c0
          have d1 := HP.out.c1
          have d2 := HP.out.c2
          (try simp only [Exit.inBlock, Exit.then])
          exact bodyPost_ret (v := .tuple #[.agg #[.int .i64 xk, .string (S xe), .string (S xl)], .int .i64 xb]) (by simp [results, d0, d1, d2, Tryz.results25, go_sem]) rfl ⟨by rw [HX.out]; rfl, ((HBE5.out.setCell (p := ⟨w.heap.size + 1, 0, none⟩) (by simp) _).setCell (p := ⟨w.heap.size + 1, 1, none⟩) (by simp) _).setCell (p := ⟨w.heap.size + 1, 2, none⟩) (by simp) _⟩
      have e12 : (op == 12) = false := by rw [beq_eq_false_iff_ne]; exact h
      clear h
      by_cases h : op = 25
      · subst h
        obtain ⟨y0, y1, hy⟩ : ∃ y0 y1, d = [y0, y1] := by
          have hd : d.length = 2 := by rw [hdl]; unfold cntB at hcnt; simpa using hcnt
          match d, hd with
          | [y, z], _ => exact ⟨y, z, rfl⟩
        subst hy
        obtain ⟨b0, o0, eq0, hbl0, f00, f01, f02⟩ := HTT.out 0 (by simp)
        subst eq0
        rw [Nat.zero_mul, Nat.add_zero] at f00 f01 f02
        simp only [List.getElem_cons_zero] at f00 f01 f02
        rw [show ([y0, y1] : List TT).length = 2 from rfl]
        obtain ⟨b1, o1, eq1, hbl1, f10, f11, f12⟩ := HTT.out 1 (by simp)
        injection eq1 with eq1
        injection eq1 with e11 e12 _
        subst e11 e12
        rw [Nat.one_mul] at f10 f11 f12
        simp only [List.getElem_cons_succ, List.getElem_cons_zero] at f10 f11 f12
        cases h5 : (y0.kind == 5) with
        | true =>
          have HOK := Lib.hid (show oneR s 25 tx [y0, y1] = whenR 1 (y1.kind == 1) by show whenR 1 (y0.kind == 5 && y1.kind == 1) = _; rw [h5]; rfl)
          have HC := Lib.hid (fun wq => when_any 1 (y1.kind == 1) wq)
          have HX := Lib.hid (show tyT s ⟨25, num, tx, A⟩ = whenR 1 (y1.kind == 1) from HTY.out.trans HOK.out)
          generalize whenR 1 (y1.kind == 1) = X at HC HX
          obtain ⟨⟨xk, xe, xl⟩, xb⟩ := X
          unfold retT at HC
          simp only at HC
          clear HOK HTY
          have HRB2 := Lib.hid hrb
          clear hrb
          go_wp2_with fail
          refine (HC.out _).mono ?_
          rintro e w5 ⟨rfl, b5⟩
          have hnb := HRB2.out.later b5
          have fz := hnb.fz
          have k0 := hnb.c0
          have k1 := hnb.c1
          have k2 := hnb.c2
          have HP := Lib.hid (hnb.put (.int .i64 xk) (.string (S xe)) (.string (S xl)))
          have HBE5 := Lib.hid (HBE.out.trans (b5.mono HBE.out.size))
          clear b5 hnb
          go_wp2_with fail
          have d0 := HP.out.c0
          have d1 := HP.out.c1
          have d2 := HP.out.c2
          (try simp only [Exit.inBlock, Exit.then])
          exact bodyPost_ret (v := .tuple #[.agg #[.int .i64 xk, .string (S xe), .string (S xl)], .int .i64 xb]) (by simp [results, d0, d1, d2, Tryz.results25, go_sem]) rfl ⟨by rw [HX.out]; rfl, ((HBE5.out.setCell (p := ⟨w.heap.size + 1, 0, none⟩) (by simp) _).setCell (p := ⟨w.heap.size + 1, 1, none⟩) (by simp) _).setCell (p := ⟨w.heap.size + 1, 2, none⟩) (by simp) _⟩
        | false =>
          have HOK := Lib.hid (show oneR s 25 tx [y0, y1] = whenR 1 false by show whenR 1 (y0.kind == 5 && y1.kind == 1) = _; rw [h5]; rfl)
          have HC := Lib.hid (fun wq => when_any 1 false wq)
          have HX := Lib.hid (show tyT s ⟨25, num, tx, A⟩ = whenR 1 false from HTY.out.trans HOK.out)
          generalize whenR 1 false = X at HC HX
          obtain ⟨⟨xk, xe, xl⟩, xb⟩ := X
          unfold retT at HC
          simp only at HC
          clear HOK HTY
          have HRB2 := Lib.hid hrb
          clear hrb
          go_wp2_with fail
          refine (HC.out _).mono ?_
          rintro e w5 ⟨rfl, b5⟩
          have hnb := HRB2.out.later b5
          have fz := hnb.fz
          have k0 := hnb.c0
          have k1 := hnb.c1
          have k2 := hnb.c2
          have HP := Lib.hid (hnb.put (.int .i64 xk) (.string (S xe)) (.string (S xl)))
          have HBE5 := Lib.hid (HBE.out.trans (b5.mono HBE.out.size))
          clear b5 hnb
          go_wp2_with fail
          have d0 := HP.out.c0
          have d1 := HP.out.c1
          have d2 := HP.out.c2
          (try simp only [Exit.inBlock, Exit.then])
          exact bodyPost_ret (v := .tuple #[.agg #[.int .i64 xk, .string (S xe), .string (S xl)], .int .i64 xb]) (by simp [results, d0, d1, d2, Tryz.results25, go_sem]) rfl ⟨by rw [HX.out]; rfl, ((HBE5.out.setCell (p := ⟨w.heap.size + 1, 0, none⟩) (by simp) _).setCell (p := ⟨w.heap.size + 1, 1, none⟩) (by simp) _).setCell (p := ⟨w.heap.size + 1, 2, none⟩) (by simp) _⟩
      have e25 : (op == 25) = false := by rw [beq_eq_false_iff_ne]; exact h
      clear h
      by_cases h : op = 26
      · subst h
        obtain ⟨y0, y1, hy⟩ : ∃ y0 y1, d = [y0, y1] := by
          have hd : d.length = 2 := by rw [hdl]; unfold cntB at hcnt; simpa using hcnt
          match d, hd with
          | [y, z], _ => exact ⟨y, z, rfl⟩
        subst hy
        obtain ⟨b0, o0, eq0, hbl0, f00, f01, f02⟩ := HTT.out 0 (by simp)
        subst eq0
        rw [Nat.zero_mul, Nat.add_zero] at f00 f01 f02
        simp only [List.getElem_cons_zero] at f00 f01 f02
        rw [show ([y0, y1] : List TT).length = 2 from rfl]
        obtain ⟨b1, o1, eq1, hbl1, f10, f11, f12⟩ := HTT.out 1 (by simp)
        injection eq1 with eq1
        injection eq1 with e11 e12 _
        subst e11 e12
        rw [Nat.one_mul] at f10 f11 f12
        simp only [List.getElem_cons_succ, List.getElem_cons_zero] at f10 f11 f12
        cases h5 : (y0.kind == 5) with
        | true =>
          have HOK := Lib.hid (show oneR s 26 tx [y0, y1] = whenR 5 (y1.kind == 1) by show whenR 5 (y0.kind == 5 && y1.kind == 1) = _; rw [h5]; rfl)
          have HC := Lib.hid (fun wq => when_any 5 (y1.kind == 1) wq)
          have HX := Lib.hid (show tyT s ⟨26, num, tx, A⟩ = whenR 5 (y1.kind == 1) from HTY.out.trans HOK.out)
          generalize whenR 5 (y1.kind == 1) = X at HC HX
          obtain ⟨⟨xk, xe, xl⟩, xb⟩ := X
          unfold retT at HC
          simp only at HC
          clear HOK HTY
          have HRB2 := Lib.hid hrb
          clear hrb
          go_wp2_with fail
          refine (HC.out _).mono ?_
          rintro e w5 ⟨rfl, b5⟩
          have hnb := HRB2.out.later b5
          have fz := hnb.fz
          have k0 := hnb.c0
          have k1 := hnb.c1
          have k2 := hnb.c2
          have HP := Lib.hid (hnb.put (.int .i64 xk) (.string (S xe)) (.string (S xl)))
          have HBE5 := Lib.hid (HBE.out.trans (b5.mono HBE.out.size))
          clear b5 hnb
          go_wp2_with fail
          have d0 := HP.out.c0
          have d1 := HP.out.c1
          have d2 := HP.out.c2
          (try simp only [Exit.inBlock, Exit.then])
          exact bodyPost_ret (v := .tuple #[.agg #[.int .i64 xk, .string (S xe), .string (S xl)], .int .i64 xb]) (by simp [results, d0, d1, d2, Tryz.results25, go_sem]) rfl ⟨by rw [HX.out]; rfl, ((HBE5.out.setCell (p := ⟨w.heap.size + 1, 0, none⟩) (by simp) _).setCell (p := ⟨w.heap.size + 1, 1, none⟩) (by simp) _).setCell (p := ⟨w.heap.size + 1, 2, none⟩) (by simp) _⟩
        | false =>
          have HOK := Lib.hid (show oneR s 26 tx [y0, y1] = whenR 5 false by show whenR 5 (y0.kind == 5 && y1.kind == 1) = _; rw [h5]; rfl)
          have HC := Lib.hid (fun wq => when_any 5 false wq)
          have HX := Lib.hid (show tyT s ⟨26, num, tx, A⟩ = whenR 5 false from HTY.out.trans HOK.out)
          generalize whenR 5 false = X at HC HX
          obtain ⟨⟨xk, xe, xl⟩, xb⟩ := X
          unfold retT at HC
          simp only at HC
          clear HOK HTY
          have HRB2 := Lib.hid hrb
          clear hrb
          go_wp2_with fail
          refine (HC.out _).mono ?_
          rintro e w5 ⟨rfl, b5⟩
          have hnb := HRB2.out.later b5
          have fz := hnb.fz
          have k0 := hnb.c0
          have k1 := hnb.c1
          have k2 := hnb.c2
          have HP := Lib.hid (hnb.put (.int .i64 xk) (.string (S xe)) (.string (S xl)))
          have HBE5 := Lib.hid (HBE.out.trans (b5.mono HBE.out.size))
          clear b5 hnb
          go_wp2_with fail
          have d0 := HP.out.c0
          have d1 := HP.out.c1
          have d2 := HP.out.c2
          (try simp only [Exit.inBlock, Exit.then])
          exact bodyPost_ret (v := .tuple #[.agg #[.int .i64 xk, .string (S xe), .string (S xl)], .int .i64 xb]) (by simp [results, d0, d1, d2, Tryz.results25, go_sem]) rfl ⟨by rw [HX.out]; rfl, ((HBE5.out.setCell (p := ⟨w.heap.size + 1, 0, none⟩) (by simp) _).setCell (p := ⟨w.heap.size + 1, 1, none⟩) (by simp) _).setCell (p := ⟨w.heap.size + 1, 2, none⟩) (by simp) _⟩
      have e26 : (op == 26) = false := by rw [beq_eq_false_iff_ne]; exact h
      clear h
      by_cases h : op = 32
      · subst h
        obtain ⟨y0, y1, hy⟩ : ∃ y0 y1, d = [y0, y1] := by
          have hd : d.length = 2 := by rw [hdl]; unfold cntB at hcnt; simpa using hcnt
          match d, hd with
          | [y, z], _ => exact ⟨y, z, rfl⟩
        subst hy
        obtain ⟨b0, o0, eq0, hbl0, f00, f01, f02⟩ := HTT.out 0 (by simp)
        subst eq0
        rw [Nat.zero_mul, Nat.add_zero] at f00 f01 f02
        simp only [List.getElem_cons_zero] at f00 f01 f02
        rw [show ([y0, y1] : List TT).length = 2 from rfl]
        obtain ⟨b1, o1, eq1, hbl1, f10, f11, f12⟩ := HTT.out 1 (by simp)
        injection eq1 with eq1
        injection eq1 with e11 e12 _
        subst e11 e12
        rw [Nat.one_mul] at f10 f11 f12
        simp only [List.getElem_cons_succ, List.getElem_cons_zero] at f10 f11 f12
        cases hi : allK [y0, y1] 1 with
        | true =>
          have HOK := Lib.hid (show oneR s 32 tx [y0, y1] = whenR 2 true by show whenR 2 (allK [y0, y1] 1 || (y0.kind == 3 && y1.kind == 3)) = _; rw [hi]; rfl)
          have HC := Lib.hid (fun wq => when_any 2 true wq)
          have HX := Lib.hid (show tyT s ⟨32, num, tx, A⟩ = whenR 2 true from HTY.out.trans HOK.out)
          generalize whenR 2 true = X at HC HX
          obtain ⟨⟨xk, xe, xl⟩, xb⟩ := X
          unfold retT at HC
          simp only at HC
          clear HOK HTY
          have HRB2 := Lib.hid hrb
          clear hrb
          go_wp2_with fail
          refine (HC.out _).mono ?_
          rintro e w5 ⟨rfl, b5⟩
          have hnb := HRB2.out.later b5
          have fz := hnb.fz
          have k0 := hnb.c0
          have k1 := hnb.c1
          have k2 := hnb.c2
          have HP := Lib.hid (hnb.put (.int .i64 xk) (.string (S xe)) (.string (S xl)))
          have HBE5 := Lib.hid (HBE.out.trans (b5.mono HBE.out.size))
          clear b5 hnb
          go_wp2_with fail
          have d0 := HP.out.c0
          have d1 := HP.out.c1
          have d2 := HP.out.c2
          (try simp only [Exit.inBlock, Exit.then])
          exact bodyPost_ret (v := .tuple #[.agg #[.int .i64 xk, .string (S xe), .string (S xl)], .int .i64 xb]) (by simp [results, d0, d1, d2, Tryz.results25, go_sem]) rfl ⟨by rw [HX.out]; rfl, ((HBE5.out.setCell (p := ⟨w.heap.size + 1, 0, none⟩) (by simp) _).setCell (p := ⟨w.heap.size + 1, 1, none⟩) (by simp) _).setCell (p := ⟨w.heap.size + 1, 2, none⟩) (by simp) _⟩
        | false =>
          cases h3 : (y0.kind == 3) with
          | true =>
            have HOK := Lib.hid (show oneR s 32 tx [y0, y1] = whenR 2 (y1.kind == 3) by show whenR 2 (allK [y0, y1] 1 || (y0.kind == 3 && y1.kind == 3)) = _; rw [hi]; rw [h3]; rfl)
            have HC := Lib.hid (fun wq => when_any 2 (y1.kind == 3) wq)
            have HX := Lib.hid (show tyT s ⟨32, num, tx, A⟩ = whenR 2 (y1.kind == 3) from HTY.out.trans HOK.out)
            generalize whenR 2 (y1.kind == 3) = X at HC HX
            obtain ⟨⟨xk, xe, xl⟩, xb⟩ := X
            unfold retT at HC
            simp only at HC
            clear HOK HTY
            have HRB2 := Lib.hid hrb
            clear hrb
            go_wp2_with fail
            refine (HC.out _).mono ?_
            rintro e w5 ⟨rfl, b5⟩
            have hnb := HRB2.out.later b5
            have fz := hnb.fz
            have k0 := hnb.c0
            have k1 := hnb.c1
            have k2 := hnb.c2
            have HP := Lib.hid (hnb.put (.int .i64 xk) (.string (S xe)) (.string (S xl)))
            have HBE5 := Lib.hid (HBE.out.trans (b5.mono HBE.out.size))
            clear b5 hnb
            go_wp2_with fail
            have d0 := HP.out.c0
            have d1 := HP.out.c1
            have d2 := HP.out.c2
            (try simp only [Exit.inBlock, Exit.then])
            exact bodyPost_ret (v := .tuple #[.agg #[.int .i64 xk, .string (S xe), .string (S xl)], .int .i64 xb]) (by simp [results, d0, d1, d2, Tryz.results25, go_sem]) rfl ⟨by rw [HX.out]; rfl, ((HBE5.out.setCell (p := ⟨w.heap.size + 1, 0, none⟩) (by simp) _).setCell (p := ⟨w.heap.size + 1, 1, none⟩) (by simp) _).setCell (p := ⟨w.heap.size + 1, 2, none⟩) (by simp) _⟩
          | false =>
            have HOK := Lib.hid (show oneR s 32 tx [y0, y1] = whenR 2 false by show whenR 2 (allK [y0, y1] 1 || (y0.kind == 3 && y1.kind == 3)) = _; rw [hi]; rw [h3]; rfl)
            have HC := Lib.hid (fun wq => when_any 2 false wq)
            have HX := Lib.hid (show tyT s ⟨32, num, tx, A⟩ = whenR 2 false from HTY.out.trans HOK.out)
            generalize whenR 2 false = X at HC HX
            obtain ⟨⟨xk, xe, xl⟩, xb⟩ := X
            unfold retT at HC
            simp only at HC
            clear HOK HTY
            have HRB2 := Lib.hid hrb
            clear hrb
            go_wp2_with fail
            refine (HC.out _).mono ?_
            rintro e w5 ⟨rfl, b5⟩
            have hnb := HRB2.out.later b5
            have fz := hnb.fz
            have k0 := hnb.c0
            have k1 := hnb.c1
            have k2 := hnb.c2
            have HP := Lib.hid (hnb.put (.int .i64 xk) (.string (S xe)) (.string (S xl)))
            have HBE5 := Lib.hid (HBE.out.trans (b5.mono HBE.out.size))
            clear b5 hnb
            go_wp2_with fail
            have d0 := HP.out.c0
            have d1 := HP.out.c1
            have d2 := HP.out.c2
            (try simp only [Exit.inBlock, Exit.then])
            exact bodyPost_ret (v := .tuple #[.agg #[.int .i64 xk, .string (S xe), .string (S xl)], .int .i64 xb]) (by simp [results, d0, d1, d2, Tryz.results25, go_sem]) rfl ⟨by rw [HX.out]; rfl, ((HBE5.out.setCell (p := ⟨w.heap.size + 1, 0, none⟩) (by simp) _).setCell (p := ⟨w.heap.size + 1, 1, none⟩) (by simp) _).setCell (p := ⟨w.heap.size + 1, 2, none⟩) (by simp) _⟩
      have e32 : (op == 32) = false := by rw [beq_eq_false_iff_ne]; exact h
      clear h
      by_cases h : op = 33
      · subst h
        obtain ⟨y0, y1, hy⟩ : ∃ y0 y1, d = [y0, y1] := by
          have hd : d.length = 2 := by rw [hdl]; unfold cntB at hcnt; simpa using hcnt
          match d, hd with
          | [y, z], _ => exact ⟨y, z, rfl⟩
        subst hy
        obtain ⟨b0, o0, eq0, hbl0, f00, f01, f02⟩ := HTT.out 0 (by simp)
        subst eq0
        rw [Nat.zero_mul, Nat.add_zero] at f00 f01 f02
        simp only [List.getElem_cons_zero] at f00 f01 f02
        rw [show ([y0, y1] : List TT).length = 2 from rfl]
        obtain ⟨b1, o1, eq1, hbl1, f10, f11, f12⟩ := HTT.out 1 (by simp)
        injection eq1 with eq1
        injection eq1 with e11 e12 _
        subst e11 e12
        rw [Nat.one_mul] at f10 f11 f12
        simp only [List.getElem_cons_succ, List.getElem_cons_zero] at f10 f11 f12
        cases hi : allK [y0, y1] 1 with
        | true =>
          have HOK := Lib.hid (show oneR s 33 tx [y0, y1] = whenR 2 true by show whenR 2 (allK [y0, y1] 1 || (y0.kind == 3 && y1.kind == 3)) = _; rw [hi]; rfl)
          have HC := Lib.hid (fun wq => when_any 2 true wq)
          have HX := Lib.hid (show tyT s ⟨33, num, tx, A⟩ = whenR 2 true from HTY.out.trans HOK.out)
          generalize whenR 2 true = X at HC HX
          obtain ⟨⟨xk, xe, xl⟩, xb⟩ := X
          unfold retT at HC
          simp only at HC
          clear HOK HTY
          have HRB2 := Lib.hid hrb
          clear hrb
          go_wp2_with fail
          refine (HC.out _).mono ?_
          rintro e w5 ⟨rfl, b5⟩
          have hnb := HRB2.out.later b5
          have fz := hnb.fz
          have k0 := hnb.c0
          have k1 := hnb.c1
          have k2 := hnb.c2
          have HP := Lib.hid (hnb.put (.int .i64 xk) (.string (S xe)) (.string (S xl)))
          have HBE5 := Lib.hid (HBE.out.trans (b5.mono HBE.out.size))
          clear b5 hnb
          go_wp2_with fail
          have d0 := HP.out.c0
          have d1 := HP.out.c1
          have d2 := HP.out.c2
          (try simp only [Exit.inBlock, Exit.then])
          exact bodyPost_ret (v := .tuple #[.agg #[.int .i64 xk, .string (S xe), .string (S xl)], .int .i64 xb]) (by simp [results, d0, d1, d2, Tryz.results25, go_sem]) rfl ⟨by rw [HX.out]; rfl, ((HBE5.out.setCell (p := ⟨w.heap.size + 1, 0, none⟩) (by simp) _).setCell (p := ⟨w.heap.size + 1, 1, none⟩) (by simp) _).setCell (p := ⟨w.heap.size + 1, 2, none⟩) (by simp) _⟩
        | false =>
          cases h3 : (y0.kind == 3) with
          | true =>
            have HOK := Lib.hid (show oneR s 33 tx [y0, y1] = whenR 2 (y1.kind == 3) by show whenR 2 (allK [y0, y1] 1 || (y0.kind == 3 && y1.kind == 3)) = _; rw [hi]; rw [h3]; rfl)
            have HC := Lib.hid (fun wq => when_any 2 (y1.kind == 3) wq)
            have HX := Lib.hid (show tyT s ⟨33, num, tx, A⟩ = whenR 2 (y1.kind == 3) from HTY.out.trans HOK.out)
            generalize whenR 2 (y1.kind == 3) = X at HC HX
            obtain ⟨⟨xk, xe, xl⟩, xb⟩ := X
            unfold retT at HC
            simp only at HC
            clear HOK HTY
            have HRB2 := Lib.hid hrb
            clear hrb
            go_wp2_with fail
            refine (HC.out _).mono ?_
            rintro e w5 ⟨rfl, b5⟩
            have hnb := HRB2.out.later b5
            have fz := hnb.fz
            have k0 := hnb.c0
            have k1 := hnb.c1
            have k2 := hnb.c2
            have HP := Lib.hid (hnb.put (.int .i64 xk) (.string (S xe)) (.string (S xl)))
            have HBE5 := Lib.hid (HBE.out.trans (b5.mono HBE.out.size))
            clear b5 hnb
            go_wp2_with fail
            have d0 := HP.out.c0
            have d1 := HP.out.c1
            have d2 := HP.out.c2
            (try simp only [Exit.inBlock, Exit.then])
            exact bodyPost_ret (v := .tuple #[.agg #[.int .i64 xk, .string (S xe), .string (S xl)], .int .i64 xb]) (by simp [results, d0, d1, d2, Tryz.results25, go_sem]) rfl ⟨by rw [HX.out]; rfl, ((HBE5.out.setCell (p := ⟨w.heap.size + 1, 0, none⟩) (by simp) _).setCell (p := ⟨w.heap.size + 1, 1, none⟩) (by simp) _).setCell (p := ⟨w.heap.size + 1, 2, none⟩) (by simp) _⟩
          | false =>
            have HOK := Lib.hid (show oneR s 33 tx [y0, y1] = whenR 2 false by show whenR 2 (allK [y0, y1] 1 || (y0.kind == 3 && y1.kind == 3)) = _; rw [hi]; rw [h3]; rfl)
            have HC := Lib.hid (fun wq => when_any 2 false wq)
            have HX := Lib.hid (show tyT s ⟨33, num, tx, A⟩ = whenR 2 false from HTY.out.trans HOK.out)
            generalize whenR 2 false = X at HC HX
            obtain ⟨⟨xk, xe, xl⟩, xb⟩ := X
            unfold retT at HC
            simp only at HC
            clear HOK HTY
            have HRB2 := Lib.hid hrb
            clear hrb
            go_wp2_with fail
            refine (HC.out _).mono ?_
            rintro e w5 ⟨rfl, b5⟩
            have hnb := HRB2.out.later b5
            have fz := hnb.fz
            have k0 := hnb.c0
            have k1 := hnb.c1
            have k2 := hnb.c2
            have HP := Lib.hid (hnb.put (.int .i64 xk) (.string (S xe)) (.string (S xl)))
            have HBE5 := Lib.hid (HBE.out.trans (b5.mono HBE.out.size))
            clear b5 hnb
            go_wp2_with fail
            have d0 := HP.out.c0
            have d1 := HP.out.c1
            have d2 := HP.out.c2
            (try simp only [Exit.inBlock, Exit.then])
            exact bodyPost_ret (v := .tuple #[.agg #[.int .i64 xk, .string (S xe), .string (S xl)], .int .i64 xb]) (by simp [results, d0, d1, d2, Tryz.results25, go_sem]) rfl ⟨by rw [HX.out]; rfl, ((HBE5.out.setCell (p := ⟨w.heap.size + 1, 0, none⟩) (by simp) _).setCell (p := ⟨w.heap.size + 1, 1, none⟩) (by simp) _).setCell (p := ⟨w.heap.size + 1, 2, none⟩) (by simp) _⟩
      have e33 : (op == 33) = false := by rw [beq_eq_false_iff_ne]; exact h
      clear h
      by_cases h : op = 30
      · subst h
        obtain ⟨y0, y1, hy⟩ : ∃ y0 y1, d = [y0, y1] := by
          have hd : d.length = 2 := by rw [hdl]; unfold cntB at hcnt; simpa using hcnt
          match d, hd with
          | [y, z], _ => exact ⟨y, z, rfl⟩
        subst hy
        obtain ⟨b0, o0, eq0, hbl0, f00, f01, f02⟩ := HTT.out 0 (by simp)
        subst eq0
        rw [Nat.zero_mul, Nat.add_zero] at f00 f01 f02
        simp only [List.getElem_cons_zero] at f00 f01 f02
        rw [show ([y0, y1] : List TT).length = 2 from rfl]
        obtain ⟨b1, o1, eq1, hbl1, f10, f11, f12⟩ := HTT.out 1 (by simp)
        injection eq1 with eq1
        injection eq1 with e11 e12 _
        subst e11 e12
        rw [Nat.one_mul] at f10 f11 f12
        simp only [List.getElem_cons_succ, List.getElem_cons_zero] at f10 f11 f12
        have HOK := Lib.hid (show oneR s 30 tx [y0, y1] = whenR 2 (alikeB s.enums y0 y1) from rfl)
        have HAL := Lib.hid (fun wq (k : Below wr.heap.size wr wq) => ralike_any s.enums y0 y1 pe ce wq (HSC.out.enums.later k) hf.enums hf.syms)
        have HC := Lib.hid (fun wq => when_any 2 (alikeB s.enums y0 y1) wq)
        have HX := Lib.hid (show tyT s ⟨30, num, tx, A⟩ = whenR 2 (alikeB s.enums y0 y1) from HTY.out.trans HOK.out)
        generalize whenR 2 (alikeB s.enums y0 y1) = X at HC HX
        generalize alikeB s.enums y0 y1 = ab at HC HAL
        obtain ⟨⟨xk, xe, xl⟩, xb⟩ := X
        unfold retT at HC
        simp only at HC
        clear HOK HTY
        have HRB2 := Lib.hid hrb
        clear hrb
        have HF := Lib.hid (show wr.cell? ⟨b0, o0, none⟩ = some (.int .i64 y0.kind) ∧ wr.cell? ⟨b0, o0 + 1, none⟩ = some (.string (S y0.enum)) ∧ wr.cell? ⟨b0, o0 + 2, none⟩ = some (.string (S y0.lit)) ∧ wr.cell? ⟨b0, o0 + 3, none⟩ = some (.int .i64 y1.kind) ∧ wr.cell? ⟨b0, o0 + 3 + 1, none⟩ = some (.string (S y1.enum)) ∧ wr.cell? ⟨b0, o0 + 3 + 2, none⟩ = some (.string (S y1.lit)) from ⟨f00, f01, f02, f10, f11, f12⟩)
        have HLT := Lib.hid hbl0
        have HLT := Lib.hid hbl0
        have HNE := Lib.hid (show b0 ≠ w.heap.size + 1 from HNB.out b0 (by rfl))
        go_wp2_with fail
        go_region_held3 (fun w' => w'.cell? ⟨b0, o0, none⟩ = some (.int .i64 y0.kind) ∧ w'.cell? ⟨b0, o0 + 1, none⟩ = some (.string (S y0.enum)) ∧ w'.cell? ⟨b0, o0 + 2, none⟩ = some (.string (S y0.lit)) ∧ w'.cell? ⟨b0, o0 + 3, none⟩ = some (.int .i64 y1.kind) ∧ w'.cell? ⟨b0, o0 + 3 + 1, none⟩ = some (.string (S y1.enum)) ∧ w'.cell? ⟨b0, o0 + 3 + 2, none⟩ = some (.string (S y1.lit)))
          (first | assumption | exact HF.out | exact ⟨by assumption, by assumption, by assumption, by assumption, by assumption, by assumption⟩ | exact ⟨(set3_other _ _ _ _ _ _ _ HNE.out).trans (by assumption), (set3_other _ _ _ _ _ _ _ HNE.out).trans (by assumption), (set3_other _ _ _ _ _ _ _ HNE.out).trans (by assumption), (set3_other _ _ _ _ _ _ _ HNE.out).trans (by assumption), (set3_other _ _ _ _ _ _ _ HNE.out).trans (by assumption), (set3_other _ _ _ _ _ _ _ HNE.out).trans (by assumption)⟩ | go_keep)
          (first
            | (go_at_call 44; (with_reducible refine (HAL.out _ (Below.refl _ _).drew).mono ?_); rintro e w6 ⟨rfl, b6⟩; obtain ⟨t0, t1, t2, t3, t4, t5⟩ := HF.out; have g0 := (b6.cell (p := ⟨b0, o0, none⟩) HLT.out).trans t0; have g1 := (b6.cell (p := ⟨b0, o0 + 1, none⟩) HLT.out).trans t1; have g2 := (b6.cell (p := ⟨b0, o0 + 2, none⟩) HLT.out).trans t2; have g3 := (b6.cell (p := ⟨b0, o0 + 3, none⟩) HLT.out).trans t3; have g4 := (b6.cell (p := ⟨b0, o0 + 3 + 1, none⟩) HLT.out).trans t4; have g5 := (b6.cell (p := ⟨b0, o0 + 3 + 2, none⟩) HLT.out).trans t5; have HB6 := Lib.hid (HBE.out.drew.trans (b6.mono HBE.out.size)); have HRB6 := Lib.hid ((show RB wr.drew _ _ _ _ from HRB2.out).later b6); have HL6 := Lib.hid (Nat.lt_of_lt_of_le HLT.out b6.size); clear b6 t0 t1 t2 t3 t4 t5)
            | (go_at_call 42; (with_reducible refine (HC.out _).mono ?_); rintro e w7 ⟨rfl, b7⟩; have g0 := (b7.cell (p := ⟨b0, o0, none⟩) HL6.out).trans g0; have g1 := (b7.cell (p := ⟨b0, o0 + 1, none⟩) HL6.out).trans g1; have g2 := (b7.cell (p := ⟨b0, o0 + 2, none⟩) HL6.out).trans g2; have g3 := (b7.cell (p := ⟨b0, o0 + 3, none⟩) HL6.out).trans g3; have g4 := (b7.cell (p := ⟨b0, o0 + 3 + 1, none⟩) HL6.out).trans g4; have g5 := (b7.cell (p := ⟨b0, o0 + 3 + 2, none⟩) HL6.out).trans g5; have hnb := HRB6.out.later b7; have fz := hnb.fz; have k0 := hnb.c0; have k1 := hnb.c1; have k2 := hnb.c2; have HB7 := Lib.hid (HB6.out.trans (b7.mono HB6.out.size)); have HP := Lib.hid (hnb.put (.int .i64 xk) (.string (S xe)) (.string (S xl))); clear b7 hnb))
        go_wp2_with fail
        have d0 := HP.out.c0
        have d1 := HP.out.c1
        have d2 := HP.out.c2
        (try simp only [Exit.inBlock, Exit.then])
        exact bodyPost_ret (v := .tuple #[.agg #[.int .i64 xk, .string (S xe), .string (S xl)], .int .i64 xb]) (by simp [results, d0, d1, d2, Tryz.results25, go_sem]) rfl ⟨by rw [HX.out]; rfl, ((HB7.out.setCell (p := ⟨w.heap.size + 1, 0, none⟩) (by simp) _).setCell (p := ⟨w.heap.size + 1, 1, none⟩) (by simp) _).setCell (p := ⟨w.heap.size + 1, 2, none⟩) (by simp) _⟩
      have e30 : (op == 30) = false := by rw [beq_eq_false_iff_ne]; exact h
      clear h
      by_cases h : op = 31
      · subst h
        obtain ⟨y0, y1, hy⟩ : ∃ y0 y1, d = [y0, y1] := by
          have hd : d.length = 2 := by rw [hdl]; unfold cntB at hcnt; simpa using hcnt
          match d, hd with
          | [y, z], _ => exact ⟨y, z, rfl⟩
        subst hy
        obtain ⟨b0, o0, eq0, hbl0, f00, f01, f02⟩ := HTT.out 0 (by simp)
        subst eq0
        rw [Nat.zero_mul, Nat.add_zero] at f00 f01 f02
        simp only [List.getElem_cons_zero] at f00 f01 f02
        rw [show ([y0, y1] : List TT).length = 2 from rfl]
        obtain ⟨b1, o1, eq1, hbl1, f10, f11, f12⟩ := HTT.out 1 (by simp)
        injection eq1 with eq1
        injection eq1 with e11 e12 _
        subst e11 e12
        rw [Nat.one_mul] at f10 f11 f12
        simp only [List.getElem_cons_succ, List.getElem_cons_zero] at f10 f11 f12
        have HOK := Lib.hid (show oneR s 31 tx [y0, y1] = whenR 2 (alikeB s.enums y0 y1) from rfl)
        have HAL := Lib.hid (fun wq (k : Below wr.heap.size wr wq) => ralike_any s.enums y0 y1 pe ce wq (HSC.out.enums.later k) hf.enums hf.syms)
        have HC := Lib.hid (fun wq => when_any 2 (alikeB s.enums y0 y1) wq)
        have HX := Lib.hid (show tyT s ⟨31, num, tx, A⟩ = whenR 2 (alikeB s.enums y0 y1) from HTY.out.trans HOK.out)
        generalize whenR 2 (alikeB s.enums y0 y1) = X at HC HX
        generalize alikeB s.enums y0 y1 = ab at HC HAL
        obtain ⟨⟨xk, xe, xl⟩, xb⟩ := X
        unfold retT at HC
        simp only at HC
        clear HOK HTY
        have HRB2 := Lib.hid hrb
        clear hrb
        have HF := Lib.hid (show wr.cell? ⟨b0, o0, none⟩ = some (.int .i64 y0.kind) ∧ wr.cell? ⟨b0, o0 + 1, none⟩ = some (.string (S y0.enum)) ∧ wr.cell? ⟨b0, o0 + 2, none⟩ = some (.string (S y0.lit)) ∧ wr.cell? ⟨b0, o0 + 3, none⟩ = some (.int .i64 y1.kind) ∧ wr.cell? ⟨b0, o0 + 3 + 1, none⟩ = some (.string (S y1.enum)) ∧ wr.cell? ⟨b0, o0 + 3 + 2, none⟩ = some (.string (S y1.lit)) from ⟨f00, f01, f02, f10, f11, f12⟩)
        have HLT := Lib.hid hbl0
        have HLT := Lib.hid hbl0
        have HNE := Lib.hid (show b0 ≠ w.heap.size + 1 from HNB.out b0 (by rfl))
        go_wp2_with fail
        go_region_held3 (fun w' => w'.cell? ⟨b0, o0, none⟩ = some (.int .i64 y0.kind) ∧ w'.cell? ⟨b0, o0 + 1, none⟩ = some (.string (S y0.enum)) ∧ w'.cell? ⟨b0, o0 + 2, none⟩ = some (.string (S y0.lit)) ∧ w'.cell? ⟨b0, o0 + 3, none⟩ = some (.int .i64 y1.kind) ∧ w'.cell? ⟨b0, o0 + 3 + 1, none⟩ = some (.string (S y1.enum)) ∧ w'.cell? ⟨b0, o0 + 3 + 2, none⟩ = some (.string (S y1.lit)))
          (first | assumption | exact HF.out | exact ⟨by assumption, by assumption, by assumption, by assumption, by assumption, by assumption⟩ | exact ⟨(set3_other _ _ _ _ _ _ _ HNE.out).trans (by assumption), (set3_other _ _ _ _ _ _ _ HNE.out).trans (by assumption), (set3_other _ _ _ _ _ _ _ HNE.out).trans (by assumption), (set3_other _ _ _ _ _ _ _ HNE.out).trans (by assumption), (set3_other _ _ _ _ _ _ _ HNE.out).trans (by assumption), (set3_other _ _ _ _ _ _ _ HNE.out).trans (by assumption)⟩ | go_keep)
          (first
            | (go_at_call 44; (with_reducible refine (HAL.out _ (Below.refl _ _).drew).mono ?_); rintro e w6 ⟨rfl, b6⟩; obtain ⟨t0, t1, t2, t3, t4, t5⟩ := HF.out; have g0 := (b6.cell (p := ⟨b0, o0, none⟩) HLT.out).trans t0; have g1 := (b6.cell (p := ⟨b0, o0 + 1, none⟩) HLT.out).trans t1; have g2 := (b6.cell (p := ⟨b0, o0 + 2, none⟩) HLT.out).trans t2; have g3 := (b6.cell (p := ⟨b0, o0 + 3, none⟩) HLT.out).trans t3; have g4 := (b6.cell (p := ⟨b0, o0 + 3 + 1, none⟩) HLT.out).trans t4; have g5 := (b6.cell (p := ⟨b0, o0 + 3 + 2, none⟩) HLT.out).trans t5; have HB6 := Lib.hid (HBE.out.drew.trans (b6.mono HBE.out.size)); have HRB6 := Lib.hid ((show RB wr.drew _ _ _ _ from HRB2.out).later b6); have HL6 := Lib.hid (Nat.lt_of_lt_of_le HLT.out b6.size); clear b6 t0 t1 t2 t3 t4 t5)
            | (go_at_call 42; (with_reducible refine (HC.out _).mono ?_); rintro e w7 ⟨rfl, b7⟩; have g0 := (b7.cell (p := ⟨b0, o0, none⟩) HL6.out).trans g0; have g1 := (b7.cell (p := ⟨b0, o0 + 1, none⟩) HL6.out).trans g1; have g2 := (b7.cell (p := ⟨b0, o0 + 2, none⟩) HL6.out).trans g2; have g3 := (b7.cell (p := ⟨b0, o0 + 3, none⟩) HL6.out).trans g3; have g4 := (b7.cell (p := ⟨b0, o0 + 3 + 1, none⟩) HL6.out).trans g4; have g5 := (b7.cell (p := ⟨b0, o0 + 3 + 2, none⟩) HL6.out).trans g5; have hnb := HRB6.out.later b7; have fz := hnb.fz; have k0 := hnb.c0; have k1 := hnb.c1; have k2 := hnb.c2; have HB7 := Lib.hid (HB6.out.trans (b7.mono HB6.out.size)); have HP := Lib.hid (hnb.put (.int .i64 xk) (.string (S xe)) (.string (S xl))); clear b7 hnb))
        go_wp2_with fail
        have d0 := HP.out.c0
        have d1 := HP.out.c1
        have d2 := HP.out.c2
        (try simp only [Exit.inBlock, Exit.then])
        exact bodyPost_ret (v := .tuple #[.agg #[.int .i64 xk, .string (S xe), .string (S xl)], .int .i64 xb]) (by simp [results, d0, d1, d2, Tryz.results25, go_sem]) rfl ⟨by rw [HX.out]; rfl, ((HB7.out.setCell (p := ⟨w.heap.size + 1, 0, none⟩) (by simp) _).setCell (p := ⟨w.heap.size + 1, 1, none⟩) (by simp) _).setCell (p := ⟨w.heap.size + 1, 2, none⟩) (by simp) _⟩
      have e31 : (op == 31) = false := by rw [beq_eq_false_iff_ne]; exact h
      clear h
      have hrest : op = 11 ∨ op = 20 ∨ op = 21 ∨ op = 22 ∨ op = 23 ∨ op = 24 := by
        simp only [beq_eq_false_iff_ne, ne_eq] at e1 e2 e3 e4 e5 e6 e7 e10 e40 e41 e12 e25 e26 e32 e33 e30 e31
        have hk := hcnt
        unfold cntB at hk
        rw [if_neg e5] at hk
        by_cases h7 : 1 ≤ op ∧ op ≤ 7
        · omega
        rw [if_neg h7] at hk
        by_cases h10 : 10 ≤ op ∧ op ≤ 12
        · omega
        rw [if_neg h10] at hk
        split at hk
        · omega
        · cases hk
      have HOK := Lib.hid (show oneR s op tx d = whenR 1 (allK d 1) by rcases hrest with rfl | rfl | rfl | rfl | rfl | rfl <;> rfl)
      have h40 : ¬ (40 : Int) ≤ op := by omega
      clear hrest
      have HC := Lib.hid (fun wq => when_any 1 (allK d 1) wq)
      have HX := Lib.hid (show tyT s ⟨op, num, tx, A⟩ = whenR 1 (allK d 1) from HTY.out.trans HOK.out)
      generalize whenR 1 (allK d 1) = X at HC HX
      obtain ⟨⟨xk, xe, xl⟩, xb⟩ := X
      unfold retT at HC
      simp only at HC
      clear HOK HTY
      have HRB2 := Lib.hid hrb
      clear hrb
      go_wp2_with fail
      refine (HC.out _).mono ?_
      rintro e w5 ⟨rfl, b5⟩
      have hnb := HRB2.out.later b5
      have fz := hnb.fz
      have k0 := hnb.c0
      have k1 := hnb.c1
      have k2 := hnb.c2
      have HP := Lib.hid (hnb.put (.int .i64 xk) (.string (S xe)) (.string (S xl)))
      have HBE5 := Lib.hid (HBE.out.trans (b5.mono HBE.out.size))
      clear b5 hnb
      go_wp2_with fail
      have d0 := HP.out.c0
      have d1 := HP.out.c1
      have d2 := HP.out.c2
      (try simp only [Exit.inBlock, Exit.then])
      exact bodyPost_ret (v := .tuple #[.agg #[.int .i64 xk, .string (S xe), .string (S xl)], .int .i64 xb]) (by simp [results, d0, d1, d2, Tryz.results25, go_sem]) rfl ⟨by rw [HX.out]; rfl, ((HBE5.out.setCell (p := ⟨w.heap.size + 1, 0, none⟩) (by simp) _).setCell (p := ⟨w.heap.size + 1, 1, none⟩) (by simp) _).setCell (p := ⟨w.heap.size + 1, 2, none⟩) (by simp) _⟩
    | cons o nm tt a r =>
      obtain ⟨g, k, qa, cc, rfl, hgk, hgl, f0, f1, f2, f3, hfa, hfr2⟩ := hfr
      obtain ⟨k0, rfl, rfl⟩ := hpr g k rfl (by intro e; cases e)
      have hil2 : i + (r.len + 1) = A.len := by simpa [F.len] using hil
      have hie : (i : Int) < (A.len : Int) := by omega
      rw [show k0 + 4 * i = k0 + i * 4 by omega] at f0 f1 f2 f3
      have hcall := hal.1 qa cc wr (HS.out.later hb) (FAt.mono (fun _ _ _ => trivial) _ _ hfa)
      have hdn : d.length ≤ 16 := by omega
      have HTY := Lib.hid hty
      have HID := Lib.hid hid
      clear hid
      have HJ1 := Lib.hid (joinT_ok s d o nm tt a r)
      have HJ2 := Lib.hid (joinT_bad s d o nm tt a r)
      have HOWN := Lib.hid hown
      have HBE := Lib.hid hb
      have HAL := Lib.hid hal.2
      have HFR := Lib.hid hfr2
      have HRB2 := Lib.hid hrb
      have HLT := Lib.hid (World.ownsRow.lt hown)
      clear hb hown hal hfa hfr2 hty hpr hx hrb
      generalize htc : tyT s ⟨o, nm, tt, a⟩ = xx at *
      obtain ⟨⟨xk, xe, xl⟩, er⟩ := xx
      unfold retT at hcall
      simp only at hcall
      have HTC := Lib.hid htc
      have HCALL := Lib.hid hcall
      clear htc hcall
      generalize hib : allK d 1 = ib
      generalize hbb : allK d 2 = bb
      have HIB := Lib.hid hib
      have HBB := Lib.hid hbb
      clear hib hbb
      go_wp2_with fail
      refine HCALL.out.mono ?_
      rintro e w5 ⟨rfl, b5⟩
      have b6 := b5.trans (((Below.refl w5.heap.size w5).alloc (Nat.le_refl _) (.cells #[.int .i64 xk, .string (S xe), .string (S xl)] 35)).mono b5.size)
      have hb6 := HBE.out.trans (b6.mono HBE.out.size)
      have HB6 := Lib.hid hb6
      by_cases her : er = 0
      · subst her
        obtain ⟨q7, c7, w7, hrun, o7, b7, kp7⟩ := app_rtt W2.heap.size q d cap _ (own_later HOWN.out b6) (by have := HB6.out.size; exact this) (by omega) ⟨xk, xe, xl⟩ (w5.heap.size + 1) (by simp)
        have tb7 : RB w7 w5.heap.size (.int .i64 xk) (.string (S xe)) (.string (S xl)) := (kp7.block w5.heap.size (fun e => by have h1 := (HLT.out _ e.symm).2; have h2 := b5.size; omega) (by simp)).trans (RB.new w5 _ _ _ _ rfl)
        have t0 := tb7.c0
        have t1 := tb7.c1
        have t2 := tb7.c2
        have HRUN := Lib.hid hrun
        have HO7 := Lib.hid o7
        have HB7 := Lib.hid (hb6.trans b7)
        have HF7 := Lib.hid (HFR.out.keep ((Kept.of_below b6).trans (kp7.mono (fun g hg e => by have h1 := (HLT.out _ e.symm).1; omega))))
        have HT7 := Lib.hid (HTY.out.trans (HJ1.out ⟨xk, xe, xl⟩ rfl))
        have HI7 := Lib.hid (show allK (d ++ [⟨xk, xe, xl⟩]) 1 = (ib && (xk == 1)) by rw [allK_app, HIB.out])
        have HK7 := Lib.hid (show allK (d ++ [⟨xk, xe, xl⟩]) 2 = (bb && (xk == 2)) by rw [allK_app, HBB.out])
        have hen : ((0 : Nat) : Int) = 0 := rfl
        clear b5 b6 hb6 hrun o7 b7 kp7 tb7
        cases ib <;> cases bb
        all_goals
          go_wp2_with (at_builtin; refine wpList_apx rfl _ _ _ _ rfl rfl rfl _ _ HRUN.out ?_)
          go_wp2_with fail
          go_roundw
          case rel => exact ⟨i + 1, r, d ++ [⟨xk, xe, xl⟩], some ⟨g, k0 + 4 * i + 4, none⟩, q7, c7, by first | rfl | (rw [List.length_append]; rfl), by rw [HI7.out]; rfl, by rw [HK7.out]; rfl, by go_num, by omega, by have := HID.out; simp; omega, HAL.out, HF7.out, fun g' k' e _ => by injection e with e; injection e with e1 e2 _; subst e1 e2; exact ⟨k0, rfl, by omega⟩, HT7.out, HO7.out, HB7.out⟩
          case measure => simp [intOf]; omega
      · have her2 : ((er : Int) == 0) = false := by rw [beq_eq_false_iff_ne]; omega
        have her3 : ((er : Int) != 0) = true := by simp; exact her
        have hnb := HRB2.out.later b6
        have fz := hnb.fz
        have k0 := hnb.c0
        have k1 := hnb.c1
        have k2 := hnb.c2
        have HP := Lib.hid (hnb.put (.int .i64 0) (.string ⟨#[]⟩) (.string ⟨#[]⟩))
        have HBT := Lib.hid (HB2.out.trans (hb6.mono HB2.out.size))
        have HX := Lib.hid (show tyT s ⟨op, num, tx, A⟩ = (TT.zero, er) by
          have e := HTY.out.trans (HJ2.out ⟨xk, xe, xl⟩ er her rfl)
          unfold tyT nodeTy
          simp only [e]
          rw [if_neg her])
        clear b5 b6 hb6 hnb
        go_wp2_with fail
        have d0 := HP.out.c0
        have d1 := HP.out.c1
        have d2 := HP.out.c2
        (try simp only [Exit.inBlock, Exit.then])
        exact bodyPost_ret (v := .tuple #[.agg #[.int .i64 0, .string ⟨#[]⟩, .string ⟨#[]⟩], .int .i64 er]) (by simp [results, d0, d1, d2, Tryz.results25, go_sem]) rfl ⟨by rw [HX.out]; rfl, ((HBT.out.setCell (p := ⟨w.heap.size + 1, 0, none⟩) (by simp) _).setCell (p := ⟨w.heap.size + 1, 1, none⟩) (by simp) _).setCell (p := ⟨w.heap.size + 1, 2, none⟩) (by simp) _⟩
theorem rof_all (s : Sc) (pe pa pf : Option Addr) (ce ca cf : Nat) (hf : ScFit s) : ∀ l : F, okF l → RofAll s pe pa pf ce ca cf l
  | .nil, _ => trivial
  | .cons o n t a r, h => ⟨rof_tree s pe pa pf ce ca cf hf ⟨o, n, t, a⟩ (formed_cnt h.1) (rof_all s pe pa pf ce ca cf hf a h.2.2.2.1), rof_all s pe pa pf ce ca cf hf r h.2.2.2.2⟩
end Go.Proofs.YtchjckdjkecjnaaGreatDoor.Ty
