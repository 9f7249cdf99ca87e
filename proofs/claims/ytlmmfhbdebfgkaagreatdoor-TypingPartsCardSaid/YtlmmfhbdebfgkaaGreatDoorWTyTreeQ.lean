/-
  TyTree, TyOf, ExRefU.
-/
import Derived.Test.YtlmmfhbdebfgkaaGreatDoorWExWrHQ
import Derived.Test.YtlmmfhbdebfgkaaGreatDoorWExResQ
set_option linter.unusedVariables false
set_option linter.unusedSimpArgs false
set_option maxRecDepth 100000
set_option maxHeartbeats 8000000
namespace Go.Proofs.YtlmmfhbdebfgkaaGreatDoor.Ty
open Go.RowKit
open Ex Lx
def TyC (s : Sc) (pe pa pf : Option Addr) (ce ca cf : Nat) (t : T) : Prop := ∀ (p : Option Addr) (c : Nat) (w : World), ScAt w pe pa pf s → FAt w (fun _ => True) t.args p →
  Calls Tryz.prog 27 #[.agg #[.slice pe s.enums.length ce, .slice pa s.attrs.length ca, .slice pf s.fields.length cf], .agg #[.int .i64 t.op, .int .i64 t.num, .string (S t.text), .slice p t.args.len c]] w fun e w' => e = retT (tyT s t) ∧ Below w.heap.size w w'
def TyAll (s : Sc) (pe pa pf : Option Addr) (ce ca cf : Nat) : F → Prop
  | .nil => True
  | .cons o n t a r => TyC s pe pa pf ce ca cf ⟨o, n, t, a⟩ ∧ TyAll s pe pa pf ce ca cf r
theorem ty_tree (s : Sc) (pe pa pf : Option Addr) (ce ca cf : Nat) (hf : ScFit s) (t : T) (hlen : t.args.len ≤ 100000) (htx : t.text.length ≤ 281474976710656) (h2 : t.op = 25 ∨ t.op = 26 ∨ t.op = 30 ∨ t.op = 31 → t.args.len = 2) (hall : TyAll s pe pa pf ce ca cf t.args) : TyC s pe pa pf ce ca cf t := by
  intro p c w hs hfa
  obtain ⟨op, num, tx, A⟩ := t
  simp only at hlen htx h2 hall hfa ⊢
  have hb0 := (((Below.refl w.heap.size w).alloc (Nat.le_refl _) (.cells #[.slice pe s.enums.length ce, .slice pa s.attrs.length ca, .slice pf s.fields.length cf] 85)).alloc (by simp) (.cells #[.int .i64 op, .int .i64 num, .string (S tx), .slice p A.len c] 24)).alloc (by simp; omega) (.cells #[.int .i64 0, .string ⟨#[]⟩, .string ⟨#[]⟩] 44)
  have hsz3 : (((w.alloc (.cells #[.slice pe s.enums.length ce, .slice pa s.attrs.length ca, .slice pf s.fields.length cf] 85)).alloc (.cells #[.int .i64 op, .int .i64 num, .string (S tx), .slice p A.len c] 24)).alloc (.cells #[.int .i64 0, .string ⟨#[]⟩, .string ⟨#[]⟩] 44)).heap.size = w.heap.size + 1 + 1 + 1 := by simp
  obtain ⟨w4, hmk, hrow4, hb4⟩ := make_tt (((w.alloc (.cells #[.slice pe s.enums.length ce, .slice pa s.attrs.length ca, .slice pf s.fields.length cf] 85)).alloc (.cells #[.int .i64 op, .int .i64 num, .string (S tx), .slice p A.len c] 24)).alloc (.cells #[.int .i64 0, .string ⟨#[]⟩, .string ⟨#[]⟩] 44)) A.len hlen
  have hscope : ∀ wr, Below (((w.alloc (.cells #[.slice pe s.enums.length ce, .slice pa s.attrs.length ca, .slice pf s.fields.length cf] 85)).alloc (.cells #[.int .i64 op, .int .i64 num, .string (S tx), .slice p A.len c] 24)).alloc (.cells #[.int .i64 0, .string ⟨#[]⟩, .string ⟨#[]⟩] 44)).heap.size (((w.alloc (.cells #[.slice pe s.enums.length ce, .slice pa s.attrs.length ca, .slice pf s.fields.length cf] 85)).alloc (.cells #[.int .i64 op, .int .i64 num, .string (S tx), .slice p A.len c] 24)).alloc (.cells #[.int .i64 0, .string ⟨#[]⟩, .string ⟨#[]⟩] 44)) wr → wr.cell? ⟨w.heap.size, 0, none⟩ = some (.slice pe s.enums.length ce) ∧ wr.cell? ⟨w.heap.size, 1, none⟩ = some (.slice pa s.attrs.length ca) ∧ wr.cell? ⟨w.heap.size, 2, none⟩ = some (.slice pf s.fields.length cf) := fun wr k => by
    have h := (((k.block w.heap.size (by simp; omega)).trans (((Below.refl ((w.alloc (.cells #[.slice pe s.enums.length ce, .slice pa s.attrs.length ca, .slice pf s.fields.length cf] 85)).alloc (.cells #[.int .i64 op, .int .i64 num, .string (S tx), .slice p A.len c] 24)).heap.size _).alloc (Nat.le_refl _) (.cells #[.int .i64 0, .string ⟨#[]⟩, .string ⟨#[]⟩] 44)).block w.heap.size (by simp; omega))).trans (((Below.refl (w.alloc (.cells #[.slice pe s.enums.length ce, .slice pa s.attrs.length ca, .slice pf s.fields.length cf] 85)).heap.size _).alloc (Nat.le_refl _) (.cells #[.int .i64 op, .int .i64 num, .string (S tx), .slice p A.len c] 24)).block w.heap.size (by simp))).trans (heap_alloc_new w (.cells #[.slice pe s.enums.length ce, .slice pa s.attrs.length ca, .slice pf s.fields.length cf] 85))
    exact ⟨cell_of_row wr _ 0 _ _ (0, 0) h, cell_of_row wr _ 1 _ _ (0, 0) h, cell_of_row wr _ 2 _ _ (0, 0) h⟩
  have hexpr : ∀ wr, Below (((w.alloc (.cells #[.slice pe s.enums.length ce, .slice pa s.attrs.length ca, .slice pf s.fields.length cf] 85)).alloc (.cells #[.int .i64 op, .int .i64 num, .string (S tx), .slice p A.len c] 24)).alloc (.cells #[.int .i64 0, .string ⟨#[]⟩, .string ⟨#[]⟩] 44)).heap.size (((w.alloc (.cells #[.slice pe s.enums.length ce, .slice pa s.attrs.length ca, .slice pf s.fields.length cf] 85)).alloc (.cells #[.int .i64 op, .int .i64 num, .string (S tx), .slice p A.len c] 24)).alloc (.cells #[.int .i64 0, .string ⟨#[]⟩, .string ⟨#[]⟩] 44)) wr → Bx wr (w.heap.size + 1) (.int .i64 op) (.int .i64 num) (.string (S tx)) (.slice p A.len c) := fun wr k =>
    ((k.block (w.heap.size + 1) (by simp)).trans (((Below.refl ((w.alloc (.cells #[.slice pe s.enums.length ce, .slice pa s.attrs.length ca, .slice pf s.fields.length cf] 85)).alloc (.cells #[.int .i64 op, .int .i64 num, .string (S tx), .slice p A.len c] 24)).heap.size _).alloc (Nat.le_refl _) (.cells #[.int .i64 0, .string ⟨#[]⟩, .string ⟨#[]⟩] 44)).block (w.heap.size + 1) (by simp))).trans (new_box _ _ _ _ (by simp))
  have htb : ∀ wr, Below (((w.alloc (.cells #[.slice pe s.enums.length ce, .slice pa s.attrs.length ca, .slice pf s.fields.length cf] 85)).alloc (.cells #[.int .i64 op, .int .i64 num, .string (S tx), .slice p A.len c] 24)).alloc (.cells #[.int .i64 0, .string ⟨#[]⟩, .string ⟨#[]⟩] 44)).heap.size (((w.alloc (.cells #[.slice pe s.enums.length ce, .slice pa s.attrs.length ca, .slice pf s.fields.length cf] 85)).alloc (.cells #[.int .i64 op, .int .i64 num, .string (S tx), .slice p A.len c] 24)).alloc (.cells #[.int .i64 0, .string ⟨#[]⟩, .string ⟨#[]⟩] 44)) wr → TB wr (w.heap.size + 1 + 1) (.int .i64 0) (.string ⟨#[]⟩) (.string ⟨#[]⟩) := fun wr k =>
    (k.block (w.heap.size + 1 + 1) (by simp)).trans (TB.new _ _ _ _ _ (by simp))
  obtain ⟨H, hH⟩ : ∃ H, H = (((w.alloc (.cells #[.slice pe s.enums.length ce, .slice pa s.attrs.length ca, .slice pf s.fields.length cf] 85)).alloc (.cells #[.int .i64 op, .int .i64 num, .string (S tx), .slice p A.len c] 24)).alloc (.cells #[.int .i64 0, .string ⟨#[]⟩, .string ⟨#[]⟩] 44)).heap.size := ⟨_, rfl⟩
  rw [← hH] at hmk hrow4 hb4 hscope hexpr htb hsz3
  have hHw : w.heap.size + 3 = H := by omega
  have hf4 : FAt w4 (· < w.heap.size) A p := (FAt.mono (ok' := (· < w.heap.size)) (fun g hg _ => hg) _ _ hfa).keep (Kept.of_below (hb0.trans (hb4.mono (by omega))))
  have HMK := Lib.hid hmk
  have HROW := Lib.hid hrow4
  have HB4 := Lib.hid hb4
  have HSC := Lib.hid hscope
  have HEX := Lib.hid hexpr
  have HTB := Lib.hid htb
  have HF4 := Lib.hid hf4
  have HB0 := Lib.hid hb0
  have HS := Lib.hid hs
  have HALL := Lib.hid hall
  have HFE := Lib.hid (fun w' (k : Below H (((w.alloc (.cells #[.slice pe s.enums.length ce, .slice pa s.attrs.length ca, .slice pf s.fields.length cf] 85)).alloc (.cells #[.int .i64 op, .int .i64 num, .string (S tx), .slice p A.len c] 24)).alloc (.cells #[.int .i64 0, .string ⟨#[]⟩, .string ⟨#[]⟩] 44)) w') => HB0.out.trans (k.mono (by omega)))
  obtain ⟨e0, e1, e2⟩ := hscope w4 hb4
  have hx4 := hexpr w4 hb4
  have p3 := hx4.c3
  have hki : (A.len : Int) ≤ 100000 := by omega
  clear hb0 hrow4 hb4 hscope hexpr htb hf4 hs hfa hall hx4 e0 e1 e2 hmk hH hsz3
  have hmk2 := HMK.out
  go_enter Tryz.func27, Tryz.ntmps27
  go_wp2_with fail
  clear hmk2
  go_loopw [18] (fun iv wr => ∃ (i : Nat) (r : F) (d : List TT) (pr : Option Addr), iv = .int .i64 i ∧ i + r.len = A.len ∧ i = d.length ∧ TyAll s pe pa pf ce ca cf r ∧ FAt wr (· < w.heap.size) r pr ∧ (∀ g k, pr = some ⟨g, k, none⟩ → r ≠ .nil → ∃ k0, p = some ⟨g, k0, none⟩ ∧ k = k0 + 4 * i) ∧
    tyF s A = joinT d (tyF s r) ∧ TRow wr H A.len d ∧ Below H (((w.alloc (.cells #[.slice pe s.enums.length ce, .slice pa s.attrs.length ca, .slice pf s.fields.length cf] 85)).alloc (.cells #[.int .i64 op, .int .i64 num, .string (S tx), .slice p A.len c] 24)).alloc (.cells #[.int .i64 0, .string ⟨#[]⟩, .string ⟨#[]⟩] 44)) wr) (fun iv _ => A.len - (intOf iv).toNat)
  case atStart => exact ⟨0, A, [], p, rfl, by omega, rfl, HALL.out, HF4.out, fun g k e _ => ⟨k, e, by omega⟩, joinT_nil s A, HROW.out, HB4.out⟩
  case round =>
    obtain ⟨i, r, d, pr, rfl, hil, hid, hal, hfr, hpr, hty, hrow, hbe⟩ := hrel
    obtain ⟨e0, e1, e2⟩ := HSC.out wr hbe
    have hx := HEX.out wr hbe
    have hlt := hrow.lt
    have hle := Nat.le_of_lt hlt
    cases r with
    | nil =>
      have hil2 : i = A.len := by simpa [F.len] using hil
      have hie : ¬ (i : Int) < (A.len : Int) := by omega
      have hdl : d.length = A.len := by omega
      have hTY : tyT s ⟨op, num, tx, A⟩ = oneTy s op tx d := by
        unfold tyT nodeTy
        simp only [hty, joinT_end, if_true]
      have hn := node_any s pe pa pf ce ca cf op num tx p A.len c d (some ⟨H, 0, none⟩) A.len wr (HS.out.later (HFE.out wr hbe)) hf hrow.at_ (by omega) htx (by rw [hdl]; exact h2)
      rw [hdl, ← hTY] at hn
      have HN := Lib.hid hn
      have HBE := Lib.hid hbe
      have q0 := hx.c0
      have q1 := hx.c1
      have q2 := hx.c2
      have q3 := hx.c3
      clear hn hbe hx hrow hty hTY hfr hpr hal
      obtain ⟨xx, hxx⟩ : ∃ xx, xx = tyT s ⟨op, num, tx, A⟩ := ⟨_, rfl⟩
      rw [← hxx] at HN
      have HXX := Lib.hid hxx
      clear hxx
      obtain ⟨⟨xk, xe, xl⟩, er⟩ := xx
      unfold retT at HN
      simp only at HN
      go_wp2_with fail
      refine HN.out.mono ?_
      rintro e w5 ⟨rfl, b5⟩
      have hb5 := HBE.out.trans (b5.mono hle)
      have hnb := HTB.out w5 hb5
      have fz := hnb.fz
      have k0 := hnb.c0
      have k1 := hnb.c1
      have k2 := hnb.c2
      have HP := Lib.hid (hnb.put (.int .i64 xk) (.string (S xe)) (.string (S xl)))
      have HBE5 := Lib.hid (HFE.out w5 hb5)
      clear b5 hnb hb5
      go_wp2_with fail
      have d0 := HP.out.c0
      have d1 := HP.out.c1
      have d2 := HP.out.c2
      exact bodyPost_ret (v := .tuple #[.agg #[.int .i64 xk, .string (S xe), .string (S xl)], .int .i64 er]) (by simp [results, d0, d1, d2, Tryz.results27, go_sem]) rfl ⟨by rw [← HXX.out]; rfl, ((HBE5.out.setCell (p := ⟨w.heap.size + 1 + 1, 0, none⟩) (by simp; omega) _).setCell (p := ⟨w.heap.size + 1 + 1, 1, none⟩) (by simp; omega) _).setCell (p := ⟨w.heap.size + 1 + 1, 2, none⟩) (by simp; omega) _⟩
    | cons o nm tt a r =>
      obtain ⟨g, k, q, cc, rfl, hgk, hgl, f0, f1, f2, f3, hfa, hfr2⟩ := hfr
      obtain ⟨k0, rfl, rfl⟩ := hpr g k rfl (by intro e; cases e)
      have hil2 : i + (r.len + 1) = A.len := by simpa [F.len] using hil
      have hie : (i : Int) < (A.len : Int) := by omega
      rw [show k0 + 4 * i = k0 + i * 4 by omega] at f0 f1 f2 f3
      have zb : ∀ o j, (wr.alloc o).cell? ⟨w.heap.size, j, none⟩ = wr.cell? ⟨w.heap.size, j, none⟩ := fun o j => zcell wr o _ j (by omega)
      have ba := (Below.refl wr.heap.size wr).alloc (Nat.le_refl _) (.cells #[.int .i64 o, .int .i64 nm, .string (S tt), .slice q a.len cc] 24)
      have hcall := hal.1 q cc (wr.alloc (.cells #[.int .i64 o, .int .i64 nm, .string (S tt), .slice q a.len cc] 24)) (HS.out.later (HFE.out _ (hbe.trans (ba.mono hle)))) (FAt.mono (fun _ _ _ => trivial) _ _ (hfa.keep (Kept.of_below ba)))
      have HTY := Lib.hid hty
      have HID := Lib.hid hid
      clear hid
      have HJ1 := Lib.hid (joinT_ok s d o nm tt a r)
      have HJ2 := Lib.hid (joinT_bad s d o nm tt a r)
      have HROW1 := Lib.hid hrow
      have HBE := Lib.hid hbe
      have HBA := Lib.hid ba
      have HAL := Lib.hid hal.2
      have HFR := Lib.hid hfr2
      clear hrow hbe ba hal hfa hfr2 hty hpr hx
      generalize htc : tyT s ⟨o, nm, tt, a⟩ = xx at *
      obtain ⟨⟨xk, xe, xl⟩, er⟩ := xx
      unfold retT at hcall
      simp only at hcall
      have HTC := Lib.hid htc
      have HCALL := Lib.hid hcall
      clear htc hcall
      go_wp2_with fail
      refine HCALL.out.mono ?_
      rintro e w5 ⟨rfl, b5⟩
      have b6 := (HBA.out.trans (b5.mono HBA.out.size)).trans ((Below.refl w5.heap.size w5).alloc (Nat.le_refl _) (.cells #[.int .i64 xk, .string (S xe), .string (S xl)] 44) |>.mono (Nat.le_trans HBA.out.size b5.size))
      have hb6 := HBE.out.trans (b6.mono hle)
      have HB6 := Lib.hid hb6
      have HB6' := Lib.hid b6
      by_cases her : er = 0
      · subst her
        have hrow6 := HROW1.out.later b6
        obtain ⟨u0, g0⟩ := hrow6.room i 0 (by omega) (by omega)
        obtain ⟨u1, g1⟩ := hrow6.room i 1 (by omega) (by omega)
        obtain ⟨u2, g2⟩ := hrow6.room i 2 (by omega) (by omega)
        have fz := hrow6.fz
        have HR7 := Lib.hid (hrow6.put i HID.out (by omega) ⟨xk, xe, xl⟩)
        rw [Nat.add_zero] at g0
        have HK := Lib.hid (HFR.out.keep (((Kept.of_below b6).trans (Kept.set (ok := (· < w.heap.size)) _ H (i * 3) (.int .i64 xk) (by show ¬ H < w.heap.size; omega))).trans ((Kept.set _ H (i * 3 + 1) (.string (S xe)) (by show ¬ H < w.heap.size; omega)).trans (Kept.set _ H (i * 3 + 2) (.string (S xl)) (by show ¬ H < w.heap.size; omega)))))
        have HB7 := Lib.hid (((HB6.out.setCell (p := ⟨H, i * 3, none⟩) (Nat.le_refl _) (.int .i64 xk)).setCell (p := ⟨H, i * 3 + 1, none⟩) (Nat.le_refl _) (.string (S xe))).setCell (p := ⟨H, i * 3 + 2, none⟩) (Nat.le_refl _) (.string (S xl)))
        have HT7 := Lib.hid (HTY.out.trans (HJ1.out ⟨xk, xe, xl⟩ rfl))
        clear b5 b6 hb6 hrow6
        go_wp2_with fail
        go_roundw
        case rel => exact ⟨i + 1, r, d ++ [⟨xk, xe, xl⟩], some ⟨g, k0 + 4 * i + 4, none⟩, by go_num, by omega, by have := HID.out; simp; omega, HAL.out, HK.out, fun g' k' e _ => by injection e with e; injection e with e1 e2 _; subst e1 e2; exact ⟨k0, rfl, by omega⟩, HT7.out, HR7.out, HB7.out⟩
        case measure => simp [intOf]; omega
      · have her2 : ((er : Int) == 0) = false := by rw [beq_eq_false_iff_ne]; omega
        have her3 : ((er : Int) != 0) = true := by simp; exact her
        have hTY : tyT s ⟨op, num, tx, A⟩ = (TT.zero, er) := by
          unfold tyT nodeTy
          simp only [HTY.out.trans (HJ2.out ⟨xk, xe, xl⟩ er her rfl)]
          rw [if_neg her]
        have HTT := Lib.hid hTY
        have hnb := HTB.out _ hb6
        have fz := hnb.fz
        have k0 := hnb.c0
        have k1 := hnb.c1
        have k2 := hnb.c2
        have HP := Lib.hid (hnb.put (.int .i64 0) (.string ⟨#[]⟩) (.string ⟨#[]⟩))
        have HBE5 := Lib.hid (HFE.out _ hb6)
        clear b5 b6 hb6 hnb hTY
        go_wp2_with fail
        try simp only [Exit.inBlock, Exit.then]
        have d0 := HP.out.c0
        have d1 := HP.out.c1
        have d2 := HP.out.c2
        exact bodyPost_ret (v := .tuple #[.agg #[.int .i64 0, .string ⟨#[]⟩, .string ⟨#[]⟩], .int .i64 er]) (by simp [results, d0, d1, d2, Tryz.results27, go_sem]) rfl ⟨by rw [HTT.out]; rfl, ((HBE5.out.setCell (p := ⟨w.heap.size + 1 + 1, 0, none⟩) (by simp; omega) _).setCell (p := ⟨w.heap.size + 1 + 1, 1, none⟩) (by simp; omega) _).setCell (p := ⟨w.heap.size + 1 + 1, 2, none⟩) (by simp; omega) _⟩
end Go.Proofs.YtlmmfhbdebfgkaaGreatDoor.Ty
namespace Go.Proofs.YtlmmfhbdebfgkaaGreatDoor.Ty
open Go.RowKit
open Ex Lx
theorem cnt_len {o : Int} {k : Nat} (h : cntB o k = true) : k ≤ 16 ∧ (o = 25 ∨ o = 26 ∨ o = 30 ∨ o = 31 → k = 2) := by
  unfold cntB at h
  by_cases h5 : o = 5
  · rw [if_pos h5] at h
    exact ⟨by simpa using h, fun e => by omega⟩
  rw [if_neg h5] at h
  by_cases h7 : 1 ≤ o ∧ o ≤ 7
  · rw [if_pos h7] at h
    exact ⟨by simp at h; omega, fun e => by omega⟩
  rw [if_neg h7] at h
  by_cases h12 : 10 ≤ o ∧ o ≤ 12
  · rw [if_pos h12] at h
    exact ⟨by simp at h; omega, fun e => by omega⟩
  rw [if_neg h12] at h
  split at h
  · simp at h
    exact ⟨by omega, fun _ => h⟩
  · cases h
theorem ty_all (s : Sc) (pe pa pf : Option Addr) (ce ca cf : Nat) (hf : ScFit s) : ∀ l : F, okF l → l.fits → TyAll s pe pa pf ce ca cf l
  | .nil, _, _ => trivial
  | .cons o n t a r, h, k => by
    obtain ⟨c1, c2⟩ := cnt_len (formed_cnt h.1)
    exact ⟨ty_tree s pe pa pf ce ca cf hf ⟨o, n, t, a⟩ (by show a.len ≤ 100000; omega) k.1 c2 (ty_all s pe pa pf ce ca cf hf a h.2.2.2.1 k.2.2.1), ty_all s pe pa pf ce ca cf hf r h.2.2.2.2 k.2.2.2⟩
theorem print_ok (t : T) (hn : t.row.nums) (h : (printM t).2 = 0) : okF t.row := by
  unfold printM at h
  by_cases h1 : (t.chk 0).1 = 0
  · exact (tx_len t hn h1).1
  · rw [if_pos h1] at h; exact absurd h h1
theorem of_any (s : Sc) (pe pa pf : Option Addr) (ce ca cf : Nat) (hf : ScFit s) (t : T) (hfit : t.row.fits) (hnums : t.row.nums) (p : Option Addr) (c : Nat) (w : World) (hs : ScAt w pe pa pf s) (hfa : FAt w (fun _ => True) t.args p) (htab : Va.Tab w) (hC : ConsAt w) :
    Calls Tryz.prog 15 #[.slice pe s.enums.length ce, .slice pa s.attrs.length ca, .slice pf s.fields.length cf, .agg #[.int .i64 t.op, .int .i64 t.num, .string (S t.text), .slice p t.args.len c]] w fun e w' => e = retT (ofM s t) ∧ Below w.heap.size w w' := by
  have hb0 := ((Below.refl w.heap.size w).alloc (Nat.le_refl _) (.cells #[.int .i64 t.op, .int .i64 t.num, .string (S t.text), .slice p t.args.len c] 24)).alloc (by simp) (.cells #[.int .i64 0, .string ⟨#[]⟩, .string ⟨#[]⟩] 44)
  obtain ⟨W2, hW2⟩ : ∃ W2, W2 = (w.alloc (.cells #[.int .i64 t.op, .int .i64 t.num, .string (S t.text), .slice p t.args.len c] 24)).alloc (.cells #[.int .i64 0, .string ⟨#[]⟩, .string ⟨#[]⟩] 44) := ⟨_, rfl⟩
  have hs2 : W2.heap.size = w.heap.size + 1 + 1 := by rw [hW2]; simp
  have hbx : Bx W2 w.heap.size (.int .i64 t.op) (.int .i64 t.num) (.string (S t.text)) (.slice p t.args.len c) := by rw [hW2]; exact (Bx.new w _ _ _ _).keep (Kept.alloc (ok := fun _ => True) _ _) trivial
  have htb : TB W2 (w.heap.size + 1) (.int .i64 0) (.string ⟨#[]⟩) (.string ⟨#[]⟩) := by rw [hW2]; exact TB.new _ _ _ _ _ (by simp)
  rw [← hW2] at hb0
  have hfa2 := hfa.keep (Kept.of_below hb0)
  have hp := exprPrint_any t hfit hnums p c W2 (htab.below hb0) (hC.keep (Kept.of_below (ok := fun _ => True) hb0) trivial) (FAt.mono (fun g hg _ => hg) _ _ hfa2)
  have HPR := Lib.hid hp
  have HB0 := Lib.hid hb0
  have HBX := Lib.hid hbx
  have HTB := Lib.hid htb
  have HFA := Lib.hid hfa2
  have HS := Lib.hid (hs.later hb0)
  have HS2 := Lib.hid hs2
  have HOK := Lib.hid (print_ok t hnums)
  have HFI := Lib.hid hfit
  have HOF := Lib.hid (show ofM s t = if (printM t).2 = 0 then tyT s t else (TT.zero, (printM t).2) from rfl)
  have p0 := hbx.c0
  have p1 := hbx.c1
  have p2 := hbx.c2
  have p3 := hbx.c3
  have hw2 := hW2
  clear hb0 hbx htb hfa2 hp hs hfa htab hC hs2 hfit hnums hW2
  rw [hw2] at p0 p1 p2 p3
  generalize printM t = pm at *
  obtain ⟨ps, pb⟩ := pm
  simp only at HPR HOK HOF
  go_enter Tryz.func15, Tryz.ntmps15
  go_wp2_with fail
  rw [← hw2]
  refine HPR.out.mono ?_
  rintro e w3 ⟨rfl, b3⟩
  have HB3 := Lib.hid b3
  have htb3 := HTB.out.later b3
  have HTB3 := Lib.hid htb3
  have hx3 := HBX.out.keep (Kept.of_below (ok := fun _ => True) b3) trivial
  clear p0 p1 p2 p3 hw2 b3
  by_cases hpb : pb = 0
  · subst hpb
    have hr : ofM s t = tyT s t := by rw [HOF.out]; rfl
    have q0 := hx3.c0
    have q1 := hx3.c1
    have q2 := hx3.c2
    have q3 := hx3.c3
    have hcall := (ty_all s pe pa pf ce ca cf hf t.row (HOK.out rfl) HFI.out).1 p c w3 (HS.out.later HB3.out) (HFA.out.keep (Kept.of_below HB3.out))
    have hcall2 : Calls Tryz.prog 27 #[.agg #[.slice pe s.enums.length ce, .slice pa s.attrs.length ca, .slice pf s.fields.length cf], .agg #[.int .i64 t.op, .int .i64 t.num, .string (S t.text), .slice p t.args.len c]] w3 fun e w' => e = retT (tyT s t) ∧ Below w3.heap.size w3 w' := hcall
    obtain ⟨xx, hxx⟩ : ∃ xx, xx = tyT s t := ⟨_, rfl⟩
    rw [← hxx] at hcall2 hr
    obtain ⟨⟨xk, xe, xl⟩, er⟩ := xx
    unfold retT at hcall2
    simp only at hcall2
    have HCALL := Lib.hid hcall2
    have HR := Lib.hid hr
    clear hcall hcall2 hxx hr hx3 htb3
    go_wp2_with fail
    refine HCALL.out.mono ?_
    rintro e w5 ⟨rfl, b5⟩
    have hnb := HTB3.out.later b5
    have fz := hnb.fz
    have k0 := hnb.c0
    have k1 := hnb.c1
    have k2 := hnb.c2
    have HP := Lib.hid (hnb.put (.int .i64 xk) (.string (S xe)) (.string (S xl)))
    have HBE := Lib.hid ((HB0.out.trans (HB3.out.mono HB0.out.size)).trans (b5.mono (Nat.le_trans HB0.out.size HB3.out.size)))
    clear b5 hnb
    go_wp2_with fail
    have d0 := HP.out.c0
    have d1 := HP.out.c1
    have d2 := HP.out.c2
    exact bodyPost_ret (v := .tuple #[.agg #[.int .i64 xk, .string (S xe), .string (S xl)], .int .i64 er]) (by simp [results, d0, d1, d2, Tryz.results15, go_sem]) rfl ⟨by rw [HR.out]; rfl, ((HBE.out.setCell (p := ⟨w.heap.size + 1, 0, none⟩) (by simp) _).setCell (p := ⟨w.heap.size + 1, 1, none⟩) (by simp) _).setCell (p := ⟨w.heap.size + 1, 2, none⟩) (by simp) _⟩
  · have hr : ofM s t = (TT.zero, pb) := by rw [HOF.out, if_neg hpb]
    have HR := Lib.hid hr
    have hpb2 : ((pb : Int) == 0) = false := by rw [beq_eq_false_iff_ne]; omega
    have hpb3 : ((pb : Int) != 0) = true := by simp; exact hpb
    have fz := htb3.fz
    have k0 := htb3.c0
    have k1 := htb3.c1
    have k2 := htb3.c2
    have HP := Lib.hid (htb3.put (.int .i64 0) (.string ⟨#[]⟩) (.string ⟨#[]⟩))
    have HBE := Lib.hid (HB0.out.trans (HB3.out.mono HB0.out.size))
    clear hr hx3 htb3
    go_wp2_with fail
    try simp only [Exit.inBlock, Exit.then]
    have d0 := HP.out.c0
    have d1 := HP.out.c1
    have d2 := HP.out.c2
    exact bodyPost_ret (v := .tuple #[.agg #[.int .i64 0, .string ⟨#[]⟩, .string ⟨#[]⟩], .int .i64 pb]) (by simp [results, d0, d1, d2, Tryz.results15, go_sem]) rfl ⟨by rw [HR.out]; rfl, ((HBE.out.setCell (p := ⟨w.heap.size + 1, 0, none⟩) (by simp) _).setCell (p := ⟨w.heap.size + 1, 1, none⟩) (by simp) _).setCell (p := ⟨w.heap.size + 1, 2, none⟩) (by simp) _⟩
end Go.Proofs.YtlmmfhbdebfgkaaGreatDoor.Ty
namespace Go.Proofs.YtlmmfhbdebfgkaaGreatDoor.Ex
open Go.RowKit
open Lx
theorem unAt_is {ts : List TA} {a : Nat} : unAt (tk ts a) = if isS ts a [33] = true then some 10 else if isS ts a [45] = true then some 11 else none := by
  unfold unAt isS
  generalize tk ts a = t
  obtain ⟨k, x, m, q⟩ := t
  by_cases hk : k = 5
  · subst hk; simp
  · simp [hk]
theorem runary_none (b g cap : Nat) (ts : List TA) (s : St) (r : R) (w : World) (h : Rdg w b g cap ts.length s.at_ s.n s.open_ 0 0) (ht : TsAt w g ts) (hg : g ≠ b) (hs : s.at_ < ts.length) (hn : ts.length ≤ 8001) (hu : unAt (tk ts s.at_) = none)
    (HP : ∀ w1, Rdg w1 b g cap ts.length s.at_ s.n s.open_ 0 0 → TsAt w1 g ts → Calls Tryz.prog 172 #[.pointer (some ⟨b, 0, none⟩)] w1 fun e w' => ResA b g cap ts w1 r e w') :
    Calls Tryz.prog 138 #[.pointer (some ⟨b, 0, none⟩)] w fun e w' => ResA b g cap ts w r e w' := by
  rw [unAt_is] at hu
  have h33 : isS ts s.at_ [33] = false := by
    cases hx : isS ts s.at_ [33] with
    | false => rfl
    | true => rw [hx] at hu; simp at hu
  have h45 : isS ts s.at_ [45] = false := by
    cases hx : isS ts s.at_ [45] with
    | false => rfl
    | true => rw [hx, h33] at hu; simp at hu
  have H := Lib.hid h
  have HT := Lib.hid ht
  have hlt := h.lt
  have H33 := Lib.hid (fun (w1 : World) (b1 : Below w.heap.size w w1) => show Calls Tryz.prog 171 #[.pointer (some ⟨b, 0, none⟩), .string ⟨#[33]⟩] w1 fun e w' => e = .returned (.bool (isS ts s.at_ [33])) ∧ Below w1.heap.size w1 w' from ris_any b g cap s.at_ s.n s.open_ 0 0 ts ⟨#[33]⟩ w1 (h.below b1) (ht.below b1) hs hn)
  have H45 := Lib.hid (fun (w1 : World) (b1 : Below w.heap.size w w1) => show Calls Tryz.prog 171 #[.pointer (some ⟨b, 0, none⟩), .string ⟨#[45]⟩] w1 fun e w' => e = .returned (.bool (isS ts s.at_ [45])) ∧ Below w1.heap.size w1 w' from ris_any b g cap s.at_ s.n s.open_ 0 0 ts ⟨#[45]⟩ w1 (h.below b1) (ht.below b1) hs hn)
  rw [h33] at H33
  rw [h45] at H45
  have HP1 := Lib.hid HP
  have hg1 := Lib.hid hg
  have HB0 := Lib.hid ((Below.refl w.heap.size w).alloc (Nat.le_refl _) (.cells #[.int .i64 0, .int .i64 0, .string ⟨#[]⟩, .slice none 0 0] 24))
  have HX0 := Lib.hid (Bx.new w (.int .i64 0) (.int .i64 0) (.string ⟨#[]⟩) (.slice none 0 0))
  clear h ht hs hn hu HP hg h33 h45
  go_enter Tryz.func138, Tryz.ntmps138
  go_wp2_with fail
  refine (H33.out _ HB0.out).mono ?_
  rintro e w1 ⟨rfl, b1⟩
  have HB1 := Lib.hid (HB0.out.trans (b1.mono (by simp)))
  have HX1 := Lib.hid (HX0.out.keep (Kept.of_below (ok := fun _ => True) b1) trivial)
  clear b1
  go_wp2_with fail
  refine (H45.out _ HB1.out).mono ?_
  rintro e w2 ⟨rfl, b2⟩
  have HB2 := Lib.hid (HB1.out.trans (b2.mono HB1.out.size))
  have HX2 := Lib.hid (HX1.out.keep (Kept.of_below (ok := fun _ => True) b2) trivial)
  clear b2
  go_wp2_with fail
  refine (HP1.out _ (H.out.below HB2.out) (HT.out.below HB2.out)).mono ?_
  rintro e w3 ⟨o3, o, n, t, q, k, c, rfl, hp⟩
  have hx3 := HX2.out.keep o3.kept (show w.heap.size ≠ b by omega)
  have f3 := hx3.fz
  have p0 := hx3.c0
  have p1 := hx3.c1
  have p2 := hx3.c2
  have p3 := hx3.c3
  have HX3 := Lib.hid (hx3.put (.int .i64 o) (.int .i64 n) (.string (S t)) (.slice q k c))
  have hH2 := HX2.out.lt
  have HP3 := Lib.hid ((hp.keep (Kept.put w3 w.heap.size (.int .i64 o) (.int .i64 n) (.string (S t)) (.slice q k c) (by omega))).low HB2.out.size)
  have HO3 := Lib.hid (((Only.of_below HB2.out).trans o3).put w.heap.size (Nat.le_refl _) (.int .i64 o) (.int .i64 n) (.string (S t)) (.slice q k c))
  clear hx3 o3 hp hH2
  go_wp2_with fail
  refine bodyPost_ret (res_expr rfl _ _ w.heap.size _ _ _ _ rfl HX3.out) rfl ?_
  exact ⟨HO3.out, o, n, t, q, k, c, rfl, HP3.out⟩
end Go.Proofs.YtlmmfhbdebfgkaaGreatDoor.Ex
