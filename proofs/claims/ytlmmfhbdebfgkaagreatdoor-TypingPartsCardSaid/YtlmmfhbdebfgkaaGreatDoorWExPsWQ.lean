/-
  ExPsW, ExPsU.
-/
import Derived.Test.YtlmmfhbdebfgkaaGreatDoorWExPsK
set_option linter.unusedVariables false
set_option linter.unusedSimpArgs false
set_option maxRecDepth 100000
set_option maxHeartbeats 8000000
namespace Go.Proofs.YtlmmfhbdebfgkaaGreatDoor.Ex
open Go.RowKit
open Lx Va
theorem resP_box {b g cap : Nat} {ts : List TA} {w w0 w1 : World} {x : T} {s2 : St} {q : Option Addr} {c H : Nat} {z0 z1 z2 z3 : Value} (o0 : Only b w w0) (o1 : Only b w0 w1) (hf : FAt w1 (w0.heap.size ≤ ·) x.args q) (hp : Psr w1 b g cap ts.length s2.at_ s2.n s2.open_)
    (hx : Bx w1 H z0 z1 z2 z3) (hH : w.heap.size ≤ H) (hH0 : H < w0.heap.size) (hb : b ≠ H) :
    Bx (put4 w1 H (.int .i64 x.op) (.int .i64 x.num) (.string (S x.text)) (.slice q x.args.len c)) H (.int .i64 x.op) (.int .i64 x.num) (.string (S x.text)) (.slice q x.args.len c) ∧
    ResP b g cap ts w (.ok x s2) (.returned (exprC x q c)) (put4 w1 H (.int .i64 x.op) (.int .i64 x.num) (.string (S x.text)) (.slice q x.args.len c)) := by
  refine ⟨hx.put _ _ _ _, (o0.trans o1).put H hH _ _ _ _, q, c, rfl, ?_, hp.keep (Kept.put (ok := (· ≠ H)) w1 H _ _ _ _ (by simp)) hb⟩
  have h1 : FAt w1 (fun g => w.heap.size ≤ g ∧ g ≠ H) x.args q := FAt.mono (fun y _ hg => by have h2 : w0.heap.size ≤ y := hg; have := o0.size; constructor <;> omega) _ _ hf
  exact FAt.mono (fun _ _ hg => hg.1) _ _ (h1.keep (Kept.put w1 H _ _ _ _ (by simp)))
theorem word_ne {a b : List UInt8} (h : a ≠ b) : ((S a).toList == b) = false := by rw [eqB]; exact beq_eq_false_iff_ne.2 h
theorem word_eq (a : List UInt8) : ((S a).toList == a) = true := by rw [eqB]; exact beq_self_eq_true a
theorem pword_any (b g cap : Nat) (ts : List TA) (hE : Env b g ts) (s : St) (w : World) (h : Psr w b g cap ts.length s.at_ s.n s.open_) (ht : TsAt w g ts) (hC : ConsAt w) (hs : StOk ts s) (rec : St → R) (hrk : RecOk ts rec) (hk1 : (tk ts s.at_).kind = 1)
    (HR : RecP b g cap ts (s.open_ + 1) rec) (wd : List UInt8) (hwd : (tk ts s.at_).text = wd) :
    Calls Tryz.prog 166 #[.pointer (some ⟨b, 0, none⟩), .string (S wd)] w fun e w' => ResP b g cap ts w (wordR rec ts wd s) e w' := by
  have hlt := h.lt
  have hb := (Below.refl w.heap.size w).alloc (Nat.le_refl _) (.cells #[.int .i64 0, .int .i64 0, .string ⟨#[]⟩, .slice none 0 0] 24)
  have HX0 := Lib.hid (Bx.new w (.int .i64 0) (.int .i64 0) (.string ⟨#[]⟩) (.slice none 0 0))
  have H0 := Lib.hid (h.below hb)
  have HT0 := Lib.hid (ht.below hb)
  have HC0 := Lib.hid (hC.keep (Kept.of_below (ok := fun _ => True) hb) trivial)
  have HO0 := Lib.hid (Only.of_below (b := b) hb)
  have hne1 : ¬ w.heap.size = b := by omega
  have hne2 : ¬ b = w.heap.size := by omega
  have hnm := nameS_len ((hE.toks s.at_).name (.inl hk1))
  rw [hwd] at hnm
  unfold wordR
  by_cases e1 : wd = wTrue
  · subst e1
    rw [if_neg (by decide), if_neg (by decide), if_neg (by decide), if_neg (by decide), if_pos rfl]
    have t1 : ((S wTrue).toList == ([116, 114, 117, 101] : List UInt8)) = true := word_eq wTrue
    have SUB := Lib.hid (pleaf_any b g cap ts s 3 1 [] _ H0.out hs hE.len)
    obtain ⟨r, hr⟩ : ∃ r, r = leafR 3 1 [] s := ⟨_, rfl⟩
    rw [← hr] at SUB ⊢
    clear hr
    clear h ht hC hs hrk HR hE hb hk1 hwd hnm
    go_enter Tryz.func166, Tryz.ntmps166
    go_wp2_with fail
    refine SUB.out.mono ?_
    cases r with
    | bad er a =>
      rintro e w1 ⟨o1, rfl⟩
      have HO := Lib.hid (HO0.out.trans o1)
      clear o1
      unfold panS
      go_wp2_with fail
      exact ⟨rfl, HO.out, rfl⟩
    | ok x s2 =>
      rintro e w1 ⟨o1, q, c, rfl, hfa, h1⟩
      have hx1 := HX0.out.keep o1.kept hne1
      have q0 := hx1.c0
      have q1 := hx1.c1
      have q2 := hx1.c2
      have q3 := hx1.c3
      have fr := hx1.fz
      obtain ⟨hxf, hrf⟩ := resP_box HO0.out o1 hfa h1 hx1 (Nat.le_refl _) HX0.out.lt hne2
      have HXF := Lib.hid hxf
      have HRF := Lib.hid hrf
      clear hxf hrf
      unfold exprC
      go_wp2_with fail
      refine bodyPost_ret (res_expr rfl _ _ w.heap.size _ _ _ _ rfl HXF.out) rfl ?_
      exact HRF.out
  have t1 : ((S wd).toList == ([116, 114, 117, 101] : List UInt8)) = false := word_ne e1
  by_cases e2 : wd = wFalse
  · subst e2
    rw [if_neg (by decide), if_neg (by decide), if_neg (by decide), if_neg (by decide), if_neg (by decide), if_pos rfl]
    have t2 : ((S wFalse).toList == ([102, 97, 108, 115, 101] : List UInt8)) = true := word_eq wFalse
    have SUB := Lib.hid (pleaf_any b g cap ts s 3 0 [] _ H0.out hs hE.len)
    obtain ⟨r, hr⟩ : ∃ r, r = leafR 3 0 [] s := ⟨_, rfl⟩
    rw [← hr] at SUB ⊢
    clear hr
    clear h ht hC hs hrk HR hE hb hk1 hwd hnm e1
    go_enter Tryz.func166, Tryz.ntmps166
    go_wp2_with fail
    refine SUB.out.mono ?_
    cases r with
    | bad er a =>
      rintro e w1 ⟨o1, rfl⟩
      have HO := Lib.hid (HO0.out.trans o1)
      clear o1
      unfold panS
      go_wp2_with fail
      exact ⟨rfl, HO.out, rfl⟩
    | ok x s2 =>
      rintro e w1 ⟨o1, q, c, rfl, hfa, h1⟩
      have hx1 := HX0.out.keep o1.kept hne1
      have q0 := hx1.c0
      have q1 := hx1.c1
      have q2 := hx1.c2
      have q3 := hx1.c3
      have fr := hx1.fz
      obtain ⟨hxf, hrf⟩ := resP_box HO0.out o1 hfa h1 hx1 (Nat.le_refl _) HX0.out.lt hne2
      have HXF := Lib.hid hxf
      have HRF := Lib.hid hrf
      clear hxf hrf
      unfold exprC
      go_wp2_with fail
      refine bodyPost_ret (res_expr rfl _ _ w.heap.size _ _ _ _ rfl HXF.out) rfl ?_
      exact HRF.out
  have t2 : ((S wd).toList == ([102, 97, 108, 115, 101] : List UInt8)) = false := word_ne e2
  by_cases e3 : wd = wMsg
  · subst e3
    rw [if_neg (by decide), if_neg (by decide), if_neg (by decide), if_pos rfl]
    have t3 : ((S wMsg).toList == ([109, 115, 103] : List UInt8)) = true := word_eq wMsg
    have SUB := Lib.hid (pfield_any b g cap ts hE s _ H0.out HT0.out hs hk1)
    obtain ⟨r, hr⟩ : ∃ r, r = fieldR ts s := ⟨_, rfl⟩
    rw [← hr] at SUB ⊢
    clear hr
    clear h ht hC hs hrk HR hE hb hk1 hwd hnm e1 e2
    go_enter Tryz.func166, Tryz.ntmps166
    go_wp2_with fail
    refine SUB.out.mono ?_
    cases r with
    | bad er a =>
      rintro e w1 ⟨o1, rfl⟩
      have HO := Lib.hid (HO0.out.trans o1)
      clear o1
      unfold panS
      go_wp2_with fail
      exact ⟨rfl, HO.out, rfl⟩
    | ok x s2 =>
      rintro e w1 ⟨o1, q, c, rfl, hfa, h1⟩
      have hx1 := HX0.out.keep o1.kept hne1
      have q0 := hx1.c0
      have q1 := hx1.c1
      have q2 := hx1.c2
      have q3 := hx1.c3
      have fr := hx1.fz
      obtain ⟨hxf, hrf⟩ := resP_box HO0.out o1 hfa h1 hx1 (Nat.le_refl _) HX0.out.lt hne2
      have HXF := Lib.hid hxf
      have HRF := Lib.hid hrf
      clear hxf hrf
      unfold exprC
      go_wp2_with fail
      refine bodyPost_ret (res_expr rfl _ _ w.heap.size _ _ _ _ rfl HXF.out) rfl ?_
      exact HRF.out
  have t3 : ((S wd).toList == ([109, 115, 103] : List UInt8)) = false := word_ne e3
  have HCA := Lib.hid (constructAt_any 6 wd _ HC0.out)
  rw [if_neg e3, if_neg e1, if_neg e2]
  rw [conW_fun] at HCA
  by_cases n1 : wd = wLen
  · subst n1
    rw [if_pos rfl] at HCA ⊢
    have HKC := Lib.hid (fun W (k : Psr W b g cap ts.length s.at_ s.n s.open_) (kt : TsAt W g ts) (kc : ConsAt W) => pcall_any b g cap ts hE s W k kt kc hs rec hrk hk1 HR ⟨wLen, 12, 6, 1, false⟩ 1 rfl (by decide) (by decide))
    obtain ⟨r, hr⟩ : ∃ r, r = callR rec ts 12 1 s := ⟨_, rfl⟩
    rw [← hr]
    have HRC := Lib.hid hr
    clear hr
    simp only at HKC
    rw [← HRC.out] at HKC
    clear h ht hC hs hrk HR hE hb hk1 hwd hnm e1 e2 e3
    unfold conV at HCA
    simp only at HCA
    go_enter Tryz.func166, Tryz.ntmps166
    go_wp2_with fail
    refine HCA.out.mono ?_
    rintro e w1 ⟨rfl, b1⟩
    have b2 := b1.alloc b1.size (.cells #[.string (S wLen), .int .i64 12, .int .i64 6, .int .i64 1, .bool false] 96)
    obtain ⟨W2, hW2⟩ : ∃ W2, W2 = w1.alloc (.cells #[.string (S wLen), .int .i64 12, .int .i64 6, .int .i64 1, .bool false] 96) := ⟨_, rfl⟩
    have hk := heap_alloc_new w1 (.cells #[.string (S wLen), .int .i64 12, .int .i64 6, .int .i64 1, .bool false] 96)
    rw [← hW2] at b2 hk
    obtain ⟨Y, hY⟩ : ∃ Y, w1.heap.size = Y := ⟨_, rfl⟩
    rw [hY] at hk
    have k0 : W2.cell? ⟨Y, 0, none⟩ = some (.string (S wLen)) := cell_of_row W2 Y 0 _ _ (0, 0) hk
    have k1 : W2.cell? ⟨Y, 1, none⟩ = some (.int .i64 12) := cell_of_row W2 Y 1 _ _ (0, 0) hk
    have k2 : W2.cell? ⟨Y, 2, none⟩ = some (.int .i64 6) := cell_of_row W2 Y 2 _ _ (0, 0) hk
    have k3 : W2.cell? ⟨Y, 3, none⟩ = some (.int .i64 1) := cell_of_row W2 Y 3 _ _ (0, 0) hk
    have k4 : W2.cell? ⟨Y, 4, none⟩ = some (.bool false) := cell_of_row W2 Y 4 _ _ (0, 0) hk
    have SUB := Lib.hid (HKC.out W2 (H0.out.below b2) (HT0.out.below b2) (HC0.out.keep (Kept.of_below (ok := fun _ => True) b2) trivial))
    have HO0 := Lib.hid (HO0.out.trans (Only.of_below (b := b) b2))
    have HX0 := Lib.hid (laterB HX0.out b2)
    have HW2 := Lib.hid hW2
    have HY := Lib.hid hY
    clear b1 b2 hk hW2 hY
    go_upto_region 8 with fail
    rw [HY.out, ← HW2.out]
    clear HY HW2
    go_wp2_with fail
    refine SUB.out.mono ?_
    cases r with
    | bad er a =>
      rintro e w1 ⟨o1, rfl⟩
      have HO := Lib.hid (HO0.out.trans o1)
      clear o1
      unfold panS
      go_wp2_with fail
      exact ⟨rfl, HO.out, rfl⟩
    | ok x s2 =>
      rintro e w1 ⟨o1, q, c, rfl, hfa, h1⟩
      have hx1 := HX0.out.keep o1.kept hne1
      have q0 := hx1.c0
      have q1 := hx1.c1
      have q2 := hx1.c2
      have q3 := hx1.c3
      have fr := hx1.fz
      obtain ⟨hxf, hrf⟩ := resP_box HO0.out o1 hfa h1 hx1 (Nat.le_refl _) HX0.out.lt hne2
      have HXF := Lib.hid hxf
      have HRF := Lib.hid hrf
      clear hxf hrf
      unfold exprC
      go_wp2_with fail
      refine bodyPost_ret (res_expr rfl _ _ w.heap.size _ _ _ _ rfl HXF.out) rfl ?_
      exact HRF.out
  rw [if_neg n1] at HCA ⊢
  by_cases n2 : wd = wAt
  · subst n2
    rw [if_pos rfl] at HCA ⊢
    have HKC := Lib.hid (fun W (k : Psr W b g cap ts.length s.at_ s.n s.open_) (kt : TsAt W g ts) (kc : ConsAt W) => pcall_any b g cap ts hE s W k kt kc hs rec hrk hk1 HR ⟨wAt, 25, 6, 2, false⟩ 2 rfl (by decide) (by decide))
    obtain ⟨r, hr⟩ : ∃ r, r = callR rec ts 25 2 s := ⟨_, rfl⟩
    rw [← hr]
    have HRC := Lib.hid hr
    clear hr
    simp only at HKC
    rw [← HRC.out] at HKC
    clear h ht hC hs hrk HR hE hb hk1 hwd hnm e1 e2 e3
    unfold conV at HCA
    simp only at HCA
    go_enter Tryz.func166, Tryz.ntmps166
    go_wp2_with fail
    refine HCA.out.mono ?_
    rintro e w1 ⟨rfl, b1⟩
    have b2 := b1.alloc b1.size (.cells #[.string (S wAt), .int .i64 25, .int .i64 6, .int .i64 2, .bool false] 96)
    obtain ⟨W2, hW2⟩ : ∃ W2, W2 = w1.alloc (.cells #[.string (S wAt), .int .i64 25, .int .i64 6, .int .i64 2, .bool false] 96) := ⟨_, rfl⟩
    have hk := heap_alloc_new w1 (.cells #[.string (S wAt), .int .i64 25, .int .i64 6, .int .i64 2, .bool false] 96)
    rw [← hW2] at b2 hk
    obtain ⟨Y, hY⟩ : ∃ Y, w1.heap.size = Y := ⟨_, rfl⟩
    rw [hY] at hk
    have k0 : W2.cell? ⟨Y, 0, none⟩ = some (.string (S wAt)) := cell_of_row W2 Y 0 _ _ (0, 0) hk
    have k1 : W2.cell? ⟨Y, 1, none⟩ = some (.int .i64 25) := cell_of_row W2 Y 1 _ _ (0, 0) hk
    have k2 : W2.cell? ⟨Y, 2, none⟩ = some (.int .i64 6) := cell_of_row W2 Y 2 _ _ (0, 0) hk
    have k3 : W2.cell? ⟨Y, 3, none⟩ = some (.int .i64 2) := cell_of_row W2 Y 3 _ _ (0, 0) hk
    have k4 : W2.cell? ⟨Y, 4, none⟩ = some (.bool false) := cell_of_row W2 Y 4 _ _ (0, 0) hk
    have SUB := Lib.hid (HKC.out W2 (H0.out.below b2) (HT0.out.below b2) (HC0.out.keep (Kept.of_below (ok := fun _ => True) b2) trivial))
    have HO0 := Lib.hid (HO0.out.trans (Only.of_below (b := b) b2))
    have HX0 := Lib.hid (laterB HX0.out b2)
    have HW2 := Lib.hid hW2
    have HY := Lib.hid hY
    clear b1 b2 hk hW2 hY
    go_upto_region 8 with fail
    rw [HY.out, ← HW2.out]
    clear HY HW2
    go_wp2_with fail
    refine SUB.out.mono ?_
    cases r with
    | bad er a =>
      rintro e w1 ⟨o1, rfl⟩
      have HO := Lib.hid (HO0.out.trans o1)
      clear o1
      unfold panS
      go_wp2_with fail
      exact ⟨rfl, HO.out, rfl⟩
    | ok x s2 =>
      rintro e w1 ⟨o1, q, c, rfl, hfa, h1⟩
      have hx1 := HX0.out.keep o1.kept hne1
      have q0 := hx1.c0
      have q1 := hx1.c1
      have q2 := hx1.c2
      have q3 := hx1.c3
      have fr := hx1.fz
      obtain ⟨hxf, hrf⟩ := resP_box HO0.out o1 hfa h1 hx1 (Nat.le_refl _) HX0.out.lt hne2
      have HXF := Lib.hid hxf
      have HRF := Lib.hid hrf
      clear hxf hrf
      unfold exprC
      go_wp2_with fail
      refine bodyPost_ret (res_expr rfl _ _ w.heap.size _ _ _ _ rfl HXF.out) rfl ?_
      exact HRF.out
  rw [if_neg n2] at HCA ⊢
  by_cases n3 : wd = wPush
  · subst n3
    rw [if_pos rfl] at HCA ⊢
    have HKC := Lib.hid (fun W (k : Psr W b g cap ts.length s.at_ s.n s.open_) (kt : TsAt W g ts) (kc : ConsAt W) => pcall_any b g cap ts hE s W k kt kc hs rec hrk hk1 HR ⟨wPush, 26, 6, 2, false⟩ 2 rfl (by decide) (by decide))
    obtain ⟨r, hr⟩ : ∃ r, r = callR rec ts 26 2 s := ⟨_, rfl⟩
    rw [← hr]
    have HRC := Lib.hid hr
    clear hr
    simp only at HKC
    rw [← HRC.out] at HKC
    clear h ht hC hs hrk HR hE hb hk1 hwd hnm e1 e2 e3
    unfold conV at HCA
    simp only at HCA
    go_enter Tryz.func166, Tryz.ntmps166
    go_wp2_with fail
    refine HCA.out.mono ?_
    rintro e w1 ⟨rfl, b1⟩
    have b2 := b1.alloc b1.size (.cells #[.string (S wPush), .int .i64 26, .int .i64 6, .int .i64 2, .bool false] 96)
    obtain ⟨W2, hW2⟩ : ∃ W2, W2 = w1.alloc (.cells #[.string (S wPush), .int .i64 26, .int .i64 6, .int .i64 2, .bool false] 96) := ⟨_, rfl⟩
    have hk := heap_alloc_new w1 (.cells #[.string (S wPush), .int .i64 26, .int .i64 6, .int .i64 2, .bool false] 96)
    rw [← hW2] at b2 hk
    obtain ⟨Y, hY⟩ : ∃ Y, w1.heap.size = Y := ⟨_, rfl⟩
    rw [hY] at hk
    have k0 : W2.cell? ⟨Y, 0, none⟩ = some (.string (S wPush)) := cell_of_row W2 Y 0 _ _ (0, 0) hk
    have k1 : W2.cell? ⟨Y, 1, none⟩ = some (.int .i64 26) := cell_of_row W2 Y 1 _ _ (0, 0) hk
    have k2 : W2.cell? ⟨Y, 2, none⟩ = some (.int .i64 6) := cell_of_row W2 Y 2 _ _ (0, 0) hk
    have k3 : W2.cell? ⟨Y, 3, none⟩ = some (.int .i64 2) := cell_of_row W2 Y 3 _ _ (0, 0) hk
    have k4 : W2.cell? ⟨Y, 4, none⟩ = some (.bool false) := cell_of_row W2 Y 4 _ _ (0, 0) hk
    have SUB := Lib.hid (HKC.out W2 (H0.out.below b2) (HT0.out.below b2) (HC0.out.keep (Kept.of_below (ok := fun _ => True) b2) trivial))
    have HO0 := Lib.hid (HO0.out.trans (Only.of_below (b := b) b2))
    have HX0 := Lib.hid (laterB HX0.out b2)
    have HW2 := Lib.hid hW2
    have HY := Lib.hid hY
    clear b1 b2 hk hW2 hY
    go_upto_region 8 with fail
    rw [HY.out, ← HW2.out]
    clear HY HW2
    go_wp2_with fail
    refine SUB.out.mono ?_
    cases r with
    | bad er a =>
      rintro e w1 ⟨o1, rfl⟩
      have HO := Lib.hid (HO0.out.trans o1)
      clear o1
      unfold panS
      go_wp2_with fail
      exact ⟨rfl, HO.out, rfl⟩
    | ok x s2 =>
      rintro e w1 ⟨o1, q, c, rfl, hfa, h1⟩
      have hx1 := HX0.out.keep o1.kept hne1
      have q0 := hx1.c0
      have q1 := hx1.c1
      have q2 := hx1.c2
      have q3 := hx1.c3
      have fr := hx1.fz
      obtain ⟨hxf, hrf⟩ := resP_box HO0.out o1 hfa h1 hx1 (Nat.le_refl _) HX0.out.lt hne2
      have HXF := Lib.hid hxf
      have HRF := Lib.hid hrf
      clear hxf hrf
      unfold exprC
      go_wp2_with fail
      refine bodyPost_ret (res_expr rfl _ _ w.heap.size _ _ _ _ rfl HXF.out) rfl ?_
      exact HRF.out
  rw [if_neg n3] at HCA ⊢
  have hsz : (S wd).size ≤ 281474976710656 := by rw [S_size]; omega
  have HCL := Lib.hid (fun W => strClone_any (S wd) hsz W)
  have HLF := Lib.hid (fun W (k : Psr W b g cap ts.length s.at_ s.n s.open_) => pleaf_any b g cap ts s 6 0 wd W k hs hE.len)
  obtain ⟨r, hr⟩ : ∃ r, r = leafR 6 0 wd s := ⟨_, rfl⟩
  rw [← hr] at HLF ⊢
  clear hr
  clear h ht hC hs hrk HR hE hb hk1 hwd hnm e1 e2 e3 n1 n2 n3 hsz
  unfold conV at HCA
  simp only at HCA
  go_enter Tryz.func166, Tryz.ntmps166
  go_wp2_with fail
  refine HCA.out.mono ?_
  rintro e w1 ⟨rfl, b1⟩
  have b2 := b1.alloc b1.size (.cells #[.string (S []), .int .i64 0, .int .i64 0, .int .i64 0, .bool false] 96)
  have HC2 := Lib.hid (HCL.out (w1.alloc (.cells #[.string (S []), .int .i64 0, .int .i64 0, .int .i64 0, .bool false] 96)))
  have HB2 := Lib.hid b2
  clear b1 b2
  go_wp2_with fail
  refine HC2.out.mono ?_
  rintro e w3 ⟨rfl, b3⟩
  have b4 := HB2.out.trans (b3.mono HB2.out.size)
  have SUB := Lib.hid (HLF.out w3 (H0.out.below b4))
  have HO0 := Lib.hid (HO0.out.trans (Only.of_below (b := b) b4))
  have HX0 := Lib.hid (laterB HX0.out b4)
  clear b3 b4
  go_wp2_with fail
  refine SUB.out.mono ?_
  cases r with
  | bad er a =>
    rintro e w1 ⟨o1, rfl⟩
    have HO := Lib.hid (HO0.out.trans o1)
    clear o1
    unfold panS
    go_wp2_with fail
    exact ⟨rfl, HO.out, rfl⟩
  | ok x s2 =>
    rintro e w1 ⟨o1, q, c, rfl, hfa, h1⟩
    have hx1 := HX0.out.keep o1.kept hne1
    have q0 := hx1.c0
    have q1 := hx1.c1
    have q2 := hx1.c2
    have q3 := hx1.c3
    have fr := hx1.fz
    obtain ⟨hxf, hrf⟩ := resP_box HO0.out o1 hfa h1 hx1 (Nat.le_refl _) HX0.out.lt hne2
    have HXF := Lib.hid hxf
    have HRF := Lib.hid hrf
    clear hxf hrf
    unfold exprC
    go_wp2_with fail
    refine bodyPost_ret (res_expr rfl _ _ w.heap.size _ _ _ _ rfl HXF.out) rfl ?_
    exact HRF.out
end Go.Proofs.YtlmmfhbdebfgkaaGreatDoor.Ex
namespace Go.Proofs.YtlmmfhbdebfgkaaGreatDoor.Ex
open Go.RowKit
open Lx Va
theorem pprimary_any (b g cap : Nat) (ts : List TA) (hE : Env b g ts) (s : St) (w : World) (h : Psr w b g cap ts.length s.at_ s.n s.open_) (ht : TsAt w g ts) (hC : ConsAt w) (hs : StOk ts s) (rec : St → R) (hrk : RecOk ts rec)
    (HR : RecP b g cap ts (s.open_ + 1) rec) (hnb : ∀ s1 : St, StOk ts s1 → s1.open_ = s.open_ + 1 → begins ts s1.at_ = false → rec s1 = .bad 25 s1.at_) :
    Calls Tryz.prog 128 #[.pointer (some ⟨b, 0, none⟩)] w fun e w' => ResP b g cap ts w (primR rec ts s) e w' := by
  have hlt := h.lt
  have hb := (Below.refl w.heap.size w).alloc (Nat.le_refl _) (.cells #[.int .i64 0, .int .i64 0, .string ⟨#[]⟩, .slice none 0 0] 24)
  have HX := Lib.hid (Bx.new w (.int .i64 0) (.int .i64 0) (.string ⟨#[]⟩) (.slice none 0 0))
  have H := Lib.hid (h.below hb)
  have HT := Lib.hid (ht.below hb)
  have HC := Lib.hid (hC.keep (Kept.of_below (ok := fun _ => True) hb) trivial)
  have HO := Lib.hid (Only.of_below (b := b) hb)
  have hne1 : ¬ w.heap.size = b := by omega
  have hne2 : ¬ b = w.heap.size := by omega
  have hts := hE.toks s.at_
  have HH := Lib.hid (phere_any b g cap s.at_ s.n s.open_ ts _ H.out HT.out hs.at_ hE.len hts)
  have HWD := Lib.hid (fun (hk1 : (tk ts s.at_).kind = 1) W (k : Psr W b g cap ts.length s.at_ s.n s.open_) (kt : TsAt W g ts) (kc : ConsAt W) => pword_any b g cap ts hE s W k kt kc hs rec hrk hk1 HR (tk ts s.at_).text rfl)
  have HLF := Lib.hid (fun (op num : Int) (tx : List UInt8) W (k : Psr W b g cap ts.length s.at_ s.n s.open_) => pleaf_any b g cap ts s op num tx W k hs hE.len)
  have HIS := Lib.hid (fun (u : ByteArray) W (k : Psr W b g cap ts.length s.at_ s.n s.open_) (kt : TsAt W g ts) => pis_any b g cap s.at_ s.n s.open_ ts u W k kt hs.at_ hE.len hts)
  have HLS := Lib.hid (fun (hi : isS ts s.at_ [91] = true) W (k : Psr W b g cap ts.length s.at_ s.n s.open_) (kt : TsAt W g ts) (kc : ConsAt W) => plist_any b g cap ts hE s W k kt kc hs rec hrk hi HR hnb)
  have HGR := Lib.hid (fun (hi : isS ts s.at_ [40] = true) W (k : Psr W b g cap ts.length s.at_ s.n s.open_) (kt : TsAt W g ts) (kc : ConsAt W) => pgroup_any b g cap ts hE s W k kt kc hs rec hrk hi HR)
  have HWR := Lib.hid (fun W (k : Psr W b g cap ts.length s.at_ s.n s.open_) => pwrong_any b g cap ts.length s.at_ s.n s.open_ 25 W k)
  have e4591 : isS ts s.at_ [91] = ((tk ts s.at_).kind == 5 && (tk ts s.at_).text == [91]) := rfl
  have e4540 : isS ts s.at_ [40] = ((tk ts s.at_).kind == 5 && (tk ts s.at_).text == [40]) := rfl
  have HTS := Lib.hid hts
  clear h ht hC hs hrk HR hnb hE hb hts
  unfold primR
  unfold tokC at HH
  generalize hi91 : isS ts s.at_ [91] = i91 at *
  generalize hi40 : isS ts s.at_ [40] = i40 at *
  obtain ⟨t, hT⟩ : ∃ t, tk ts s.at_ = t := ⟨_, rfl⟩
  rw [hT] at HH HWD HTS e4591 e4540 ⊢
  clear hT
  obtain ⟨kd, tx, nm, q0⟩ := t
  simp only at HH HWD e4591 e4540 ⊢
  by_cases k1 : kd = 1
  · subst k1
    rw [if_pos rfl]
    have SUBF := Lib.hid (HWD.out rfl)
    obtain ⟨r, hr⟩ : ∃ r, r = wordR rec ts tx s := ⟨_, rfl⟩
    rw [← hr] at SUBF ⊢
    clear hr HWD HLF HIS HLS HGR HWR e4591 e4540
    go_enter Tryz.func128, Tryz.ntmps128
    go_wp2_with fail
    refine HH.out.mono ?_
    rintro e w0 ⟨rfl, b0⟩
    have b2 := b0.alloc b0.size (.cells #[.int .i64 1, .string (S tx), .int .i64 nm, .int .i64 (q0 : Int)] 79)
    have SUB := Lib.hid (SUBF.out _ (H.out.below b2) (HT.out.below b2) (HC.out.keep (Kept.of_below (ok := fun _ => True) b2) trivial))
    have HO0 := Lib.hid (HO.out.trans (Only.of_below (b := b) b2))
    have HX0 := Lib.hid (laterB HX.out b2)
    clear b0 b2 H HT HC HO HX HH SUBF
    go_wp2_with fail
    refine SUB.out.mono ?_
    cases r with
    | bad er a =>
      rintro e w1 ⟨o1, rfl⟩
      have HO := Lib.hid (HO0.out.trans o1)
      clear o1
      unfold panS
      go_wp2_with fail
      exact ⟨rfl, HO.out, rfl⟩
    | ok x s2 =>
      rintro e w1 ⟨o1, q, c, rfl, hfa, h1⟩
      have hx1 := HX0.out.keep o1.kept hne1
      have q0 := hx1.c0
      have q1 := hx1.c1
      have q2 := hx1.c2
      have q3 := hx1.c3
      have fr := hx1.fz
      obtain ⟨hxf, hrf⟩ := resP_box HO0.out o1 hfa h1 hx1 (Nat.le_refl _) HX0.out.lt hne2
      have HXF := Lib.hid hxf
      have HRF := Lib.hid hrf
      clear hxf hrf
      unfold exprC
      go_wp2_with fail
      refine bodyPost_ret (res_expr rfl _ _ w.heap.size _ _ _ _ rfl HXF.out) rfl ?_
      exact HRF.out
  rw [if_neg k1]
  have n1 : (kd == 1) = false := by simpa using k1
  by_cases k2 : kd = 2
  · subst k2
    rw [if_pos rfl]
    have SUBF := Lib.hid (HLF.out 1 nm [])
    obtain ⟨r, hr⟩ : ∃ r, r = leafR 1 nm [] s := ⟨_, rfl⟩
    rw [← hr] at SUBF ⊢
    clear hr HWD HLF HIS HLS HGR HWR e4591 e4540
    go_enter Tryz.func128, Tryz.ntmps128
    go_wp2_with fail
    refine HH.out.mono ?_
    rintro e w0 ⟨rfl, b0⟩
    have b2 := b0.alloc b0.size (.cells #[.int .i64 2, .string (S tx), .int .i64 nm, .int .i64 (q0 : Int)] 79)
    have SUB := Lib.hid (SUBF.out _ (H.out.below b2))
    have HO0 := Lib.hid (HO.out.trans (Only.of_below (b := b) b2))
    have HX0 := Lib.hid (laterB HX.out b2)
    clear b0 b2 H HT HC HO HX HH SUBF
    go_wp2_with fail
    refine SUB.out.mono ?_
    cases r with
    | bad er a =>
      rintro e w1 ⟨o1, rfl⟩
      have HO := Lib.hid (HO0.out.trans o1)
      clear o1
      unfold panS
      go_wp2_with fail
      exact ⟨rfl, HO.out, rfl⟩
    | ok x s2 =>
      rintro e w1 ⟨o1, q, c, rfl, hfa, h1⟩
      have hx1 := HX0.out.keep o1.kept hne1
      have q0 := hx1.c0
      have q1 := hx1.c1
      have q2 := hx1.c2
      have q3 := hx1.c3
      have fr := hx1.fz
      obtain ⟨hxf, hrf⟩ := resP_box HO0.out o1 hfa h1 hx1 (Nat.le_refl _) HX0.out.lt hne2
      have HXF := Lib.hid hxf
      have HRF := Lib.hid hrf
      clear hxf hrf
      unfold exprC
      go_wp2_with fail
      refine bodyPost_ret (res_expr rfl _ _ w.heap.size _ _ _ _ rfl HXF.out) rfl ?_
      exact HRF.out
  rw [if_neg k2]
  have n2 : (kd == 2) = false := by simpa using k2
  by_cases k3 : kd = 3
  · subst k3
    rw [if_pos rfl]
    have hsz : (S tx).size ≤ 281474976710656 := by have h64 : tx.length ≤ 64 := HTS.out.text rfl; rw [S_size]; omega
    have HCL := Lib.hid (fun W => strClone_any (S tx) hsz W)
    have SUBF := Lib.hid (HLF.out 2 0 tx)
    obtain ⟨r, hr⟩ : ∃ r, r = leafR 2 0 tx s := ⟨_, rfl⟩
    rw [← hr] at SUBF ⊢
    clear hr HWD HLF HIS HLS HGR HWR e4591 e4540 hsz
    go_enter Tryz.func128, Tryz.ntmps128
    go_wp2_with fail
    refine HH.out.mono ?_
    rintro e w0 ⟨rfl, b0⟩
    have b2 := b0.alloc b0.size (.cells #[.int .i64 3, .string (S tx), .int .i64 nm, .int .i64 (q0 : Int)] 79)
    have HC2 := Lib.hid (HCL.out (w0.alloc (.cells #[.int .i64 3, .string (S tx), .int .i64 nm, .int .i64 (q0 : Int)] 79)))
    have HB2 := Lib.hid b2
    clear b0 b2
    go_wp2_with fail
    refine HC2.out.mono ?_
    rintro e w3 ⟨rfl, b3⟩
    have b4 := HB2.out.trans (b3.mono HB2.out.size)
    have SUB := Lib.hid (SUBF.out w3 (H.out.below b4))
    have HO0 := Lib.hid (HO.out.trans (Only.of_below (b := b) b4))
    have HX0 := Lib.hid (laterB HX.out b4)
    clear b3 b4 H HT HC HO HX HH SUBF
    go_wp2_with fail
    refine SUB.out.mono ?_
    cases r with
    | bad er a =>
      rintro e w1 ⟨o1, rfl⟩
      have HO := Lib.hid (HO0.out.trans o1)
      clear o1
      unfold panS
      go_wp2_with fail
      exact ⟨rfl, HO.out, rfl⟩
    | ok x s2 =>
      rintro e w1 ⟨o1, q, c, rfl, hfa, h1⟩
      have hx1 := HX0.out.keep o1.kept hne1
      have q0 := hx1.c0
      have q1 := hx1.c1
      have q2 := hx1.c2
      have q3 := hx1.c3
      have fr := hx1.fz
      obtain ⟨hxf, hrf⟩ := resP_box HO0.out o1 hfa h1 hx1 (Nat.le_refl _) HX0.out.lt hne2
      have HXF := Lib.hid hxf
      have HRF := Lib.hid hrf
      clear hxf hrf
      unfold exprC
      go_wp2_with fail
      refine bodyPost_ret (res_expr rfl _ _ w.heap.size _ _ _ _ rfl HXF.out) rfl ?_
      exact HRF.out
  rw [if_neg k3]
  have n3 : (kd == 3) = false := by simpa using k3
  by_cases k4 : kd = 4
  · subst k4
    rw [if_pos rfl]
    have hsz : (S tx).size ≤ 281474976710656 := by have h24 := nameS_len (HTS.out.name (.inr rfl)); simp only at h24; rw [S_size]; omega
    have HCL := Lib.hid (fun W => strClone_any (S tx) hsz W)
    have SUBF := Lib.hid (HLF.out 4 0 tx)
    obtain ⟨r, hr⟩ : ∃ r, r = leafR 4 0 tx s := ⟨_, rfl⟩
    rw [← hr] at SUBF ⊢
    clear hr HWD HLF HIS HLS HGR HWR e4591 e4540 hsz
    go_enter Tryz.func128, Tryz.ntmps128
    go_wp2_with fail
    refine HH.out.mono ?_
    rintro e w0 ⟨rfl, b0⟩
    have b2 := b0.alloc b0.size (.cells #[.int .i64 4, .string (S tx), .int .i64 nm, .int .i64 (q0 : Int)] 79)
    have HC2 := Lib.hid (HCL.out (w0.alloc (.cells #[.int .i64 4, .string (S tx), .int .i64 nm, .int .i64 (q0 : Int)] 79)))
    have HB2 := Lib.hid b2
    clear b0 b2
    go_wp2_with fail
    refine HC2.out.mono ?_
    rintro e w3 ⟨rfl, b3⟩
    have b4 := HB2.out.trans (b3.mono HB2.out.size)
    have SUB := Lib.hid (SUBF.out w3 (H.out.below b4))
    have HO0 := Lib.hid (HO.out.trans (Only.of_below (b := b) b4))
    have HX0 := Lib.hid (laterB HX.out b4)
    clear b3 b4 H HT HC HO HX HH SUBF
    go_wp2_with fail
    refine SUB.out.mono ?_
    cases r with
    | bad er a =>
      rintro e w1 ⟨o1, rfl⟩
      have HO := Lib.hid (HO0.out.trans o1)
      clear o1
      unfold panS
      go_wp2_with fail
      exact ⟨rfl, HO.out, rfl⟩
    | ok x s2 =>
      rintro e w1 ⟨o1, q, c, rfl, hfa, h1⟩
      have hx1 := HX0.out.keep o1.kept hne1
      have q0 := hx1.c0
      have q1 := hx1.c1
      have q2 := hx1.c2
      have q3 := hx1.c3
      have fr := hx1.fz
      obtain ⟨hxf, hrf⟩ := resP_box HO0.out o1 hfa h1 hx1 (Nat.le_refl _) HX0.out.lt hne2
      have HXF := Lib.hid hxf
      have HRF := Lib.hid hrf
      clear hxf hrf
      unfold exprC
      go_wp2_with fail
      refine bodyPost_ret (res_expr rfl _ _ w.heap.size _ _ _ _ rfl HXF.out) rfl ?_
      exact HRF.out
  rw [if_neg k4]
  have n4 : (kd == 4) = false := by simpa using k4
  have I91 := Lib.hid (HIS.out ⟨#[91]⟩)
  have I40 := Lib.hid (HIS.out ⟨#[40]⟩)
  rw [show isS ts s.at_ ((⟨#[91]⟩ : ByteArray).data.toList) = i91 from hi91] at I91
  rw [show isS ts s.at_ ((⟨#[40]⟩ : ByteArray).data.toList) = i40 from hi40] at I40
  clear HIS HWD HLF
  cases i91 with
  | true =>
    have h40 : i40 = false := by
      rw [e4540]
      have h2 : (tx == ([91] : List UInt8)) = true := by cases h3 : (tx == ([91] : List UInt8)) with
        | true => rfl
        | false => rw [h3, Bool.and_false] at e4591; cases e4591
      have h3 : tx = [91] := by simpa using h2
      rw [h3]; simp
    subst h40
    rw [if_neg (by decide), if_pos rfl]
    have SUBF := Lib.hid (HLS.out rfl)
    obtain ⟨r, hr⟩ : ∃ r, r = (enterR s fun s1 => elemsR rec ts 18 .nil s1) := ⟨_, rfl⟩
    rw [← hr] at SUBF ⊢
    clear hr HLS HGR HWR I40 e4591 e4540
    go_enter Tryz.func128, Tryz.ntmps128
    go_wp2_with fail
    refine HH.out.mono ?_
    rintro e w0 ⟨rfl, b0⟩
    have b2 := b0.alloc b0.size (.cells #[.int .i64 kd, .string (S tx), .int .i64 nm, .int .i64 (q0 : Int)] 79)
    have HI2 := Lib.hid (I91.out _ (H.out.below b2) (HT.out.below b2))
    have HB2 := Lib.hid b2
    clear b0 b2
    go_wp2_with fail
    refine HI2.out.mono ?_
    rintro e w3 ⟨rfl, b3⟩
    have b4 := HB2.out.trans (b3.mono HB2.out.size)
    have SUB := Lib.hid (SUBF.out _ (H.out.below b4) (HT.out.below b4) (HC.out.keep (Kept.of_below (ok := fun _ => True) b4) trivial))
    have HO0 := Lib.hid (HO.out.trans (Only.of_below (b := b) b4))
    have HX0 := Lib.hid (laterB HX.out b4)
    clear b3 b4 H HT HC HO HX HH SUBF
    go_wp2_with fail
    refine SUB.out.mono ?_
    cases r with
    | bad er a =>
      rintro e w1 ⟨o1, rfl⟩
      have HO := Lib.hid (HO0.out.trans o1)
      clear o1
      unfold panS
      go_wp2_with fail
      exact ⟨rfl, HO.out, rfl⟩
    | ok x s2 =>
      rintro e w1 ⟨o1, q, c, rfl, hfa, h1⟩
      have hx1 := HX0.out.keep o1.kept hne1
      have q0 := hx1.c0
      have q1 := hx1.c1
      have q2 := hx1.c2
      have q3 := hx1.c3
      have fr := hx1.fz
      obtain ⟨hxf, hrf⟩ := resP_box HO0.out o1 hfa h1 hx1 (Nat.le_refl _) HX0.out.lt hne2
      have HXF := Lib.hid hxf
      have HRF := Lib.hid hrf
      clear hxf hrf
      unfold exprC
      go_wp2_with fail
      refine bodyPost_ret (res_expr rfl _ _ w.heap.size _ _ _ _ rfl HXF.out) rfl ?_
      exact HRF.out
  | false =>
    cases i40 with
    | true =>
      rw [if_pos rfl]
      have SUBF := Lib.hid (HGR.out rfl)
      obtain ⟨r, hr⟩ : ∃ r, r = groupR rec ts s := ⟨_, rfl⟩
      rw [← hr] at SUBF ⊢
      clear hr HLS HGR HWR e4591 e4540
      go_enter Tryz.func128, Tryz.ntmps128
      go_wp2_with fail
      refine HH.out.mono ?_
      rintro e w0 ⟨rfl, b0⟩
      have b2 := b0.alloc b0.size (.cells #[.int .i64 kd, .string (S tx), .int .i64 nm, .int .i64 (q0 : Int)] 79)
      have HI2 := Lib.hid (I91.out _ (H.out.below b2) (HT.out.below b2))
      have HB2 := Lib.hid b2
      clear b0 b2
      go_wp2_with fail
      refine HI2.out.mono ?_
      rintro e w3 ⟨rfl, b3⟩
      have b4 := HB2.out.trans (b3.mono HB2.out.size)
      have HI4 := Lib.hid (I40.out _ (H.out.below b4) (HT.out.below b4))
      have HB4 := Lib.hid b4
      clear b3 b4
      go_wp2_with fail
      refine HI4.out.mono ?_
      rintro e w5 ⟨rfl, b3⟩
      have b4 := HB4.out.trans (b3.mono HB4.out.size)
      have SUB := Lib.hid (SUBF.out _ (H.out.below b4) (HT.out.below b4) (HC.out.keep (Kept.of_below (ok := fun _ => True) b4) trivial))
      have HO0 := Lib.hid (HO.out.trans (Only.of_below (b := b) b4))
      have HX0 := Lib.hid (laterB HX.out b4)
      clear b3 b4 H HT HC HO HX HH SUBF
      go_wp2_with fail
      refine SUB.out.mono ?_
      cases r with
      | bad er a =>
        rintro e w1 ⟨o1, rfl⟩
        have HO := Lib.hid (HO0.out.trans o1)
        clear o1
        unfold panS
        go_wp2_with fail
        exact ⟨rfl, HO.out, rfl⟩
      | ok x s2 =>
        rintro e w1 ⟨o1, q, c, rfl, hfa, h1⟩
        have hx1 := HX0.out.keep o1.kept hne1
        have q0 := hx1.c0
        have q1 := hx1.c1
        have q2 := hx1.c2
        have q3 := hx1.c3
        have fr := hx1.fz
        obtain ⟨hxf, hrf⟩ := resP_box HO0.out o1 hfa h1 hx1 (Nat.le_refl _) HX0.out.lt hne2
        have HXF := Lib.hid hxf
        have HRF := Lib.hid hrf
        clear hxf hrf
        unfold exprC
        go_wp2_with fail
        refine bodyPost_ret (res_expr rfl _ _ w.heap.size _ _ _ _ rfl HXF.out) rfl ?_
        exact HRF.out
    | false =>
      rw [if_neg (by decide), if_neg (by decide)]
      clear HLS HGR e4591 e4540
      go_enter Tryz.func128, Tryz.ntmps128
      go_wp2_with fail
      refine HH.out.mono ?_
      rintro e w0 ⟨rfl, b0⟩
      have b2 := b0.alloc b0.size (.cells #[.int .i64 kd, .string (S tx), .int .i64 nm, .int .i64 (q0 : Int)] 79)
      have HI2 := Lib.hid (I91.out _ (H.out.below b2) (HT.out.below b2))
      have HB2 := Lib.hid b2
      clear b0 b2
      go_wp2_with fail
      refine HI2.out.mono ?_
      rintro e w3 ⟨rfl, b3⟩
      have b4 := HB2.out.trans (b3.mono HB2.out.size)
      have HI4 := Lib.hid (I40.out _ (H.out.below b4) (HT.out.below b4))
      have HB4 := Lib.hid b4
      clear b3 b4
      go_wp2_with fail
      refine HI4.out.mono ?_
      rintro e w5 ⟨rfl, b3⟩
      have b4 := HB4.out.trans (b3.mono HB4.out.size)
      have HW5 := Lib.hid (HWR.out _ (H.out.below b4))
      have HO5 := Lib.hid (HO.out.trans (Only.of_below (b := b) b4))
      clear b3 b4
      go_wp2_with fail
      refine HW5.out.mono ?_
      rintro e w6 ⟨rfl, b6⟩
      have HO6 := Lib.hid (HO5.out.trans (Only.of_below (b := b) b6))
      clear b6
      go_wp2_with fail
      exact ⟨rfl, HO6.out, rfl⟩
end Go.Proofs.YtlmmfhbdebfgkaaGreatDoor.Ex
