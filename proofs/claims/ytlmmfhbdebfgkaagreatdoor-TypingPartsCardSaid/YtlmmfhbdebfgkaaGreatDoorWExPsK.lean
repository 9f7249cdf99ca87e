/-
  ExPsK.
-/
import Derived.Test.YtlmmfhbdebfgkaaGreatDoorWExPsEQ
set_option linter.unusedVariables false
set_option linter.unusedSimpArgs false
set_option maxRecDepth 100000
set_option maxHeartbeats 8000000
namespace Go.Proofs.YtlmmfhbdebfgkaaGreatDoor.Ex
open Go.RowKit
open Lx Va
theorem Bc.keep {ok : Nat → Prop} {w w' : World} {H : Nat} {c : Con} (h : Bc w H c) (k : Kept ok w w') (hH : ok H) : Bc w' H c := (k.block H hH (Array.getElem?_eq_some_iff.1 h).1).trans h
theorem args_step (rec : St → R) (l : List TA) (op : Int) (k : Nat) (acc : F) (s : St) : argsR rec l op (k + 1) acc s = if isS l s.at_ [44] = true then (rec ⟨s.at_ + 1, s.n, s.open_⟩).then fun y s2 => argsR rec l op k (acc.snoc y) s2 else .bad 25 s.at_ := rfl
theorem args_end (rec : St → R) (l : List TA) (op : Int) (acc : F) (s : St) : argsR rec l op 0 acc s = if isS l s.at_ [41] = true then .ok ⟨op, 0, [], acc⟩ ⟨s.at_ + 1, s.n, s.open_ - 1⟩ else .bad 25 s.at_ := rfl
theorem pcall_any (b g cap : Nat) (ts : List TA) (hE : Env b g ts) (s : St) (w : World) (h : Psr w b g cap ts.length s.at_ s.n s.open_) (ht : TsAt w g ts) (hC : ConsAt w) (hs : StOk ts s) (rec : St → R) (hrk : RecOk ts rec) (hk1 : (tk ts s.at_).kind = 1)
    (HR : RecP b g cap ts (s.open_ + 1) rec) (K : Con) (n : Nat) (hn : K.operands = n) (hn1 : 1 ≤ n) (hn2 : n ≤ 2) :
    Calls Tryz.prog 206 #[.pointer (some ⟨b, 0, none⟩), .agg #[.string (S K.word), .int .i64 K.op, .int .i64 K.level, .int .i64 K.operands, .bool K.turned]] w fun e w' => ResP b g cap ts w (callR rec ts K.op n s) e w' := by
  have HN := Lib.hid hn
  clear hn
  have hnx := hE.ends.next hs.at_ (by rw [hk1]; decide)
  have hlt := h.lt
  have hgl := ht.lt
  have hcl := hC.2
  obtain ⟨W1, hW1⟩ : ∃ W1, W1 = ((w.setCell ⟨b, 1, none⟩ (.int .i64 ((s.at_ : Int) + 1))).alloc (.cells #[.string (S K.word), .int .i64 K.op, .int .i64 K.level, .int .i64 K.operands, .bool K.turned] 96)).alloc (.cells #[.int .i64 0, .int .i64 0, .string ⟨#[]⟩, .slice none 0 0] 24) := ⟨_, rfl⟩
  have o0 := Only.set b w 1 (.int .i64 ((s.at_ : Int) + 1))
  have ba := ((Below.refl _ (w.setCell ⟨b, 1, none⟩ (.int .i64 ((s.at_ : Int) + 1)))).alloc (Nat.le_refl _) (.cells #[.string (S K.word), .int .i64 K.op, .int .i64 K.level, .int .i64 K.operands, .bool K.turned] 96)).alloc (by simp) (.cells #[.int .i64 0, .int .i64 0, .string ⟨#[]⟩, .slice none 0 0] 24)
  have h1 : Psr W1 b g cap ts.length ((s.at_ : Int) + 1) s.n s.open_ := by rw [hW1]; exact (h.set1 _).below ba
  have ht1 : TsAt W1 g ts := by rw [hW1]; exact (o0.ts ht hE.ne).below ba
  have hc1 : ConsAt W1 := by rw [hW1]; exact (hC.only o0 hE.con).keep (Kept.of_below (ok := fun _ => True) ba) trivial
  have hx1 : Bx W1 (w.heap.size + 1) (.int .i64 0) (.int .i64 0) (.string ⟨#[]⟩) (.slice none 0 0) := by rw [hW1]; exact new_box _ _ _ _ (by simp)
  have hk1b : Bc W1 w.heap.size K := by rw [hW1]; exact (((Below.refl _ _).alloc (Nat.le_refl _) _).block _ (by simp)).trans (new_box (w.setCell ⟨b, 1, none⟩ (.int .i64 ((s.at_ : Int) + 1))) _ _ w.heap.size (by simp))
  have ho1 : Only b w W1 := by rw [hW1]; exact o0.trans (Only.of_below ba)
  have hz1 : w.heap.size + 2 ≤ W1.heap.size := by rw [hW1]; simp
  have c1 := h.c1
  have fz := h.fz
  have HW1 := Lib.hid hW1
  have HO1 := Lib.hid ho1
  have HX1 := Lib.hid hx1
  have HK1 := Lib.hid hk1b
  have HT1 := Lib.hid ht1
  have HC1 := Lib.hid hc1
  have H1 := Lib.hid h1
  have HZ1 := Lib.hid hz1
  have HEE := Lib.hid hE
  have HRK := Lib.hid hrk
  have HRR := Lib.hid HR
  have hop := hs.op
  have hsn := hs.n
  have hni : (s.at_ : Int) + 1 < 8001 := by have := hE.len; omega
  have hne1 : ¬ w.heap.size + 1 = b := by omega
  have hne0 : ¬ w.heap.size = b := by omega
  have hne2 : ¬ b = w.heap.size + 1 := by omega
  have HI := Lib.hid (pis_any b g cap (s.at_ + 1) s.n s.open_ ts ⟨#[40]⟩ W1 h1 ht1 hnx hE.len (hE.toks _))
  obtain ⟨FIN, hF0⟩ : ∃ FIN, FIN = callR rec ts K.op n s := ⟨_, rfl⟩
  rw [← hF0]
  unfold callR at hF0
  clear h ht hC hs o0 ba hW1 h1 ht1 hc1 hx1 hk1b ho1 hz1 hE hrk hk1 HR
  cases h40 : isS ts (s.at_ + 1) [40] with
  | false =>
    rw [show isS ts (s.at_ + 1) ((⟨#[40]⟩ : ByteArray).data.toList) = false from h40] at HI
    rw [h40, if_neg (by decide)] at hF0
    subst hF0
    have HWR := Lib.hid (fun w2 (k : Psr w2 b g cap ts.length ((s.at_ + 1 : Nat) : Int) s.n s.open_) => pwrong_any b g cap ts.length ((s.at_ + 1 : Nat) : Int) s.n s.open_ 25 w2 k)
    clear hnx hop hsn HRK HRR
    go_enter Tryz.func206, Tryz.ntmps206
    go_wp2_with fail
    rw [← HW1.out]
    refine HI.out.mono ?_
    rintro e w2 ⟨rfl, b2⟩
    have HW2 := Lib.hid (HWR.out w2 (H1.out.below b2))
    have HO2 := Lib.hid (HO1.out.trans (Only.of_below (b := b) b2))
    clear b2 c1 fz
    go_wp2_with fail
    refine HW2.out.mono ?_
    rintro e w3 ⟨rfl, b3⟩
    have HO3 := Lib.hid (HO2.out.trans (Only.of_below (b := b) b3))
    clear b3
    go_wp2_with fail
    exact ⟨rfl, HO3.out, rfl⟩
  | true =>
  rw [show isS ts (s.at_ + 1) ((⟨#[40]⟩ : ByteArray).data.toList) = true from h40] at HI
  rw [h40, if_pos rfl] at hF0
  have hnx2 := HEE.out.ends.next hnx (isS_ne h40)
  unfold enterR at hF0
  by_cases h20 : s.open_ = 20
  · rw [if_pos h20] at hF0
    subst hF0
    have HP := Lib.hid (fun w2 (k : Psr w2 b g cap ts.length ((s.at_ + 1 : Nat) : Int) s.n s.open_) => penter_bad b g cap (s.at_ + 1) s.n ts.length w2 (by rw [h20] at k; exact k))
    clear hnx hnx2 hop hsn HRK HRR h20 h40
    go_enter Tryz.func206, Tryz.ntmps206
    go_wp2_with fail
    rw [← HW1.out]
    refine HI.out.mono ?_
    rintro e w2 ⟨rfl, b2⟩
    have HP2 := Lib.hid (HP.out w2 (H1.out.below b2))
    have HO2 := Lib.hid (HO1.out.trans (Only.of_below (b := b) b2))
    clear b2 c1 fz
    go_wp2_with fail
    refine HP2.out.mono ?_
    rintro e w3 ⟨rfl, b3⟩
    have HO3 := Lib.hid (HO2.out.trans (Only.of_below (b := b) b3))
    clear b3
    unfold panS
    go_wp2_with fail
    exact ⟨rfl, HO3.out, rfl⟩
  rw [if_neg h20] at hF0
  have HP := Lib.hid (fun w2 (k : Psr w2 b g cap ts.length ((s.at_ + 1 : Nat) : Int) s.n s.open_) => penter_ok b g cap (s.at_ + 1) s.n s.open_ ts.length w2 k (by omega))
  by_cases h200 : s.n = 200
  · rw [if_pos h200] at hF0
    subst hF0
    have HQ := Lib.hid (fun w1 (k : Psr w1 b g cap ts.length ((s.at_ + 1 : Nat) : Int) s.n ((s.open_ : Int) + 1)) => pproduce_bad b g cap (s.at_ + 1) ((s.open_ : Int) + 1) ts.length w1 (by rw [h200] at k; exact k))
    clear hnx hnx2 hop hsn HRK HRR h20 h40 h200
    go_enter Tryz.func206, Tryz.ntmps206
    go_wp2_with fail
    rw [← HW1.out]
    refine HI.out.mono ?_
    rintro e w2 ⟨rfl, b2⟩
    have HP2 := Lib.hid (HP.out w2 (H1.out.below b2))
    have HO2 := Lib.hid (HO1.out.trans (Only.of_below (b := b) b2))
    clear b2 c1 fz
    go_wp2_with fail
    refine HP2.out.mono ?_
    rintro e w3 ⟨rfl, o3, h3⟩
    have HQ3 := Lib.hid (HQ.out w3 h3)
    have HO3 := Lib.hid (HO2.out.trans o3)
    clear o3 h3
    go_wp2_with fail
    refine HQ3.out.mono ?_
    rintro e w4 ⟨rfl, b4⟩
    have HO4 := Lib.hid (HO3.out.trans (Only.of_below (b := b) b4))
    clear b4
    unfold panS
    go_wp2_with fail
    exact ⟨rfl, HO4.out, rfl⟩
  rw [if_neg h200] at hF0
  have HQ := Lib.hid (fun w1 (k : Psr w1 b g cap ts.length ((s.at_ + 1 : Nat) : Int) s.n ((s.open_ : Int) + 1)) => pproduce_ok b g cap (s.at_ + 1) ((s.open_ : Int) + 1) s.n ts.length w1 k (by omega))
  have hS1 : StOk ts ⟨s.at_ + 2, s.n + 1, s.open_ + 1⟩ := ⟨hnx2, by show s.n + 1 ≤ 200; omega, by show s.open_ + 1 ≤ 20; omega⟩
  have HS1 := Lib.hid hS1
  have HF0 := Lib.hid (show FIN = (rec ⟨s.at_ + 2, s.n + 1, s.open_ + 1⟩).then fun y s2 => argsR rec ts K.op (n - 1) (F.nil.snoc y) s2 from hF0)
  have hop1 : s.open_ + 1 ≤ 20 := by omega
  clear hF0 hnx hnx2 hop hsn h20 h40 h200
  go_enter Tryz.func206, Tryz.ntmps206
  go_wp2_with fail
  rw [← HW1.out]
  refine HI.out.mono ?_
  rintro e w2 ⟨rfl, b2⟩
  have HP2 := Lib.hid (HP.out w2 (H1.out.below b2))
  have HO2 := Lib.hid (HO1.out.trans (Only.of_below (b := b) b2))
  have HX2 := Lib.hid (laterB HX1.out b2)
  have HK2 := Lib.hid (HK1.out.keep (Kept.of_below (ok := fun _ => True) b2) trivial)
  have HT2 := Lib.hid (HT1.out.below b2)
  have HC2 := Lib.hid (HC1.out.keep (Kept.of_below (ok := fun _ => True) b2) trivial)
  have HZ2 := Lib.hid (Nat.le_trans HZ1.out b2.size)
  clear b2 c1 fz
  go_wp2_with fail
  refine HP2.out.mono ?_
  rintro e w3 ⟨rfl, o3, h3⟩
  have HQ3 := Lib.hid (HQ.out w3 h3)
  have HO3 := Lib.hid (HO2.out.trans o3)
  have HX3 := Lib.hid (HX2.out.keep o3.kept hne1)
  have HK3 := Lib.hid (HK2.out.keep o3.kept hne0)
  have HT3 := Lib.hid (o3.ts HT2.out HEE.out.ne)
  have HC3 := Lib.hid (HC2.out.only o3 HEE.out.con)
  have HZ3 := Lib.hid (Nat.le_trans HZ2.out o3.size)
  clear o3 h3
  go_wp2_with fail
  refine HQ3.out.mono ?_
  rintro e w4 ⟨rfl, o4, h4⟩
  have c1 := h4.c1
  have fz := h4.fz
  have o5 := o4.set' 1 (.int .i64 (((s.at_ + 1 : Nat) : Int) + 1))
  obtain ⟨W5, hW5⟩ : ∃ W5, W5 = w4.setCell ⟨b, 1, none⟩ (.int .i64 (((s.at_ + 1 : Nat) : Int) + 1)) := ⟨_, rfl⟩
  have h5 := h4.set1 (((s.at_ + 1 : Nat) : Int) + 1)
  rw [← hW5] at h5 o5
  have ht5 := o5.ts HT3.out HEE.out.ne
  have hc5 := HC3.out.only o5 HEE.out.con
  have HO5 := Lib.hid (HO3.out.trans o5)
  have HX5 := Lib.hid (HX3.out.keep o5.kept hne1)
  have HK5 := Lib.hid (HK3.out.keep o5.kept hne0)
  have HT5 := Lib.hid ht5
  have HC5 := Lib.hid hc5
  have HZ5 := Lib.hid (Nat.le_trans HZ3.out o5.size)
  have HLV := Lib.hid (HRR.out ⟨s.at_ + 2, s.n + 1, s.open_ + 1⟩ HS1.out rfl W5 h5 ht5 hc5)
  have HW5 := Lib.hid hW5
  clear o4 h4 o5 h5 ht5 hc5 hW5 HW1 HI
  rw [show (((s.at_ + 1 : Nat) : Int)) = (s.at_ : Int) + 1 from rfl] at c1 HW5
  go_wp2_with fail
  rw [← HW5.out]
  refine HLV.out.mono ?_
  clear c1 fz
  cases hr : rec ⟨s.at_ + 2, s.n + 1, s.open_ + 1⟩ with
  | bad er a =>
    rintro e w6 ⟨o6, rfl⟩
    have HO6 := Lib.hid (HO5.out.trans o6)
    have e0 : FIN = .bad er a := by rw [HF0.out, hr]; rfl
    subst e0
    clear o6
    unfold panS
    go_wp2_with fail
    exact ⟨rfl, HO6.out, rfl⟩
  | ok x s2 =>
    rintro e w6 ⟨o6, q, c, rfl, hfa, h6⟩
    have ha := HRK.out _ x s2 HS1.out hr
    have HFN := Lib.hid (show argsR rec ts K.op (n - [(⟨x, q, c⟩ : X)].length) (rowF [⟨x, q, c⟩]) s2 = FIN by rw [HF0.out, hr]; rfl)
    have hxr := XR.one o6 x q c hfa
    have hba := (Below.refl w6.heap.size w6).alloc (Nat.le_refl _) (.cells #[.int .i64 x.op, .int .i64 x.num, .string (S x.text), .slice q x.args.len c] 24)
    obtain ⟨W6, hW6⟩ : ∃ W6, W6 = w6.alloc (.cells #[.int .i64 x.op, .int .i64 x.num, .string (S x.text), .slice q x.args.len c] 24) := ⟨_, rfl⟩
    have h7 := h6.below hba
    have ht7 := (o6.ts HT5.out HEE.out.ne).below hba
    have hc7 := (HC5.out.only o6 HEE.out.con).keep (Kept.of_below (ok := fun _ => True) hba) trivial
    have ho7 := (HO5.out.trans o6).trans (Only.of_below (b := b) hba)
    have hx7 := laterB (HX5.out.keep o6.kept hne1) hba
    have hk7 := (HK5.out.keep o6.kept hne0).keep (Kept.of_below (ok := fun _ => True) hba) trivial
    have hz7 := Nat.le_trans o6.size hba.size
    rw [← hW6] at hxr h7 ht7 hc7 ho7 hx7 hk7 hz7
    have HXR := Lib.hid hxr
    have H7 := Lib.hid h7
    have HT7 := Lib.hid ht7
    have HC7 := Lib.hid hc7
    have HO7 := Lib.hid ho7
    have HX7 := Lib.hid hx7
    have HK7 := Lib.hid hk7
    have HZ7 := Lib.hid hz7
    have HS7 := Lib.hid (show StOk ts s2 from ha.ok hS1.op)
    have HP7 := Lib.hid (show s2.open_ = s.open_ + 1 from ha.op)
    have HW6 := Lib.hid hW6
    have hBl : b < W5.heap.size := by have := HZ5.out; omega
    have hBg : g < W5.heap.size := by have := HZ5.out; omega
    have hBcc : 0 < W5.heap.size := by have := HZ5.out; omega
    have hB0 : w.heap.size + 1 < W5.heap.size := by have := HZ5.out; omega
    clear o6 hfa h6 hr ha hxr hba hW6 h7 ht7 hc7 ho7 hx7 hk7 hz7
    unfold exprC
    go_wp2_with fail
    rw [← HW6.out]
    clear HW6
    go_loopw [5] (fun lv wr => ∃ (xs : List X) (s2 : St), XR wr W5.heap.size lv xs ∧ 1 ≤ xs.length ∧ xs.length ≤ n ∧ Psr wr b g cap ts.length s2.at_ s2.n s2.open_ ∧ StOk ts s2 ∧ s2.open_ = s.open_ + 1 ∧ TsAt wr g ts ∧ ConsAt wr ∧ Only b w wr ∧ Bx wr (w.heap.size + 1) (.int .i64 0) (.int .i64 0) (.string ⟨#[]⟩) (.slice none 0 0) ∧ Bc wr w.heap.size K ∧ W5.heap.size ≤ wr.heap.size ∧ argsR rec ts K.op (n - xs.length) (rowF xs) s2 = FIN) (fun lv _ => 3 - sliceLen lv)
    case atStart => exact ⟨_, s2, HXR.out, by simp, by simpa using hn1, H7.out, HS7.out, HP7.out, HT7.out, HC7.out, HO7.out, HX7.out, HK7.out, HZ7.out, HFN.out⟩
    case round =>
      obtain ⟨xs, s3, hxr, hl1, hln, hp, hst, hop3, htt, hcc, hoo, hbx, hbc, hzz, hfin⟩ := hrel
      obtain ⟨gr, cr, rfl⟩ := Go.Joins.ownsRow_form hxr.own (by omega)
      have HX3b := Lib.hid hxr
      have HP3b := Lib.hid hp
      have HS3b := Lib.hid hst
      have HOP3 := Lib.hid hop3
      have HT3b := Lib.hid htt
      have HC3b := Lib.hid hcc
      have HO3b := Lib.hid hoo
      have HBX := Lib.hid hbx
      have HBC := Lib.hid hbc
      have HZZ := Lib.hid hzz
      have hai : (s3.at_ : Int) < 8001 := by have := hst.at_; have := HEE.out.len; omega
      have k3 : wr.cell? ⟨w.heap.size, 3, none⟩ = some (.int .i64 K.operands) := cell_of_row wr w.heap.size 3 _ _ (0, 0) hbc
      rw [HN.out] at k3
      by_cases hln2 : xs.length < n
      · have hli : (xs.length : Int) < (n : Int) := by omega
        rw [show n - xs.length = (n - (xs.length + 1)) + 1 by omega, args_step] at hfin
        cases h44 : isS ts s3.at_ [44] with
        | false =>
          rw [h44, if_neg (by decide)] at hfin
          subst hfin
          have HPS := Lib.hid (ppass_bad b g cap s3.at_ s3.n s3.open_ ts ⟨#[44]⟩ wr hp htt hst.at_ HEE.out.len (HEE.out.toks _) h44)
          clear hxr hp hst hop3 htt hcc hoo hbx hbc hzz h44
          go_wp2_with fail
          refine HPS.out.mono ?_
          rintro e w8 ⟨rfl, b8⟩
          have HO8 := Lib.hid (HO3b.out.trans (Only.of_below (b := b) b8))
          clear b8
          unfold panS
          go_wp2_with fail
          exact ⟨rfl, HO8.out, rfl⟩
        | true =>
          rw [h44, if_pos rfl] at hfin
          have hnx := HEE.out.ends.next hst.at_ (isS_ne h44)
          have HS5 := Lib.hid (show StOk ts ⟨s3.at_ + 1, s3.n, s3.open_⟩ from ⟨hnx, hst.n, hst.op⟩)
          have HPS := Lib.hid (ppass_ok b g cap s3.at_ s3.n s3.open_ ts ⟨#[44]⟩ wr hp htt hst.at_ HEE.out.len (HEE.out.toks _) h44)
          have HRC := Lib.hid (fun w5 (k : Psr w5 b g cap ts.length ((s3.at_ + 1 : Nat) : Int) s3.n s3.open_) (kt : TsAt w5 g ts) (kc : ConsAt w5) => HRR.out ⟨s3.at_ + 1, s3.n, s3.open_⟩ HS5.out hop3 w5 k kt kc)
          have HGL := Lib.hid (show gr < wr.heap.size ∧ W5.heap.size ≤ gr by
            rcases hxr.own.2 with ⟨_, h0⟩ | ⟨g2, cap2, cur, e, hB, hg, _⟩
            · omega
            · injection e with e _ _
              injection e with e
              injection e with e _ _
              rw [e]; exact ⟨(Array.getElem?_eq_some_iff.1 hg).1, hB⟩)
          cases hr3 : rec ⟨s3.at_ + 1, s3.n, s3.open_⟩ with
          | bad er a =>
            rw [hr3] at HRC hfin
            have e0 : FIN = .bad er a := hfin.symm
            subst e0
            clear hxr hp hst hop3 htt hcc hoo hbx hbc hzz h44 hnx hr3 hfin
            go_wp2_with fail
            refine HPS.out.mono ?_
            rintro e w8 ⟨rfl, o8, h8⟩
            have HR8 := Lib.hid (HRC.out w8 h8 (o8.ts HT3b.out HEE.out.ne) (HC3b.out.only o8 HEE.out.con))
            have HO8 := Lib.hid (HO3b.out.trans o8)
            clear o8 h8 k3
            go_wp2_with fail
            refine HR8.out.mono ?_
            rintro e w9 ⟨o9, rfl⟩
            have HO9 := Lib.hid (HO8.out.trans o9)
            clear o9
            unfold panS
            go_wp2_with fail
            exact ⟨rfl, HO9.out, rfl⟩
          | ok y s4 =>
            have ha := HRK.out _ y s4 HS5.out hr3
            rw [hr3] at HRC hfin
            replace hfin : argsR rec ts K.op (n - (xs.length + 1)) ((rowF xs).snoc y) s4 = FIN := hfin
            have HF := Lib.hid (fun (q : Option Addr) (c : Nat) => show argsR rec ts K.op (n - (xs ++ [(⟨y, q, c⟩ : X)]).length) (rowF (xs ++ [⟨y, q, c⟩])) s4 = FIN by
              rw [rowF_snoc, show (xs ++ [(⟨y, q, c⟩ : X)]).length = xs.length + 1 by simp]; exact hfin)
            have HS4 := Lib.hid (show StOk ts s4 from ha.ok hst.op)
            have HP4 := Lib.hid (show s4.open_ = s.open_ + 1 from ha.op.trans hop3)
            clear hxr hp hst hop3 htt hcc hoo hbx hbc hzz h44 hnx hr3 hfin ha
            go_wp2_with fail
            refine HPS.out.mono ?_
            rintro e w8 ⟨rfl, o8, h8⟩
            have HR8 := Lib.hid (HRC.out w8 h8 (o8.ts HT3b.out HEE.out.ne) (HC3b.out.only o8 HEE.out.con))
            have HO8 := Lib.hid (HO3b.out.trans o8)
            have HT8 := Lib.hid (o8.ts HT3b.out HEE.out.ne)
            have HC8 := Lib.hid (HC3b.out.only o8 HEE.out.con)
            have HX8 := Lib.hid (HX3b.out.later (o8.keptB (by show ¬ W5.heap.size ≤ b; omega)))
            have HBX8 := Lib.hid (HBX.out.keep o8.kept hne1)
            have HBC8 := Lib.hid (HBC.out.keep o8.kept hne0)
            have hz8 := Nat.le_trans HZZ.out o8.size
            have hg8 := Nat.lt_of_lt_of_le HGL.out.1 o8.size
            clear o8 h8 k3
            go_wp2_with fail
            refine HR8.out.mono ?_
            rintro e w9 ⟨o9, q, c, rfl, hfa, h9⟩
            have hx9 := HX8.out.later (o9.keptB (by show ¬ W5.heap.size ≤ b; omega))
            obtain ⟨v', w10, hrun, hxr10, hb10, hsz10, hk10⟩ := app_x W5.heap.size (.slice (some ⟨gr, 0, none⟩) xs.length cr) xs w9 hx9 (Nat.le_trans hz8 o9.size) (by omega) ⟨y, q, c⟩ (FAt.mono (fun g2 _ hg => ⟨Nat.le_trans hz8 hg, fun e => by simp [Value.ownBlock] at e; have : w8.heap.size ≤ g2 := hg; omega⟩) _ _ hfa) w9.heap.size rfl
            obtain ⟨g10, c10, rfl⟩ := Go.Joins.ownsRow_form hxr10.own (by simp)
            simp only at hrun
            rw [List.length_append] at hrun
            rw [show (xs ++ [(⟨y, q, c⟩ : X)]).length = xs.length + 1 by simp] at hxr10
            have HRUN := Lib.hid hrun
            clear hrun
            have HX10 := Lib.hid hxr10
            have H10 := Lib.hid (h9.keep (keptB hb10) hBl)
            have HT10 := Lib.hid ((o9.ts HT8.out HEE.out.ne).keep (keptB hb10) hBg)
            have HC10 := Lib.hid ((HC8.out.only o9 HEE.out.con).keep (keptB hb10) hBcc)
            have HO10 := Lib.hid ((HO8.out.trans o9).below_own hb10 (by omega))
            have HBX10 := Lib.hid ((HBX8.out.keep o9.kept hne1).keep (keptB hb10) hB0)
            have HBC10 := Lib.hid ((HBC8.out.keep o9.kept hne0).keep (keptB hb10) (Nat.lt_trans (Nat.lt_succ_self _) hB0))
            have HZ10 := Lib.hid (Nat.le_trans (Nat.le_trans hz8 o9.size) hb10.size)
            have HF10 := Lib.hid (HF.out q c)
            clear o9 hfa h9 hx9 hz8 hg8 hxr10 hb10 hsz10 hk10
            unfold exprC
            go_wp2_with (at_builtin; refine wpList_apx rfl _ _ _ _ rfl rfl rfl _ _ HRUN.out ?_)
            go_wp2_with fail
            go_roundw
            case rel => exact ⟨_, s4, HX10.out, by simp, by simp; omega, H10.out, HS4.out, HP4.out, HT10.out, HC10.out, HO10.out, HBX10.out, HBC10.out, HZ10.out, HF10.out⟩
            case measure => simp [sliceLen]; omega
      · have hli : ¬ (xs.length : Int) < (n : Int) := by omega
        have hxn : n - xs.length = 0 := by omega
        rw [hxn, args_end] at hfin
        cases h41 : isS ts s3.at_ [41] with
        | false =>
          rw [h41, if_neg (by decide)] at hfin
          subst hfin
          have HPS := Lib.hid (pleave_bad b g cap s3.at_ s3.n s3.open_ ts ⟨#[41]⟩ wr hp htt hst.at_ HEE.out.len (HEE.out.toks _) h41)
          clear hxr hp hst hop3 htt hcc hoo hbx hbc hzz h41 hxn
          go_wp2_with fail
          refine HPS.out.mono ?_
          rintro e w8 ⟨rfl, b8⟩
          have HO8 := Lib.hid (HO3b.out.trans (Only.of_below (b := b) b8))
          clear b8
          unfold panS
          go_wp2_with fail
          exact ⟨rfl, HO8.out, rfl⟩
        | true =>
          rw [h41, if_pos rfl] at hfin
          subst hfin
          have HPS := Lib.hid (pleave_ok b g cap s3.at_ s3.n ts s3.open_ ⟨#[41]⟩ wr hp htt hst.at_ HEE.out.len (HEE.out.toks _) (by omega) (by omega) h41)
          clear hxr hp hst hop3 htt hcc hoo hbx hbc hzz h41 hxn
          go_wp2_with fail
          refine HPS.out.mono ?_
          rintro e w8 ⟨rfl, o8, h8⟩
          have hx8 := HBX.out.keep o8.kept hne1
          have hc8 := HBC.out.keep o8.kept hne0
          have j1 : w8.cell? ⟨w.heap.size, 1, none⟩ = some (.int .i64 K.op) := cell_of_row w8 w.heap.size 1 _ _ (0, 0) hc8
          have q0 := hx8.c0
          have q1 := hx8.c1
          have q2 := hx8.c2
          have q3 := hx8.c3
          have fr := hx8.fz
          have hxr8 := HX3b.out.later (o8.keptB (by show ¬ W5.heap.size ≤ b; omega))
          obtain ⟨pr, c3, e3, hrow⟩ := hxr8.row
          injection e3 with e3 _ e4
          subst e3 e4
          have hf1 : FAt w8 (w.heap.size + 1 < ·) (rowF xs) (some ⟨gr, 0, none⟩) := FAt.mono (fun _ _ hg => Nat.lt_of_lt_of_le hB0 hg) _ _ hrow
          have HFF := Lib.hid (FAt.mono (ok' := (w.heap.size ≤ ·)) (fun y _ hg => by have : w.heap.size + 1 < y := hg; show w.heap.size ≤ y; omega) _ _ (hf1.keep (Kept.put w8 (w.heap.size + 1) (.int .i64 K.op) (.int .i64 0) (.string ⟨#[]⟩) (.slice (some ⟨gr, 0, none⟩) xs.length cr) (by simp))))
          have HXF := Lib.hid (hx8.put (.int .i64 K.op) (.int .i64 0) (.string ⟨#[]⟩) (.slice (some ⟨gr, 0, none⟩) xs.length cr))
          have HOF := Lib.hid ((HO3b.out.trans o8).put (w.heap.size + 1) (by omega) (.int .i64 K.op) (.int .i64 0) (.string ⟨#[]⟩) (.slice (some ⟨gr, 0, none⟩) xs.length cr))
          have HPF := Lib.hid (h8.keep (Kept.put (ok := (· ≠ w.heap.size + 1)) w8 (w.heap.size + 1) (.int .i64 K.op) (.int .i64 0) (.string ⟨#[]⟩) (.slice (some ⟨gr, 0, none⟩) xs.length cr) (by simp)) hne2)
          clear o8 h8 hx8 hc8 hxr8 hrow hf1 k3
          go_wp2_with fail
          refine bodyPost_ret (res_expr rfl _ _ (w.heap.size + 1) _ _ _ _ rfl HXF.out) rfl ?_
          exact ⟨HOF.out, some ⟨gr, 0, none⟩, cr, by unfold exprC; rw [rowF_len]; rfl, HFF.out, HPF.out⟩
end Go.Proofs.YtlmmfhbdebfgkaaGreatDoor.Ex
