/-
  ExPsL.
-/
import Derived.Test.YtlmmfhbdebfgkaaGreatDoorYExPsE
namespace Go.Proofs.YtlmmfhbdebfgkaaGreatDoor.Ex
open Go.RowKit
open Lx Va
set_option linter.unusedVariables false
set_option linter.unusedSimpArgs false
set_option maxRecDepth 100000 in
set_option maxHeartbeats 8000000 in
theorem plist_any (b g cap : Nat) (ts : List TA) (hE : Env b g ts) (s : St) (w : World) (h : Psr w b g cap ts.length s.at_ s.n s.open_) (ht : TsAt w g ts) (hC : ConsAt w) (hs : StOk ts s) (rec : St → R) (hrk : RecOk ts rec) (hi : isS ts s.at_ [91] = true)
    (HR : RecP b g cap ts (s.open_ + 1) rec) (hnb : ∀ s1 : St, StOk ts s1 → s1.open_ = s.open_ + 1 → begins ts s1.at_ = false → rec s1 = .bad 25 s1.at_) :
    Calls Tryz.prog 168 #[.pointer (some ⟨b, 0, none⟩)] w fun e w' => ResP b g cap ts w (enterR s fun s1 => elemsR rec ts 18 .nil s1) e w' := by
  have hnx := hE.ends.next hs.at_ (isS_ne hi)
  have hlt := h.lt
  have hgl := ht.lt
  have hb := (Below.refl w.heap.size w).alloc (Nat.le_refl _) (.cells #[.int .i64 0, .int .i64 0, .string ⟨#[]⟩, .slice none 0 0] 24)
  have HX := Lib.hid (Bx.new w (.int .i64 0) (.int .i64 0) (.string ⟨#[]⟩) (.slice none 0 0))
  have H0 := Lib.hid (h.below hb)
  have HT := Lib.hid (ht.below hb)
  have HC := Lib.hid (hC.keep (Kept.of_below (ok := fun _ => True) hb) trivial)
  have HB := Lib.hid hb
  have HEE := Lib.hid hE
  have hop := hs.op
  have hsn := hs.n
  have hni : (s.at_ : Int) < 8001 := by have := hs.at_; have := hE.len; omega
  have hne1 : ¬ w.heap.size = b := by omega
  have hne2 : ¬ b = w.heap.size := by omega
  have HRK := Lib.hid hrk
  have HRR := Lib.hid HR
  have HNB := Lib.hid hnb
  clear h ht hC hs hb hi hE hrk HR hnb
  unfold enterR
  by_cases h20 : s.open_ = 20
  · rw [if_pos h20]
    rw [h20] at H0
    have HP := Lib.hid (penter_bad b g cap s.at_ s.n ts.length _ H0.out)
    clear h20 hop hnx hsn
    go_enter Tryz.func168, Tryz.ntmps168
    go_wp2_with fail
    refine HP.out.mono ?_
    rintro e w1 ⟨rfl, b1⟩
    have HO := Lib.hid (Only.of_below (b := b) (HB.out.trans (b1.mono HB.out.size)))
    clear b1
    unfold panS
    go_wp2_with fail
    exact ⟨rfl, HO.out, rfl⟩
  rw [if_neg h20]
  have HP := Lib.hid (penter_ok b g cap s.at_ s.n s.open_ ts.length _ H0.out (by omega))
  by_cases h200 : s.n = 200
  · rw [if_pos h200]
    have HQ := Lib.hid (fun w1 (k : Psr w1 b g cap ts.length s.at_ s.n ((s.open_ : Int) + 1)) => pproduce_bad b g cap s.at_ ((s.open_ : Int) + 1) ts.length w1 (by rw [h200] at k; exact k))
    clear h20 h200 hop hnx hsn
    go_enter Tryz.func168, Tryz.ntmps168
    go_wp2_with fail
    refine HP.out.mono ?_
    rintro e w1 ⟨rfl, o1, h1⟩
    have HQ1 := Lib.hid (HQ.out w1 h1)
    have HO1 := Lib.hid ((Only.of_below (b := b) HB.out).trans o1)
    clear o1 h1
    go_wp2_with fail
    refine HQ1.out.mono ?_
    rintro e w2 ⟨rfl, b2⟩
    have HO := Lib.hid (HO1.out.trans (Only.of_below (b := b) b2))
    clear b2
    unfold panS
    go_wp2_with fail
    exact ⟨rfl, HO.out, rfl⟩
  rw [if_neg h200]
  have HQ := Lib.hid (fun w1 (k : Psr w1 b g cap ts.length s.at_ s.n ((s.open_ : Int) + 1)) => pproduce_ok b g cap s.at_ ((s.open_ : Int) + 1) s.n ts.length w1 k (by omega))
  have HS1 := Lib.hid (show StOk ts ⟨s.at_ + 1, s.n + 1, s.open_ + 1⟩ from ⟨hnx, by show s.n + 1 ≤ 200; omega, by show s.open_ + 1 ≤ 20; omega⟩)
  have hop1 : s.open_ + 1 ≤ 20 := by omega
  have HIS := Lib.hid (fun w3 (k : Psr w3 b g cap ts.length ((s.at_ + 1 : Nat) : Int) ((s.n + 1 : Nat) : Int) ((s.open_ + 1 : Nat) : Int)) (kt : TsAt w3 g ts) => pis_any b g cap (s.at_ + 1) ((s.n + 1 : Nat) : Int) ((s.open_ + 1 : Nat) : Int) ts ⟨#[93]⟩ w3 k kt hnx HEE.out.len (HEE.out.toks _))
  clear h20 h200 hop hsn
  show Calls _ _ _ _ (fun e w' => ResP b g cap ts w (elemsR rec ts 18 .nil ⟨s.at_ + 1, s.n + 1, s.open_ + 1⟩) e w')
  obtain ⟨FIN, hF0⟩ : ∃ FIN, FIN = elemsR rec ts 18 .nil ⟨s.at_ + 1, s.n + 1, s.open_ + 1⟩ := ⟨_, rfl⟩
  rw [← hF0]
  have HF0 := Lib.hid hF0
  clear hF0
  have HT1L := Lib.hid (show g < w.heap.size by exact hgl)
  cases h93 : isS ts (s.at_ + 1) [93] with
  | true =>
    have HFE := Lib.hid (show elemsR rec ts 18 .nil ⟨s.at_ + 1, s.n + 1, s.open_ + 1⟩ = .ok ⟨5, 0, [], .nil⟩ ⟨s.at_ + 1 + 1, s.n + 1, s.open_ + 1 - 1⟩ by
      rw [elems_step rec ts 17, if_pos h93])
    have e0 := HF0.out.trans HFE.out
    subst e0
    clear HFE HF0
    go_enter Tryz.func168, Tryz.ntmps168
    go_wp2_with fail
    refine HP.out.mono ?_
    rintro e w1 ⟨rfl, o1, h1⟩
    have HQ1 := Lib.hid (HQ.out w1 h1)
    have HO1 := Lib.hid ((Only.of_below (b := b) HB.out).trans o1)
    have HX1 := Lib.hid (HX.out.keep o1.kept hne1)
    have HT1 := Lib.hid (o1.ts HT.out HEE.out.ne)
    have HC1 := Lib.hid (HC.out.only o1 HEE.out.con)
    clear o1 h1
    go_wp2_with fail
    refine HQ1.out.mono ?_
    rintro e w2 ⟨rfl, o2, h2⟩
    have c1 := h2.c1
    have fz := h2.fz
    have o3 := o2.set' 1 (.int .i64 ((s.at_ : Int) + 1))
    obtain ⟨W4, hW4⟩ : ∃ W4, W4 = (w2.setCell ⟨b, 1, none⟩ (.int .i64 ((s.at_ : Int) + 1))).alloc (.cells #[.int .i64 5, .int .i64 0, .string ⟨#[]⟩, .slice none 0 0] 24) := ⟨_, rfl⟩
    have b4 := (Below.refl _ (w2.setCell ⟨b, 1, none⟩ (.int .i64 ((s.at_ : Int) + 1)))).alloc (Nat.le_refl _) (.cells #[.int .i64 5, .int .i64 0, .string ⟨#[]⟩, .slice none 0 0] 24)
    have h4 := (h2.set1 ((s.at_ : Int) + 1)).below b4
    have ht4 := (o3.ts HT1.out HEE.out.ne).below b4
    have hc4 := (HC1.out.only o3 HEE.out.con).keep (Kept.of_below (ok := fun _ => True) b4) trivial
    have ho4 := (HO1.out.trans o3).trans (Only.of_below (b := b) b4)
    have hx4 := laterB (HX1.out.keep o3.kept hne1) b4
    have he4 := new_box (w2.setCell ⟨b, 1, none⟩ (.int .i64 ((s.at_ : Int) + 1))) #[.int .i64 5, .int .i64 0, .string ⟨#[]⟩, .slice none 0 0] 24 w2.heap.size (by simp)
    have hz : w2.heap.size < W4.heap.size := by rw [hW4]; simp
    rw [← hW4] at h4 ht4 hc4 ho4 hx4 he4
    obtain ⟨X, hX⟩ : ∃ X, w2.heap.size = X := ⟨_, rfl⟩
    rw [hX] at he4 hz
    have hX1 : b < X := by rw [← hX]; exact h2.lt
    have hX2 : w.heap.size < X := by rw [← hX]; exact Nat.lt_of_lt_of_le HX1.out.lt o2.size
    have H4 := Lib.hid h4
    have HT4 := Lib.hid ht4
    have HC4 := Lib.hid hc4
    have HO4 := Lib.hid ho4
    have HX4 := Lib.hid hx4
    have HE4 := Lib.hid (show Bx W4 X (.int .i64 5) (.int .i64 0) (.string ⟨#[]⟩) (.slice none 0 0) from he4)
    have HZ4 := Lib.hid hz
    have HI := Lib.hid (HIS.out W4 h4 ht4)
    have HW4 := Lib.hid hW4
    have HHX := Lib.hid hX
    have hneX : ¬ X = b := by omega
    have hneX2 : ¬ w.heap.size = X := by omega
    have hneX3 : ¬ X = w.heap.size := by omega
    clear o2 h2 o3 b4 h4 ht4 hc4 ho4 hx4 he4 hz hW4 hX
    rw [show isS ts (s.at_ + 1) ((⟨#[93]⟩ : ByteArray).data.toList) = true from h93] at HI
    go_wp2_with fail
    rw [HHX.out, ← HW4.out]
    clear HHX HW4 c1 fz
    refine HI.out.mono ?_
    rintro e w5 ⟨rfl, b5⟩
    have H5 := Lib.hid (H4.out.below b5)
    have HT5 := Lib.hid (HT4.out.below b5)
    have HC5 := Lib.hid (HC4.out.keep (Kept.of_below (ok := fun _ => True) b5) trivial)
    have HO5 := Lib.hid (HO4.out.trans (Only.of_below (b := b) b5))
    have HX5 := Lib.hid (laterB HX4.out b5)
    have HE5 := Lib.hid (laterB HE4.out b5)
    have HZ5 := Lib.hid (Nat.lt_of_lt_of_le HZ4.out b5.size)
    clear b5
    have HLV := Lib.hid (pleave_ok b g cap (s.at_ + 1) ((s.n + 1 : Nat)) ts (s.open_ + 1) ⟨#[93]⟩ _ H5.out HT5.out hnx HEE.out.len (HEE.out.toks _) (by omega) hop1 h93)
    go_wp2_with fail
    refine HLV.out.mono ?_
    rintro e w8 ⟨rfl, o8, h8⟩
    have hx8 := HX5.out.keep o8.kept hne1
    have he8 := HE5.out.keep o8.kept hneX
    have p0 := he8.c0
    have p1 := he8.c1
    have p2 := he8.c2
    have p3 := he8.c3
    have q0 := hx8.c0
    have q1 := hx8.c1
    have q2 := hx8.c2
    have q3 := hx8.c3
    have fr := hx8.fz
    have HXF := Lib.hid (hx8.put (.int .i64 5) (.int .i64 0) (.string ⟨#[]⟩) (.slice none 0 0))
    have HOF := Lib.hid ((HO5.out.trans o8).put w.heap.size (Nat.le_refl _) (.int .i64 5) (.int .i64 0) (.string ⟨#[]⟩) (.slice none 0 0))
    have HPF := Lib.hid (h8.keep (Kept.put (ok := (· ≠ w.heap.size)) w8 w.heap.size (.int .i64 5) (.int .i64 0) (.string ⟨#[]⟩) (.slice none 0 0) (by simp)) hne2)
    have HFF := Lib.hid ((trivial : FAt (put4 w8 w.heap.size (.int .i64 5) (.int .i64 0) (.string ⟨#[]⟩) (.slice none 0 0)) (w.heap.size ≤ ·) .nil none))
    clear o8 h8 hx8 he8
    go_wp2_with fail
    refine bodyPost_ret (res_expr rfl _ _ w.heap.size _ _ _ _ rfl HXF.out) rfl ?_
    exact ⟨HOF.out, none, 0, rfl, HFF.out, HPF.out⟩
  | false =>
    have HEL := Lib.hid (fun w5 (k : Psr w5 b g cap ts.length ((s.at_ + 1 : Nat) : Int) ((s.n + 1 : Nat) : Int) ((s.open_ + 1 : Nat) : Int)) (kt : TsAt w5 g ts) (kc : ConsAt w5) => pelements_any b g cap ts HEE.out ⟨s.at_ + 1, s.n + 1, s.open_ + 1⟩ w5 k kt kc HS1.out rec HRK.out h93 HRR.out HNB.out)
    go_enter Tryz.func168, Tryz.ntmps168
    go_wp2_with fail
    refine HP.out.mono ?_
    rintro e w1 ⟨rfl, o1, h1⟩
    have HQ1 := Lib.hid (HQ.out w1 h1)
    have HO1 := Lib.hid ((Only.of_below (b := b) HB.out).trans o1)
    have HX1 := Lib.hid (HX.out.keep o1.kept hne1)
    have HT1 := Lib.hid (o1.ts HT.out HEE.out.ne)
    have HC1 := Lib.hid (HC.out.only o1 HEE.out.con)
    clear o1 h1
    go_wp2_with fail
    refine HQ1.out.mono ?_
    rintro e w2 ⟨rfl, o2, h2⟩
    have c1 := h2.c1
    have fz := h2.fz
    have o3 := o2.set' 1 (.int .i64 ((s.at_ : Int) + 1))
    obtain ⟨W4, hW4⟩ : ∃ W4, W4 = (w2.setCell ⟨b, 1, none⟩ (.int .i64 ((s.at_ : Int) + 1))).alloc (.cells #[.int .i64 5, .int .i64 0, .string ⟨#[]⟩, .slice none 0 0] 24) := ⟨_, rfl⟩
    have b4 := (Below.refl _ (w2.setCell ⟨b, 1, none⟩ (.int .i64 ((s.at_ : Int) + 1)))).alloc (Nat.le_refl _) (.cells #[.int .i64 5, .int .i64 0, .string ⟨#[]⟩, .slice none 0 0] 24)
    have h4 := (h2.set1 ((s.at_ : Int) + 1)).below b4
    have ht4 := (o3.ts HT1.out HEE.out.ne).below b4
    have hc4 := (HC1.out.only o3 HEE.out.con).keep (Kept.of_below (ok := fun _ => True) b4) trivial
    have ho4 := (HO1.out.trans o3).trans (Only.of_below (b := b) b4)
    have hx4 := laterB (HX1.out.keep o3.kept hne1) b4
    have he4 := new_box (w2.setCell ⟨b, 1, none⟩ (.int .i64 ((s.at_ : Int) + 1))) #[.int .i64 5, .int .i64 0, .string ⟨#[]⟩, .slice none 0 0] 24 w2.heap.size (by simp)
    have hz : w2.heap.size < W4.heap.size := by rw [hW4]; simp
    rw [← hW4] at h4 ht4 hc4 ho4 hx4 he4
    obtain ⟨X, hX⟩ : ∃ X, w2.heap.size = X := ⟨_, rfl⟩
    rw [hX] at he4 hz
    have hX1 : b < X := by rw [← hX]; exact h2.lt
    have hX2 : w.heap.size < X := by rw [← hX]; exact Nat.lt_of_lt_of_le HX1.out.lt o2.size
    have H4 := Lib.hid h4
    have HT4 := Lib.hid ht4
    have HC4 := Lib.hid hc4
    have HO4 := Lib.hid ho4
    have HX4 := Lib.hid hx4
    have HE4 := Lib.hid (show Bx W4 X (.int .i64 5) (.int .i64 0) (.string ⟨#[]⟩) (.slice none 0 0) from he4)
    have HZ4 := Lib.hid hz
    have HI := Lib.hid (HIS.out W4 h4 ht4)
    have HW4 := Lib.hid hW4
    have HHX := Lib.hid hX
    have hneX : ¬ X = b := by omega
    have hneX2 : ¬ w.heap.size = X := by omega
    have hneX3 : ¬ X = w.heap.size := by omega
    clear o2 h2 o3 b4 h4 ht4 hc4 ho4 hx4 he4 hz hW4 hX
    rw [show isS ts (s.at_ + 1) ((⟨#[93]⟩ : ByteArray).data.toList) = false from h93] at HI
    go_wp2_with fail
    rw [HHX.out, ← HW4.out]
    clear HHX HW4 c1 fz
    refine HI.out.mono ?_
    rintro e w5 ⟨rfl, b5⟩
    have H5 := Lib.hid (H4.out.below b5)
    have HT5 := Lib.hid (HT4.out.below b5)
    have HC5 := Lib.hid (HC4.out.keep (Kept.of_below (ok := fun _ => True) b5) trivial)
    have HO5 := Lib.hid (HO4.out.trans (Only.of_below (b := b) b5))
    have HX5 := Lib.hid (laterB HX4.out b5)
    have HE5 := Lib.hid (laterB HE4.out b5)
    have HZ5 := Lib.hid (Nat.lt_of_lt_of_le HZ4.out b5.size)
    clear b5
    go_wp2_with fail
    refine (HEL.out w5 H5.out HT5.out HC5.out).mono ?_
    rintro e w6 ⟨o6, hor⟩
    rcases hor with ⟨er, a, hf, rfl⟩ | ⟨acc, s2, q, c, rfl, hfa, h6, hst, hop6, hf⟩
    · have HO6 := Lib.hid (HO5.out.trans o6)
      have HF := Lib.hid hf
      clear o6 hf
      unfold panS
      go_wp2_with fail
      have e0 := HF0.out.trans HF.out
      subst e0
      exact ⟨rfl, HO6.out, rfl⟩
    · have he6 := HE5.out.keep o6.kept hneX
      have hx6 := HX5.out.keep o6.kept hne1
      have fe := he6.fz
      have e3 := he6.c3
      obtain ⟨W7, hW7⟩ : ∃ W7, W7 = w6.setCell ⟨X, 3, none⟩ (.slice q acc.len c) := ⟨_, rfl⟩
      have k7 := Kept.set (ok := (· ≠ X)) w6 X 3 (.slice q acc.len c) (by simp)
      have hz6 := o6.size
      have he7 := he6.set3 (.slice q acc.len c)
      have ho7 := (HO5.out.trans o6).box X 3 (Nat.le_of_lt hX2) (.slice q acc.len c)
      have hF := FAt.mono (ok' := fun y => w.heap.size < y ∧ y ≠ X) (fun y _ hg => by have h1 := HZ5.out; have h2 : w5.heap.size ≤ y := hg; constructor <;> omega) _ _ hfa
      have hF7 := hF.keep (k7.mono fun y hg => hg.2)
      have hgX : g ≠ X := by have := HT1L.out; omega
      have ht7 := (o6.ts HT5.out HEE.out.ne).keep k7 hgX
      have h7 := h6.keep k7 (by omega)
      have hx7 := hx6.keep k7 (by omega)
      rw [← hW7] at he7 ho7 hF7 ht7 h7 hx7
      rw [hop6] at h7
      have H7 := Lib.hid h7
      have HT7 := Lib.hid ht7
      have HX7 := Lib.hid hx7
      have HE7 := Lib.hid he7
      have HO7 := Lib.hid ho7
      have HF7 := Lib.hid (FAt.mono (ok' := (w.heap.size < ·)) (fun _ _ hg => hg.1) _ _ hF7)
      have HW7 := Lib.hid hW7
      have HFN := Lib.hid hf
      clear o6 hf hfa h6 he6 hx6 k7 hz6 he7 ho7 hF hF7 ht7 h7 hx7 hW7 hgX
      go_upto_region 7 with fail
      rw [← HW7.out]
      clear HW7 fe e3
      cases hl : isS ts s2.at_ [93] with
      | true =>
        have HFE := Lib.hid (show elemsR rec ts 18 .nil ⟨s.at_ + 1, s.n + 1, s.open_ + 1⟩ = .ok ⟨5, 0, [], acc⟩ ⟨s2.at_ + 1, s2.n, s.open_ + 1 - 1⟩ by rw [HFN.out, hl, hop6]; rfl)
        have e0 := HF0.out.trans HFE.out
        subst e0
        clear HFN HFE HF0
        have HLV := Lib.hid (pleave_ok b g cap (s2.at_) (s2.n) ts (s.open_ + 1) ⟨#[93]⟩ _ H7.out HT7.out hst.at_ HEE.out.len (HEE.out.toks _) (by omega) hop1 hl)
        go_wp2_with fail
        refine HLV.out.mono ?_
        rintro e w8 ⟨rfl, o8, h8⟩
        have hx8 := HX7.out.keep o8.kept hne1
        have he8 := HE7.out.keep o8.kept hneX
        have p0 := he8.c0
        have p1 := he8.c1
        have p2 := he8.c2
        have p3 := he8.c3
        have q0 := hx8.c0
        have q1 := hx8.c1
        have q2 := hx8.c2
        have q3 := hx8.c3
        have fr := hx8.fz
        have HXF := Lib.hid (hx8.put (.int .i64 5) (.int .i64 0) (.string ⟨#[]⟩) (.slice q acc.len c))
        have HOF := Lib.hid ((HO7.out.trans o8).put w.heap.size (Nat.le_refl _) (.int .i64 5) (.int .i64 0) (.string ⟨#[]⟩) (.slice q acc.len c))
        have HPF := Lib.hid (h8.keep (Kept.put (ok := (· ≠ w.heap.size)) w8 w.heap.size (.int .i64 5) (.int .i64 0) (.string ⟨#[]⟩) (.slice q acc.len c) (by simp)) hne2)
        have HFF := Lib.hid (fat_put HF7.out o8 hlt (.int .i64 5) (.int .i64 0) (.string ⟨#[]⟩) (.slice q acc.len c))
        clear o8 h8 hx8 he8
        go_wp2_with fail
        refine bodyPost_ret (res_expr rfl _ _ w.heap.size _ _ _ _ rfl HXF.out) rfl ?_
        exact ⟨HOF.out, q, c, rfl, HFF.out, HPF.out⟩
      | false =>
        have HFE := Lib.hid (show elemsR rec ts 18 .nil ⟨s.at_ + 1, s.n + 1, s.open_ + 1⟩ = .bad 25 s2.at_ by rw [HFN.out, hl]; rfl)
        have HLV := Lib.hid (pleave_bad b g cap s2.at_ s2.n ((s.open_ + 1 : Nat) : Int) ts ⟨#[93]⟩ _ H7.out HT7.out hst.at_ HEE.out.len (HEE.out.toks _) hl)
        clear HFN
        go_wp2_with fail
        refine HLV.out.mono ?_
        rintro e w8 ⟨rfl, b8⟩
        have HO8 := Lib.hid (HO7.out.trans (Only.of_below (b := b) b8))
        clear b8
        unfold panS
        go_wp2_with fail
        have e0 := HF0.out.trans HFE.out
        subst e0
        exact ⟨rfl, HO8.out, rfl⟩
end Go.Proofs.YtlmmfhbdebfgkaaGreatDoor.Ex
