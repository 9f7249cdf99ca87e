/-
  A dead letter that is read, walked.
-/
import Derived.Test.YtkdhchdhgmaolaaZUntil
import Derived.Test.YtkdhchdhgmaolaaZTzJ
namespace Go.Proofs.Ytkdhchdhgmaolaa.Cd
open Go.RowKit
open Pk Va
set_option linter.unusedVariables false
set_option linter.unusedSimpArgs false

/-- One of pack's calls at a reader that is code's no longer. -/
theorem RdTo.aside {H r R : Nat} {l l0 la lb : List UInt8} {bad b0 ba bb : Nat} {w w3 w4 : World} (t : RdTo H r l bad w w3) (h0 : RdrR H r R l0 b0 w) (hb : bad ≠ 0) (ho : OffR r R w3) (ha : RdAt w3 R la ba) (hla : la.length ≤ 2000000) (h1 : RdAt w4 R lb bb) (k : Kept R w3 w4) : RdTo H r l bad w w4 := by
  obtain ⟨a1, a2, R3, a3, a4⟩ := ho
  obtain ⟨R4, h4⟩ := t.rdr
  have e := h4.2.2.2.1
  rw [a3] at e
  obtain rfl : R3 = R4 := by simpa using e
  have hne : ∀ g, g ≠ R → some g ≠ some R := fun g h e => h (by injection e)
  have hr : w4.heap[r]? = w3.heap[r]? := k.only.block r h4.lt (hne r (Ne.symm a1))
  have hrr : w4.heap[R3]? = w3.heap[R3]? := k.only.block R3 h4.2.2.2.2.lt (hne R3 (Ne.symm a4))
  have hoff : OffR r R w4 := ⟨a1, Nat.lt_of_lt_of_le a2 k.only.size, R3, hr.trans a3, a4⟩
  refine ⟨⟨⟨R3, h4.1, h4.2.1, h4.2.2.1, hr.trans h4.2.2.2.1, hrr.trans h4.2.2.2.2⟩, Only.below t.below k.only (Nat.le_trans h0.size t.size) h0.2.1, Nat.le_trans t.size k.only.size, fun g hg => ?_⟩, t.errs, fun R5 l5 b5 h5 hl5 => ?_⟩
  · obtain ⟨e1, c1, c2, R6, c3, c4⟩ := t.keeps g hg
    have hgR : g ≠ R := by
      obtain ⟨_, _, R7, d3, d4⟩ := hg
      have e := h0.2.2.2.1
      rw [d3] at e
      obtain rfl : R7 = R := by simpa using e
      exact d4
    exact ⟨(k.only.block g c2 (hne g hgR)).trans e1, c1, Nat.lt_of_lt_of_le c2 k.only.size, R6, hr.trans c3, c4⟩
  · obtain ⟨rfl, _, _⟩ := h0.inj h5
    exact ⟨_, _, h1, k.short _ _ _ _ ha h1 hla, .inr ⟨hb, hoff⟩⟩

def SmR (H r : Nat) (l2 : List UInt8) (b2 : Nat) (w0 w3 : World) (B : Nat) (e : Ending) (w4 : World) : Prop :=
  ∃ sv : Nat, e = .returned (.int .i64 sv) ∧ ((pSmall 5 l2 b2).2.2 = 0 → sv = (pSmall 5 l2 b2).1) ∧ RdTo H r (pSmall 5 l2 b2).2.1 (pSmall 5 l2 b2).2.2 w0 w4 ∧ ∀ q d cap, VRow B r w3 q d cap → VRow B r w4 q d cap
theorem small_new (H r R2 : Nat) (l2 : List UInt8) (b2 : Nat) (hl2 : l2.length ≤ 2000000) (w0 w3 : World) (B : Nat) (h3 : RdrR H r R2 l2 b2 w3) (t : RdTo H r l2 b2 w0 w3) :
    Calls Try.prog 85 #[.pointer (some ⟨R2, 0, none⟩), .int .i64 5] w3 fun e w4 => SmR H r l2 b2 w0 w3 B e w4 :=
  (rSmall_k R2 l2 hl2 b2 5 (by omega) (by omega) w3 h3.2.2.2.2).mono fun e w4 g => by
    obtain ⟨he, h1, k⟩ := g
    obtain ⟨hR, t2⟩ := h3.step h1 k
    exact ⟨_, he, fun _ => rfl, t.trans t2, fun q d cap hv => hv.keep h3 t2⟩
theorem small_old (H r R : Nat) (l : List UInt8) (b : Nat) (hl : l.length ≤ 2000000) (l2 : List UInt8) (b2 : Nat) (hl2 : l2.length ≤ 2000000) (w0 w3 : World) (B : Nat) (hB : w0.heap.size ≤ B) (h0 : RdrR H r R l b w0) (t : RdTo H r l2 b2 w0 w3) :
    Calls Try.prog 85 #[.pointer (some ⟨R, 0, none⟩), .int .i64 5] w3 fun e w4 => SmR H r l2 b2 w0 w3 B e w4 := by
  obtain ⟨la, ba, hat, hla, hc⟩ := t.old R l b h0 hl
  rcases hc with hc | ⟨hx, ho⟩
  · obtain ⟨R1, h1⟩ := t.rdr
    have e := h1.2.2.2.1
    rw [hc] at e
    obtain rfl : R = R1 := by simpa using e
    exact small_new H r R l2 b2 hl2 w0 w3 B h1 t
  · refine (rSmall_k R la hla ba 5 (by omega) (by omega) w3 hat).mono fun e w4 g => ?_
    obtain ⟨he, h1, k⟩ := g
    have hp : pSmall 5 l2 b2 = (0, l2, b2) := by unfold pSmall rdG; rw [if_pos hx]
    have hlt : R < w0.heap.size := h0.2.2.2.2.lt
    unfold SmR
    rw [hp]
    obtain ⟨R4, h4⟩ := t.rdr
    exact ⟨_, he, fun h => absurd h hx, t.aside h0 hx ho hat hla h1 k, fun q d cap hv => hv.grown k.only (fun g0 e => by injection e with e; subst e; exact ⟨NoBlk.lt hv (by omega), ho.1⟩) h4.lt⟩

def DeadR (H r : Nat) (X : Rs DeadP) (w : World) (e : Ending) (w' : World) : Prop :=
  ∃ ka dk kc fa df fc, ∃ sv : Nat, e = .returned (.agg #[.int .i64 X.1.n, .int .i64 X.1.mail.id, .string (S X.1.mail.chan), .slice ka dk.length kc, .slice fa df.length fc, .int .i64 sv]) ∧ (X.2.2 = 0 → (sv : Int) = X.1.reason) ∧ dk.map (·.1) = X.1.mail.key ∧ df.map (·.1) = X.1.mail.fields ∧ RdTo H r X.2.1 X.2.2 w w' ∧ VRow w.heap.size r w' ka dk kc ∧ VRow w.heap.size r w' fa df fc

set_option maxRecDepth 100000 in
set_option maxHeartbeats 8000000 in
theorem dead_r (H r R : Nat) (l : List UInt8) (hl : l.length ≤ 2000000) (bad : Nat) (w : World) (h : RdrR H r R l bad w) :
    Calls Try.prog 46 #[.pointer (some ⟨r, 0, none⟩)] w fun e w' => DeadR H r (pDead l bad) w e w' := by
  obtain ⟨⟨xn, l1, b1⟩, h0⟩ : ∃ y, pNum l bad = y := ⟨_, rfl⟩
  obtain ⟨⟨⟨xi, xc, xk, xf⟩, l2, b2⟩, h1⟩ : ∃ y, pMail l1 b1 = y := ⟨_, rfl⟩
  obtain ⟨⟨xs, l3, b3⟩, h2⟩ : ∃ y, pSmall 5 l2 b2 = y := ⟨_, rfl⟩
  have hX : pDead l bad = (⟨xn, ⟨xi, xc, xk, xf⟩, (xs : Int)⟩, l3, b3) := by unfold pDead; simp only [h0, h1, h2]
  rw [hX]
  have s1 : l1.length ≤ 2000000 := by have := rdG_short (0 : Int) (decN l) l bad; unfold pNum at h0; rw [h0] at this; exact Nat.le_trans this hl
  have s2 : l2.length ≤ 2000000 := by have := pMail_short l1 b1 s1; rw [h1] at this; exact this
  have kk := ((Below.refl w.heap.size w).alloc (Nat.le_refl _) (.cells #[.int .i64 0, .int .i64 0, .string ⟨#[]⟩, .slice none 0 0, .slice none 0 0, .int .i64 0] 51)).drew
  have hR0 := h.below kk
  have c0 := hR0.c0
  have HZ := Lib.hid (show (w.alloc (.cells #[.int .i64 0, .int .i64 0, .string ⟨#[]⟩, .slice none 0 0, .slice none 0 0, .int .i64 0] 51)).drew.heap[w.heap.size]? = _ from heap_alloc_new w (.cells #[.int .i64 0, .int .i64 0, .string ⟨#[]⟩, .slice none 0 0, .slice none 0 0, .int .i64 0] 51))
  have HFZ := Lib.hid ((h.off_new (.cells #[.int .i64 0, .int .i64 0, .string ⟨#[]⟩, .slice none 0 0, .slice none 0 0, .int .i64 0] 51)).below ((Below.refl _ _).drew))
  have HT0 := Lib.hid (RdTo.of_below h kk)
  have HR0 := Lib.hid hR0
  have HH := Lib.hid h.size
  have HS0 := Lib.hid (show (w.alloc (.cells #[.int .i64 0, .int .i64 0, .string ⟨#[]⟩, .slice none 0 0, .slice none 0 0, .int .i64 0] 51)).drew.heap.size = w.heap.size + 1 by simp)
  obtain ⟨W0, hW0⟩ : ∃ W0, W0 = (w.alloc (.cells #[.int .i64 0, .int .i64 0, .string ⟨#[]⟩, .slice none 0 0, .slice none 0 0, .int .i64 0] 51)).drew := ⟨_, rfl⟩
  rw [← hW0] at c0 HZ HFZ HT0 HR0 HS0
  have HW0 := Lib.hid hW0
  have HC0 := Lib.hid (rNumber_k R l hl bad W0 HR0.out.2.2.2.2)
  unfold pNum at h0
  rw [h0] at HC0
  have HC1 := Lib.hid (fun W R' (hR : RdrR H r R' l1 b1 W) => mail_r H r R' l1 s1 b1 W hR)
  rw [h1] at HC1
  have HSN := Lib.hid (fun R2 W B (h3 : RdrR H r R2 l2 b2 W) (t : RdTo H r l2 b2 W0 W) => small_new H r R2 l2 b2 s2 W0 W B h3 t)
  have HSO := Lib.hid (fun W B (hB : W0.heap.size ≤ B) (t : RdTo H r l2 b2 W0 W) => small_old H r R l bad hl l2 b2 s2 W0 W B hB HR0.out t)
  unfold SmR at HSN HSO
  rw [h2] at HSN HSO
  obtain ⟨Pst, hPst⟩ : ∃ Pst : Ending → World → Prop, Pst = DeadR H r (⟨xn, ⟨xi, xc, xk, xf⟩, (xs : Int)⟩, l3, b3) w := ⟨_, rfl⟩
  rw [show (fun e w' => DeadR H r (⟨xn, ⟨xi, xc, xk, xf⟩, (xs : Int)⟩, l3, b3) w e w') = Pst from hPst.symm]
  have HPST := Lib.hid (fun e w' (h : DeadR H r (⟨xn, ⟨xi, xc, xk, xf⟩, (xs : Int)⟩, l3, b3) w e w') => show Pst e w' by rw [hPst]; exact h)
  clear h kk hR0 hX hPst h0 h1 h2 hW0
  go_enter Try.func46, Try.ntmps46
  go_wp2_with fail
  refine until_start 4 (fun w7 => w7.cell? ⟨r, 0, none⟩ = some (.pointer (some ⟨R, 0, none⟩))) (by kernel_rfl) ?_
  rw [← HW0.out]
  refine untilT (v := ?_) 0 (by decide +kernel) (by decide +kernel) (by decide +kernel) (by kernel_rfl) (by simp only [List.getElem?_toArray, List.getElem?_cons_succ, List.getElem?_cons_zero]; rfl) (by rfl) (by exact fun _ _ _ h => h) (by first | exact fun _ => c0 | exact fun h => absurd h (by decide +kernel)) ?_ ?_
  rotate_left 1
  focus (intro w8; go_simp; (try with_reducible rfl); done)
  try simp only [Act.put, List.setIfInBounds_toArray, List.set_cons_zero, List.set_cons_succ]
  refine untilT (v := ?_) 1 (by decide +kernel) (by decide +kernel) (by decide +kernel) (by kernel_rfl) (by simp only [List.getElem?_toArray, List.getElem?_cons_succ, List.getElem?_cons_zero]; rfl) (by rfl) (by exact fun _ _ _ h => h) (by first | exact fun _ => c0 | exact fun h => absurd h (by decide +kernel)) ?_ ?_
  rotate_left 1
  focus (intro w8; go_simp; (try with_reducible rfl); done)
  try simp only [Act.put, List.setIfInBounds_toArray, List.set_cons_zero, List.set_cons_succ]
  refine untilT (v := ?_) 2 (by decide +kernel) (by decide +kernel) (by decide +kernel) (by kernel_rfl) (by simp only [List.getElem?_toArray, List.getElem?_cons_succ, List.getElem?_cons_zero]; rfl) (by rfl) (by exact fun _ _ _ h => h) (by first | exact fun _ => c0 | exact fun h => absurd h (by decide +kernel)) ?_ ?_
  rotate_left 1
  focus (intro w8; go_simp; (try with_reducible rfl); done)
  try simp only [Act.put, List.setIfInBounds_toArray, List.set_cons_zero, List.set_cons_succ]
  refine untilW (v := ?_) 3 [4] (by decide) (by decide +kernel) (by decide +kernel) (by decide +kernel) (by decide +kernel) (by kernel_rfl) (by simp only [List.getElem?_toArray, List.getElem?_cons_succ, List.getElem?_cons_zero]; rfl) (by rfl) (by exact fun _ _ _ h => h) (by exact c0) ?_ ?_
  rotate_left 1
  focus (intro w8 hSw; (try dsimp only at hSw); go_simp; (try with_reducible rfl); done)
  try simp only [Act.put, List.setIfInBounds_toArray, List.set_cons_zero, List.set_cons_succ]
  refine untilT (v := ?_) 5 (by decide +kernel) (by decide +kernel) (by decide +kernel) (by kernel_rfl) (by simp only [List.getElem?_toArray, List.getElem?_cons_succ, List.getElem?_cons_zero]; rfl) (by rfl) (by exact fun _ _ _ h => h) (by first | exact fun _ => c0 | exact fun h => absurd h (by decide +kernel)) ?_ ?_
  rotate_left 1
  focus (intro w8; go_simp; (try with_reducible rfl); done)
  try simp only [Act.put, List.setIfInBounds_toArray, List.set_cons_zero, List.set_cons_succ]
  refine untilT (v := ?_) 7 (by decide +kernel) (by decide +kernel) (by decide +kernel) (by kernel_rfl) (by simp only [List.getElem?_toArray, List.getElem?_cons_succ, List.getElem?_cons_zero]; rfl) (by rfl) (by exact fun _ _ _ h => h) (by first | exact fun _ => c0 | exact fun h => absurd h (by decide +kernel)) ?_ ?_
  rotate_left 1
  focus (intro w8; go_simp; (try with_reducible rfl); done)
  try simp only [Act.put, List.setIfInBounds_toArray, List.set_cons_zero, List.set_cons_succ]
  refine untilT (v := ?_) 8 (by decide +kernel) (by decide +kernel) (by decide +kernel) (by kernel_rfl) (by simp only [List.getElem?_toArray, List.getElem?_cons_succ, List.getElem?_cons_zero]; rfl) (by rfl) (by exact fun _ _ _ h => h) (by first | exact fun _ => c0 | exact fun h => absurd h (by decide +kernel)) ?_ ?_
  rotate_left 1
  focus (intro w8; go_simp; (try with_reducible rfl); done)
  try simp only [Act.put, List.setIfInBounds_toArray, List.set_cons_zero, List.set_cons_succ]
  refine untilT (v := ?_) 9 (by decide +kernel) (by decide +kernel) (by decide +kernel) (by kernel_rfl) (by simp only [List.getElem?_toArray, List.getElem?_cons_succ, List.getElem?_cons_zero]; rfl) (by rfl) (by exact fun _ _ _ h => h) (by first | exact fun _ => c0 | exact fun h => absurd h (by decide +kernel)) ?_ ?_
  rotate_left 1
  focus (intro w8; go_simp; (try with_reducible rfl); done)
  try simp only [Act.put, List.setIfInBounds_toArray, List.set_cons_zero, List.set_cons_succ]
  refine until_two (i := 4) (j := 10) (by decide +kernel) (by simp only [List.getElem?_toArray, List.getElem?_cons_succ, List.getElem?_cons_zero]; rfl) (by simp only [List.getElem?_toArray, List.getElem?_cons_succ, List.getElem?_cons_zero]; rfl) ?_ ?_
  · intro K hK
    go_simp
    go_at_call 70; (with_reducible refine HC0.out.mono ?_); rintro e w1 ⟨rfl, r9, o9⟩
    obtain ⟨hR9, t1⟩ := HR0.out.step r9 o9
    clear c0
    have c0 := hR9.c0
    have HR1 := Lib.hid hR9
    have U1 := Lib.hid t1
    clear hR9 t1 r9 o9
    go_wp2_with fail
    refine hK.out _ _ (by first | exact fun _ => c0 | exact fun h => absurd h (by decide +kernel)) ?_
    clear hK K
    try simp only [Act.put, List.setIfInBounds_toArray, List.set_cons_zero, List.set_cons_succ]
    refine until_two (i := 6) (j := 10) (by decide +kernel) (by simp only [List.getElem?_toArray, List.getElem?_cons_succ, List.getElem?_cons_zero]; rfl) (by simp only [List.getElem?_toArray, List.getElem?_cons_succ, List.getElem?_cons_zero]; rfl) ?_ ?_
    · intro K hK
      go_simp
      go_at_call 37; (with_reducible refine (HC1.out _ _ HR1.out).mono ?_); rintro e w3 ⟨ka, dk, kc, fa, df, fc, rfl, ek, ef, t3, vk, vf⟩
      obtain ⟨R2, hR9⟩ := t3.rdr
      clear c0
      have c0 := hR9.c0
      have HR2 := Lib.hid hR9
      have U2 := Lib.hid (U1.out.trans t3)
      have VK := Lib.hid vk
      have VF := Lib.hid vf
      have EK := Lib.hid ek
      have EF := Lib.hid ef
      have US := Lib.hid t3.size
      clear hR9 t3 vk vf ek ef
      go_wp2_with fail
      refine hK.out _ _ (by first | exact fun _ => c0 | exact fun h => absurd h (by decide +kernel)) ?_
      clear hK K
      try simp only [Act.put, List.setIfInBounds_toArray, List.set_cons_zero, List.set_cons_succ]
      refine until_one (i := 10) (by decide +kernel) (by simp only [List.getElem?_toArray, List.getElem?_cons_succ, List.getElem?_cons_zero]; rfl) ?_
      intro K hK
      go_simp
      go_wp2_with fail
      refine hK.out _ _ (by first | exact fun _ => c0 | exact fun h => absurd h (by decide +kernel)) ?_
      clear hK K
      try simp only [Act.put, List.setIfInBounds_toArray, List.set_cons_zero, List.set_cons_succ]
      refine until_one (i := 11) (by decide +kernel) (by simp only [List.getElem?_toArray, List.getElem?_cons_succ, List.getElem?_cons_zero]; rfl) ?_
      intro K hK
      go_simp
      go_at_call 85; (with_reducible refine (HSN.out _ _ w1.heap.size HR2.out U2.out).mono ?_); rintro e w4 ⟨sv, rfl, hsv, TT, hv⟩
      clear c0
      (try simp only at hsv TT)
      have HSV := Lib.hid hsv
      have TT2 := TT
      obtain ⟨hz, fz⟩ := TT2.box HZ.out HFZ.out
      have hne : w.heap.size ≠ r := fz.1
      have a1 := U1.out.size
      have a0 := HS0.out
      have kk := (hv _ _ _ VK.out).mono (B' := w.heap.size + 1) (by omega)
      have Kk := Lib.hid (((((((kk.set (j := 0) (Nat.lt_succ_self _) hne (.int .i64 xn)).set (j := 1) (Nat.lt_succ_self _) hne (.int .i64 xi)).set (j := 2) (Nat.lt_succ_self _) hne (.string (S xc))).set (j := 3) (Nat.lt_succ_self _) hne (.slice ka dk.length kc)).set (j := 4) (Nat.lt_succ_self _) hne (.slice fa df.length fc)).set (j := 5) (Nat.lt_succ_self _) hne (.int .i64 (sv : Int))).mono (Nat.le_succ _))
      have kf := (hv _ _ _ VF.out).mono (B' := w.heap.size + 1) (by omega)
      have Kf := Lib.hid (((((((kf.set (j := 0) (Nat.lt_succ_self _) hne (.int .i64 xn)).set (j := 1) (Nat.lt_succ_self _) hne (.int .i64 xi)).set (j := 2) (Nat.lt_succ_self _) hne (.string (S xc))).set (j := 3) (Nat.lt_succ_self _) hne (.slice ka dk.length kc)).set (j := 4) (Nat.lt_succ_self _) hne (.slice fa df.length fc)).set (j := 5) (Nat.lt_succ_self _) hne (.int .i64 (sv : Int))).mono (Nat.le_succ _))
      have HTE := Lib.hid (((((((HT0.out.trans TT).set HH.out (Nat.le_refl _) fz 0 (.int .i64 xn)).set HH.out (Nat.le_refl _) (fz.set (j := 0) hne (.int .i64 xn)) 1 (.int .i64 xi)).set HH.out (Nat.le_refl _) ((fz.set (j := 0) hne (.int .i64 xn)).set (j := 1) hne (.int .i64 xi)) 2 (.string (S xc))).set HH.out (Nat.le_refl _) (((fz.set (j := 0) hne (.int .i64 xn)).set (j := 1) hne (.int .i64 xi)).set (j := 2) hne (.string (S xc))) 3 (.slice ka dk.length kc)).set HH.out (Nat.le_refl _) ((((fz.set (j := 0) hne (.int .i64 xn)).set (j := 1) hne (.int .i64 xi)).set (j := 2) hne (.string (S xc))).set (j := 3) hne (.slice ka dk.length kc)) 4 (.slice fa df.length fc)).set HH.out (Nat.le_refl _) (((((fz.set (j := 0) hne (.int .i64 xn)).set (j := 1) hne (.int .i64 xi)).set (j := 2) hne (.string (S xc))).set (j := 3) hne (.slice ka dk.length kc)).set (j := 4) hne (.slice fa df.length fc)) 5 (.int .i64 (sv : Int)))
      have z0 := cell_of_row w4 w.heap.size 0 _ _ _ hz
      have z1 := cell_of_row w4 w.heap.size 1 _ _ _ hz
      have z2 := cell_of_row w4 w.heap.size 2 _ _ _ hz
      have z3 := cell_of_row w4 w.heap.size 3 _ _ _ hz
      have z4 := cell_of_row w4 w.heap.size 4 _ _ _ hz
      have z5 := cell_of_row w4 w.heap.size 5 _ _ _ hz
      have f0 := fun j => frozen_of_row w4 w.heap.size j _ _ hz
      have HP := Lib.hid (heap_setCell_same _ w.heap.size 5 _ _ (.int .i64 (sv : Int)) (heap_setCell_same _ w.heap.size 4 _ _ (.slice fa df.length fc) (heap_setCell_same _ w.heap.size 3 _ _ (.slice ka dk.length kc) (heap_setCell_same _ w.heap.size 2 _ _ (.string (S xc)) (heap_setCell_same _ w.heap.size 1 _ _ (.int .i64 xi) (heap_setCell_same _ w.heap.size 0 _ _ (.int .i64 xn) hz))))))
      clear TT TT2 hz fz hne a0 a1 hv hsv kk kf
      go_wp2_with fail
      refine hK.out _ _ (by first | exact fun _ => c0 | exact fun h => absurd h (by decide +kernel)) ?_
      clear hK K
      try simp only [Act.put, List.setIfInBounds_toArray, List.set_cons_zero, List.set_cons_succ]
      refine untilT (v := ?_) 12 (by decide +kernel) (by decide +kernel) (by decide +kernel) (by kernel_rfl) (by simp only [List.getElem?_toArray, List.getElem?_cons_succ, List.getElem?_cons_zero]; rfl) (by rfl) (by exact fun _ _ _ h => h) (by first | exact fun _ => c0 | exact fun h => absurd h (by decide +kernel)) ?_ ?_
      rotate_left 1
      focus (intro w8; go_simp; (try with_reducible rfl); done)
      try simp only [Act.put, List.setIfInBounds_toArray, List.set_cons_zero, List.set_cons_succ]
      refine until_one (i := 13) (by decide +kernel) (by simp only [List.getElem?_toArray, List.getElem?_cons_succ, List.getElem?_cons_zero]; rfl) ?_
      intro K hK
      go_simp
      go_wp2_with fail
      refine hK.out _ _ (by first | exact fun _ => c0 | exact fun h => absurd h (by decide +kernel)) ?_
      clear hK K
      try simp only [Act.put, List.setIfInBounds_toArray, List.set_cons_zero, List.set_cons_succ]
      refine until_done (by decide +kernel) ?_ _
      go_wp2_with fail
      refine bodyPost_ret (results_cell_row rfl _ _ w.heap.size _ _ _ _ rfl HP.out Try.underlying51 rfl (by kernel_rfl)) rfl (HPST.out _ _ ⟨ka, dk, kc, fa, df, fc, sv, rfl, fun h => by rw [HSV.out h], EK.out, EF.out, HTE.out, Kk.out, Kf.out⟩)
    · intro K hK
      go_simp
      go_wp2_with fail
      refine hK.out _ _ (by first | exact fun _ => c0 | exact fun h => absurd h (by decide +kernel)) ?_
      clear hK K
      try simp only [Act.put, List.setIfInBounds_toArray, List.set_cons_zero, List.set_cons_succ]
      refine until_one (i := 6) (by decide +kernel) (by simp only [List.getElem?_toArray, List.getElem?_cons_succ, List.getElem?_cons_zero]; rfl) ?_
      intro K hK
      go_simp
      go_at_call 37; (with_reducible refine (HC1.out _ _ HR1.out).mono ?_); rintro e w3 ⟨ka, dk, kc, fa, df, fc, rfl, ek, ef, t3, vk, vf⟩
      obtain ⟨R2, hR9⟩ := t3.rdr
      clear c0
      have c0 := hR9.c0
      have HR2 := Lib.hid hR9
      have U2 := Lib.hid (U1.out.trans t3)
      have VK := Lib.hid vk
      have VF := Lib.hid vf
      have EK := Lib.hid ek
      have EF := Lib.hid ef
      have US := Lib.hid t3.size
      clear hR9 t3 vk vf ek ef
      go_wp2_with fail
      refine hK.out _ _ (by first | exact fun _ => c0 | exact fun h => absurd h (by decide +kernel)) ?_
      clear hK K
      try simp only [Act.put, List.setIfInBounds_toArray, List.set_cons_zero, List.set_cons_succ]
      refine until_one (i := 11) (by decide +kernel) (by simp only [List.getElem?_toArray, List.getElem?_cons_succ, List.getElem?_cons_zero]; rfl) ?_
      intro K hK
      go_simp
      go_at_call 85; (with_reducible refine (HSO.out _ w1.heap.size U1.out.size U2.out).mono ?_); rintro e w4 ⟨sv, rfl, hsv, TT, hv⟩
      clear c0
      (try simp only at hsv TT)
      have HSV := Lib.hid hsv
      have TT2 := TT
      obtain ⟨hz, fz⟩ := TT2.box HZ.out HFZ.out
      have hne : w.heap.size ≠ r := fz.1
      have a1 := U1.out.size
      have a0 := HS0.out
      have kk := (hv _ _ _ VK.out).mono (B' := w.heap.size + 1) (by omega)
      have Kk := Lib.hid (((((((kk.set (j := 0) (Nat.lt_succ_self _) hne (.int .i64 xn)).set (j := 1) (Nat.lt_succ_self _) hne (.int .i64 xi)).set (j := 2) (Nat.lt_succ_self _) hne (.string (S xc))).set (j := 3) (Nat.lt_succ_self _) hne (.slice ka dk.length kc)).set (j := 4) (Nat.lt_succ_self _) hne (.slice fa df.length fc)).set (j := 5) (Nat.lt_succ_self _) hne (.int .i64 (sv : Int))).mono (Nat.le_succ _))
      have kf := (hv _ _ _ VF.out).mono (B' := w.heap.size + 1) (by omega)
      have Kf := Lib.hid (((((((kf.set (j := 0) (Nat.lt_succ_self _) hne (.int .i64 xn)).set (j := 1) (Nat.lt_succ_self _) hne (.int .i64 xi)).set (j := 2) (Nat.lt_succ_self _) hne (.string (S xc))).set (j := 3) (Nat.lt_succ_self _) hne (.slice ka dk.length kc)).set (j := 4) (Nat.lt_succ_self _) hne (.slice fa df.length fc)).set (j := 5) (Nat.lt_succ_self _) hne (.int .i64 (sv : Int))).mono (Nat.le_succ _))
      have HTE := Lib.hid (((((((HT0.out.trans TT).set HH.out (Nat.le_refl _) fz 0 (.int .i64 xn)).set HH.out (Nat.le_refl _) (fz.set (j := 0) hne (.int .i64 xn)) 1 (.int .i64 xi)).set HH.out (Nat.le_refl _) ((fz.set (j := 0) hne (.int .i64 xn)).set (j := 1) hne (.int .i64 xi)) 2 (.string (S xc))).set HH.out (Nat.le_refl _) (((fz.set (j := 0) hne (.int .i64 xn)).set (j := 1) hne (.int .i64 xi)).set (j := 2) hne (.string (S xc))) 3 (.slice ka dk.length kc)).set HH.out (Nat.le_refl _) ((((fz.set (j := 0) hne (.int .i64 xn)).set (j := 1) hne (.int .i64 xi)).set (j := 2) hne (.string (S xc))).set (j := 3) hne (.slice ka dk.length kc)) 4 (.slice fa df.length fc)).set HH.out (Nat.le_refl _) (((((fz.set (j := 0) hne (.int .i64 xn)).set (j := 1) hne (.int .i64 xi)).set (j := 2) hne (.string (S xc))).set (j := 3) hne (.slice ka dk.length kc)).set (j := 4) hne (.slice fa df.length fc)) 5 (.int .i64 (sv : Int)))
      have z0 := cell_of_row w4 w.heap.size 0 _ _ _ hz
      have z1 := cell_of_row w4 w.heap.size 1 _ _ _ hz
      have z2 := cell_of_row w4 w.heap.size 2 _ _ _ hz
      have z3 := cell_of_row w4 w.heap.size 3 _ _ _ hz
      have z4 := cell_of_row w4 w.heap.size 4 _ _ _ hz
      have z5 := cell_of_row w4 w.heap.size 5 _ _ _ hz
      have f0 := fun j => frozen_of_row w4 w.heap.size j _ _ hz
      have HP := Lib.hid (heap_setCell_same _ w.heap.size 5 _ _ (.int .i64 (sv : Int)) (heap_setCell_same _ w.heap.size 4 _ _ (.slice fa df.length fc) (heap_setCell_same _ w.heap.size 3 _ _ (.slice ka dk.length kc) (heap_setCell_same _ w.heap.size 2 _ _ (.string (S xc)) (heap_setCell_same _ w.heap.size 1 _ _ (.int .i64 xi) (heap_setCell_same _ w.heap.size 0 _ _ (.int .i64 xn) hz))))))
      clear TT TT2 hz fz hne a0 a1 hv hsv kk kf
      go_wp2_with fail
      refine hK.out _ _ (by first | exact fun _ => c0 | exact fun h => absurd h (by decide +kernel)) ?_
      clear hK K
      try simp only [Act.put, List.setIfInBounds_toArray, List.set_cons_zero, List.set_cons_succ]
      refine untilT (v := ?_) 12 (by decide +kernel) (by decide +kernel) (by decide +kernel) (by kernel_rfl) (by simp only [List.getElem?_toArray, List.getElem?_cons_succ, List.getElem?_cons_zero]; rfl) (by rfl) (by exact fun _ _ _ h => h) (by first | exact fun _ => c0 | exact fun h => absurd h (by decide +kernel)) ?_ ?_
      rotate_left 1
      focus (intro w8; go_simp; (try with_reducible rfl); done)
      try simp only [Act.put, List.setIfInBounds_toArray, List.set_cons_zero, List.set_cons_succ]
      refine until_one (i := 13) (by decide +kernel) (by simp only [List.getElem?_toArray, List.getElem?_cons_succ, List.getElem?_cons_zero]; rfl) ?_
      intro K hK
      go_simp
      go_wp2_with fail
      refine hK.out _ _ (by first | exact fun _ => c0 | exact fun h => absurd h (by decide +kernel)) ?_
      clear hK K
      try simp only [Act.put, List.setIfInBounds_toArray, List.set_cons_zero, List.set_cons_succ]
      refine until_done (by decide +kernel) ?_ _
      go_wp2_with fail
      refine bodyPost_ret (results_cell_row rfl _ _ w.heap.size _ _ _ _ rfl HP.out Try.underlying51 rfl (by kernel_rfl)) rfl (HPST.out _ _ ⟨ka, dk, kc, fa, df, fc, sv, rfl, fun h => by rw [HSV.out h], EK.out, EF.out, HTE.out, Kk.out, Kf.out⟩)
  · intro K hK
    go_simp
    go_wp2_with fail
    refine hK.out _ _ (by first | exact fun _ => c0 | exact fun h => absurd h (by decide +kernel)) ?_
    clear hK K
    try simp only [Act.put, List.setIfInBounds_toArray, List.set_cons_zero, List.set_cons_succ]
    refine until_one (i := 4) (by decide +kernel) (by simp only [List.getElem?_toArray, List.getElem?_cons_succ, List.getElem?_cons_zero]; rfl) ?_
    intro K hK
    go_simp
    go_at_call 70; (with_reducible refine HC0.out.mono ?_); rintro e w1 ⟨rfl, r9, o9⟩
    obtain ⟨hR9, t1⟩ := HR0.out.step r9 o9
    clear c0
    have c0 := hR9.c0
    have HR1 := Lib.hid hR9
    have U1 := Lib.hid t1
    clear hR9 t1 r9 o9
    go_wp2_with fail
    refine hK.out _ _ (by first | exact fun _ => c0 | exact fun h => absurd h (by decide +kernel)) ?_
    clear hK K
    try simp only [Act.put, List.setIfInBounds_toArray, List.set_cons_zero, List.set_cons_succ]
    refine until_one (i := 6) (by decide +kernel) (by simp only [List.getElem?_toArray, List.getElem?_cons_succ, List.getElem?_cons_zero]; rfl) ?_
    intro K hK
    go_simp
    go_at_call 37; (with_reducible refine (HC1.out _ _ HR1.out).mono ?_); rintro e w3 ⟨ka, dk, kc, fa, df, fc, rfl, ek, ef, t3, vk, vf⟩
    obtain ⟨R2, hR9⟩ := t3.rdr
    clear c0
    have c0 := hR9.c0
    have HR2 := Lib.hid hR9
    have U2 := Lib.hid (U1.out.trans t3)
    have VK := Lib.hid vk
    have VF := Lib.hid vf
    have EK := Lib.hid ek
    have EF := Lib.hid ef
    have US := Lib.hid t3.size
    clear hR9 t3 vk vf ek ef
    go_wp2_with fail
    refine hK.out _ _ (by first | exact fun _ => c0 | exact fun h => absurd h (by decide +kernel)) ?_
    clear hK K
    try simp only [Act.put, List.setIfInBounds_toArray, List.set_cons_zero, List.set_cons_succ]
    refine until_one (i := 11) (by decide +kernel) (by simp only [List.getElem?_toArray, List.getElem?_cons_succ, List.getElem?_cons_zero]; rfl) ?_
    intro K hK
    go_simp
    go_at_call 85; (with_reducible refine (HSO.out _ w1.heap.size U1.out.size U2.out).mono ?_); rintro e w4 ⟨sv, rfl, hsv, TT, hv⟩
    clear c0
    (try simp only at hsv TT)
    have HSV := Lib.hid hsv
    have TT2 := TT
    obtain ⟨hz, fz⟩ := TT2.box HZ.out HFZ.out
    have hne : w.heap.size ≠ r := fz.1
    have a1 := U1.out.size
    have a0 := HS0.out
    have kk := (hv _ _ _ VK.out).mono (B' := w.heap.size + 1) (by omega)
    have Kk := Lib.hid (((((((kk.set (j := 0) (Nat.lt_succ_self _) hne (.int .i64 xn)).set (j := 1) (Nat.lt_succ_self _) hne (.int .i64 xi)).set (j := 2) (Nat.lt_succ_self _) hne (.string (S xc))).set (j := 3) (Nat.lt_succ_self _) hne (.slice ka dk.length kc)).set (j := 4) (Nat.lt_succ_self _) hne (.slice fa df.length fc)).set (j := 5) (Nat.lt_succ_self _) hne (.int .i64 (sv : Int))).mono (Nat.le_succ _))
    have kf := (hv _ _ _ VF.out).mono (B' := w.heap.size + 1) (by omega)
    have Kf := Lib.hid (((((((kf.set (j := 0) (Nat.lt_succ_self _) hne (.int .i64 xn)).set (j := 1) (Nat.lt_succ_self _) hne (.int .i64 xi)).set (j := 2) (Nat.lt_succ_self _) hne (.string (S xc))).set (j := 3) (Nat.lt_succ_self _) hne (.slice ka dk.length kc)).set (j := 4) (Nat.lt_succ_self _) hne (.slice fa df.length fc)).set (j := 5) (Nat.lt_succ_self _) hne (.int .i64 (sv : Int))).mono (Nat.le_succ _))
    have HTE := Lib.hid (((((((HT0.out.trans TT).set HH.out (Nat.le_refl _) fz 0 (.int .i64 xn)).set HH.out (Nat.le_refl _) (fz.set (j := 0) hne (.int .i64 xn)) 1 (.int .i64 xi)).set HH.out (Nat.le_refl _) ((fz.set (j := 0) hne (.int .i64 xn)).set (j := 1) hne (.int .i64 xi)) 2 (.string (S xc))).set HH.out (Nat.le_refl _) (((fz.set (j := 0) hne (.int .i64 xn)).set (j := 1) hne (.int .i64 xi)).set (j := 2) hne (.string (S xc))) 3 (.slice ka dk.length kc)).set HH.out (Nat.le_refl _) ((((fz.set (j := 0) hne (.int .i64 xn)).set (j := 1) hne (.int .i64 xi)).set (j := 2) hne (.string (S xc))).set (j := 3) hne (.slice ka dk.length kc)) 4 (.slice fa df.length fc)).set HH.out (Nat.le_refl _) (((((fz.set (j := 0) hne (.int .i64 xn)).set (j := 1) hne (.int .i64 xi)).set (j := 2) hne (.string (S xc))).set (j := 3) hne (.slice ka dk.length kc)).set (j := 4) hne (.slice fa df.length fc)) 5 (.int .i64 (sv : Int)))
    have z0 := cell_of_row w4 w.heap.size 0 _ _ _ hz
    have z1 := cell_of_row w4 w.heap.size 1 _ _ _ hz
    have z2 := cell_of_row w4 w.heap.size 2 _ _ _ hz
    have z3 := cell_of_row w4 w.heap.size 3 _ _ _ hz
    have z4 := cell_of_row w4 w.heap.size 4 _ _ _ hz
    have z5 := cell_of_row w4 w.heap.size 5 _ _ _ hz
    have f0 := fun j => frozen_of_row w4 w.heap.size j _ _ hz
    have HP := Lib.hid (heap_setCell_same _ w.heap.size 5 _ _ (.int .i64 (sv : Int)) (heap_setCell_same _ w.heap.size 4 _ _ (.slice fa df.length fc) (heap_setCell_same _ w.heap.size 3 _ _ (.slice ka dk.length kc) (heap_setCell_same _ w.heap.size 2 _ _ (.string (S xc)) (heap_setCell_same _ w.heap.size 1 _ _ (.int .i64 xi) (heap_setCell_same _ w.heap.size 0 _ _ (.int .i64 xn) hz))))))
    clear TT TT2 hz fz hne a0 a1 hv hsv kk kf
    go_wp2_with fail
    refine hK.out _ _ (by first | exact fun _ => c0 | exact fun h => absurd h (by decide +kernel)) ?_
    clear hK K
    try simp only [Act.put, List.setIfInBounds_toArray, List.set_cons_zero, List.set_cons_succ]
    refine untilT (v := ?_) 12 (by decide +kernel) (by decide +kernel) (by decide +kernel) (by kernel_rfl) (by simp only [List.getElem?_toArray, List.getElem?_cons_succ, List.getElem?_cons_zero]; rfl) (by rfl) (by exact fun _ _ _ h => h) (by first | exact fun _ => c0 | exact fun h => absurd h (by decide +kernel)) ?_ ?_
    rotate_left 1
    focus (intro w8; go_simp; (try with_reducible rfl); done)
    try simp only [Act.put, List.setIfInBounds_toArray, List.set_cons_zero, List.set_cons_succ]
    refine until_one (i := 13) (by decide +kernel) (by simp only [List.getElem?_toArray, List.getElem?_cons_succ, List.getElem?_cons_zero]; rfl) ?_
    intro K hK
    go_simp
    go_wp2_with fail
    refine hK.out _ _ (by first | exact fun _ => c0 | exact fun h => absurd h (by decide +kernel)) ?_
    clear hK K
    try simp only [Act.put, List.setIfInBounds_toArray, List.set_cons_zero, List.set_cons_succ]
    refine until_done (by decide +kernel) ?_ _
    go_wp2_with fail
    refine bodyPost_ret (results_cell_row rfl _ _ w.heap.size _ _ _ _ rfl HP.out Try.underlying51 rfl (by kernel_rfl)) rfl (HPST.out _ _ ⟨ka, dk, kc, fa, df, fc, sv, rfl, fun h => by rw [HSV.out h], EK.out, EF.out, HTE.out, Kk.out, Kf.out⟩)

end Go.Proofs.Ytkdhchdhgmaolaa.Cd
