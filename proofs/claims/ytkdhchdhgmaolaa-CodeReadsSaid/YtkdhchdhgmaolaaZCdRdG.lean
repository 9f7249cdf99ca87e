/-
  A message that is read, walked.
-/
import Derived.Test.YtkdhchdhgmaolaaZCdRdF
namespace Go.Proofs.Ytkdhchdhgmaolaa.Cd
open Go.RowKit
open Pk Va
set_option linter.unusedVariables false
set_option linter.unusedSimpArgs false

set_option maxRecDepth 100000 in
theorem row_r (H r R : Nat) (l : List UInt8) (hl : l.length ≤ 2000000) (bad : Nat) (w : World) (h : RdrR H r R l bad w) :
    Calls Try.prog 81 #[.pointer (some ⟨r, 0, none⟩)] w fun e w' => RowR H r (pAll pVal 16 l bad) w e w' := by
  have HC := Lib.hid (allV_r H r R l hl bad w h)
  obtain ⟨Pst, hPst⟩ : ∃ Pst : Ending → World → Prop, Pst = RowR H r (pAll pVal 16 l bad) w := ⟨_, rfl⟩
  rw [show (fun e w' => RowR H r (pAll pVal 16 l bad) w e w') = Pst from hPst.symm] at HC ⊢
  have HP := Lib.hid (fun e w' (h : Pst e w') => show ∃ v, e = .returned v by rw [hPst] at h; obtain ⟨q, d, cap, rfl, _⟩ := h; exact ⟨_, rfl⟩)
  clear h hPst
  go_enter Try.func81, Try.ntmps81
  go_wp2_with fail
  refine HC.out.mono ?_
  intro e w1 h1
  obtain ⟨v, rfl⟩ := HP.out e w1 h1
  have H1 := Lib.hid h1
  clear h1
  go_wp2_with fail
  exact H1.out

def pMail (l : List UInt8) (b : Nat) : Rs MailP :=
  let i := pNum l b
  let c := pText 24 i.2.1 i.2.2
  let k := pAll pVal 16 c.2.1 c.2.2
  let f := pAll pVal 16 k.2.1 k.2.2
  (⟨i.1, c.1, k.1, f.1⟩, f.2)
theorem pRow_short (l : List UInt8) (b : Nat) (h : l.length ≤ 2000000) : (pAll pVal 16 l b).2.1.length ≤ 2000000 := pAll_short pVal 2000000 (fun l b h => pVal_short l b 2000000 h (by omega)) 16 l b h
def MailR (H r : Nat) (X : Rs MailP) (w : World) (e : Ending) (w' : World) : Prop :=
  ∃ ka dk kc fa df fc, e = .returned (.agg #[.int .i64 X.1.id, .string (S X.1.chan), .slice ka dk.length kc, .slice fa df.length fc]) ∧ dk.map (·.1) = X.1.key ∧ df.map (·.1) = X.1.fields ∧ RdTo H r X.2.1 X.2.2 w w' ∧ VRow w.heap.size r w' ka dk kc ∧ VRow w.heap.size r w' fa df fc

set_option maxRecDepth 100000 in
set_option maxHeartbeats 4000000 in
theorem mail_r (H r R : Nat) (l : List UInt8) (hl : l.length ≤ 2000000) (bad : Nat) (w : World) (h : RdrR H r R l bad w) :
    Calls Try.prog 37 #[.pointer (some ⟨r, 0, none⟩)] w fun e w' => MailR H r (pMail l bad) w e w' := by
  obtain ⟨⟨i, l1, b1⟩, hi⟩ : ∃ y, pNum l bad = y := ⟨_, rfl⟩
  obtain ⟨⟨c, l2, b2⟩, hc⟩ : ∃ y, pText 24 l1 b1 = y := ⟨_, rfl⟩
  obtain ⟨⟨k, l3, b3⟩, hk⟩ : ∃ y, pAll pVal 16 l2 b2 = y := ⟨_, rfl⟩
  obtain ⟨⟨f, l4, b4⟩, hf⟩ : ∃ y, pAll pVal 16 l3 b3 = y := ⟨_, rfl⟩
  have hX : pMail l bad = (⟨i, c, k, f⟩, l4, b4) := by unfold pMail; simp only [hi, hc, hk, hf]
  rw [hX]
  have s1 : l1.length ≤ 2000000 := by have := rdG_short (0 : Int) (decN l) l bad; unfold pNum at hi; rw [hi] at this; exact Nat.le_trans this hl
  have s2 : l2.length ≤ 2000000 := by have := rdG_short ([] : List UInt8) (decX l1 24) l1 b1; unfold pText at hc; rw [hc] at this; exact Nat.le_trans this s1
  have s3 : l3.length ≤ 2000000 := by have := pRow_short l2 b2 s2; rw [hk] at this; exact this
  have kk := (Below.refl w.heap.size w).alloc (Nat.le_refl _) (.cells #[.int .i64 0, .string ⟨#[]⟩, .slice none 0 0, .slice none 0 0] 33)
  have hR0 := h.below kk
  have c0 := hR0.c0
  have HZ := Lib.hid (heap_alloc_new w (.cells #[.int .i64 0, .string ⟨#[]⟩, .slice none 0 0, .slice none 0 0] 33))
  have HFZ := Lib.hid (h.off_new (.cells #[.int .i64 0, .string ⟨#[]⟩, .slice none 0 0, .slice none 0 0] 33))
  have HN := Lib.hid (rNumber_k R l hl bad _ hR0.2.2.2.2)
  unfold pNum at hi
  rw [hi] at HN
  have HT0 := Lib.hid (RdTo.of_below h kk)
  have HR0 := Lib.hid hR0
  have HH := Lib.hid h.size
  have HC2 := Lib.hid (fun W R' (hR : RdrR H r R' l1 b1 W) => name_r H r R' l1 s1 b1 W hR)
  rw [hc] at HC2
  have HC3 := Lib.hid (fun W R' (hR : RdrR H r R' l2 b2 W) => row_r H r R' l2 s2 b2 W hR)
  rw [hk] at HC3
  have HC4 := Lib.hid (fun W R' (hR : RdrR H r R' l3 b3 W) => row_r H r R' l3 s3 b3 W hR)
  rw [hf] at HC4
  have hsz0 : (w.alloc (.cells #[.int .i64 0, .string ⟨#[]⟩, .slice none 0 0, .slice none 0 0] 33)).heap.size = w.heap.size + 1 := by simp
  have HS0 := Lib.hid hsz0
  obtain ⟨Pst, hPst⟩ : ∃ Pst : Ending → World → Prop, Pst = MailR H r (⟨i, c, k, f⟩, l4, b4) w := ⟨_, rfl⟩
  rw [show (fun e w' => MailR H r (⟨i, c, k, f⟩, l4, b4) w e w') = Pst from hPst.symm]
  have HPST := Lib.hid (fun e w' (h : MailR H r (⟨i, c, k, f⟩, l4, b4) w e w') => show Pst e w' by rw [hPst]; exact h)
  clear h kk hR0 hX hi hc hk hf hPst hsz0
  go_enter Try.func37, Try.ntmps37
  go_wp2_with fail
  refine HN.out.mono ?_
  rintro e w1 ⟨rfl, r1, o1⟩
  obtain ⟨hR1, t1⟩ := HR0.out.step r1 o1
  have HR1 := Lib.hid hR1
  have T1 := Lib.hid t1
  clear r1 o1 hR1 t1
  go_wp2_with fail
  refine (HC2.out _ _ HR1.out).mono ?_
  rintro e w2 ⟨rfl, t2⟩
  obtain ⟨R2, hR2⟩ := t2.rdr
  have HR2 := Lib.hid hR2
  have T2 := Lib.hid (T1.out.trans t2)
  clear t2 hR2
  go_wp2_with fail
  refine (HC3.out _ _ HR2.out).mono ?_
  rintro e w3 ⟨ka, dk, kc, rfl, ek, t3, vk⟩
  obtain ⟨R3, hR3⟩ := t3.rdr
  have HR3 := Lib.hid hR3
  have T3 := Lib.hid (T2.out.trans t3)
  have VK := Lib.hid vk
  have EK := Lib.hid ek
  clear t3 hR3 vk ek
  go_wp2_with fail
  refine (HC4.out _ _ HR3.out).mono ?_
  rintro e w4 ⟨fa, df, fc, rfl, ef, t4, vf⟩
  have T4 := T3.out.trans t4
  obtain ⟨hz, fz⟩ := T4.box HZ.out HFZ.out
  have a0 := T2.out.size
  have a1 := T3.out.size
  have a2 := HS0.out
  have hlt : w.heap.size < w2.heap.size := by omega
  have vk4 := (VK.out.keep HR3.out t4).mono (B' := w.heap.size + 1) (by omega)
  have vf4 := vf.mono (B' := w.heap.size + 1) (by omega)
  have hne : w.heap.size ≠ r := fz.1
  have VK5 := Lib.hid (((((vk4.set (j := 0) (Nat.lt_succ_self _) hne (.int .i64 i)).set (j := 1) (Nat.lt_succ_self _) hne (.string (S c))).set (j := 2) (Nat.lt_succ_self _) hne (.slice ka dk.length kc)).set (j := 3) (Nat.lt_succ_self _) hne (.slice fa df.length fc)).mono (Nat.le_succ _))
  have VF5 := Lib.hid (((((vf4.set (j := 0) (Nat.lt_succ_self _) hne (.int .i64 i)).set (j := 1) (Nat.lt_succ_self _) hne (.string (S c))).set (j := 2) (Nat.lt_succ_self _) hne (.slice ka dk.length kc)).set (j := 3) (Nat.lt_succ_self _) hne (.slice fa df.length fc)).mono (Nat.le_succ _))
  have HTE := Lib.hid ((HT0.out.trans T4).bput HH.out (Nat.le_refl _) fz (.int .i64 i) (.string (S c)) (.slice ka dk.length kc) (.slice fa df.length fc))
  have z0 := cell_of_row w4 w.heap.size 0 _ _ _ hz
  have z1 := cell_of_row w4 w.heap.size 1 _ _ _ hz
  have z2 := cell_of_row w4 w.heap.size 2 _ _ _ hz
  have z3 := cell_of_row w4 w.heap.size 3 _ _ _ hz
  have f0 := fun j => frozen_of_row w4 w.heap.size j _ _ hz
  have HP := Lib.hid (heap_setCell_same _ w.heap.size 3 _ _ (.slice fa df.length fc) (heap_setCell_same _ w.heap.size 2 _ _ (.slice ka dk.length kc) (heap_setCell_same _ w.heap.size 1 _ _ (.string (S c)) (heap_setCell_same w4 w.heap.size 0 _ _ (.int .i64 i) hz))))
  have EF := Lib.hid ef
  clear T4 hz fz a0 a1 a2 hlt vk4 vf4 hne t4 vf ef
  go_wp2_with fail
  refine bodyPost_ret (results_cell_row rfl _ _ w.heap.size _ _ _ _ rfl HP.out Try.underlying33 rfl (by kernel_rfl)) rfl (HPST.out _ _ ⟨ka, dk, kc, fa, df, fc, rfl, EK.out, EF.out, HTE.out, VK5.out, VF5.out⟩)

end Go.Proofs.Ytkdhchdhgmaolaa.Cd
