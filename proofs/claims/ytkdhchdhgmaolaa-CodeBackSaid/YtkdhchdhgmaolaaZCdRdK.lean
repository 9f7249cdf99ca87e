/-
  A row of messages that is read, walked.
-/
import Derived.Test.YtkdhchdhgmaolaaZCdRdJ
namespace Go.Proofs.Ytkdhchdhgmaolaa.Cd
open Go.RowKit
open Pk Va
set_option linter.unusedVariables false
set_option linter.unusedSimpArgs false

def BoxR (H r : Nat) (X : Rs (List MailP)) (w : World) (e : Ending) (w' : World) : Prop :=
  ∃ q d cap, e = .returned (.slice q d.length cap) ∧ d.map MK.mail = X.1 ∧ RdTo H r X.2.1 X.2.2 w w' ∧ MRow w.heap.size r w' q d cap
theorem pMail_short (l : List UInt8) (b : Nat) (h : l.length ≤ 2000000) : (pMail l b).2.1.length ≤ 2000000 := by
  unfold pMail
  simp only
  exact pRow_short _ _ (pRow_short _ _ (Nat.le_trans (rdG_short _ _ _ _) (Nat.le_trans (rdG_short _ _ _ _) h)))

set_option maxRecDepth 100000 in
set_option maxHeartbeats 8000000 in
theorem allM_r (H r R : Nat) (l : List UInt8) (hl : l.length ≤ 2000000) (bad : Nat) (w : World) (h : RdrR H r R l bad w) :
    Calls Try.prog 84 #[.pointer (some ⟨r, 0, none⟩), .int .i64 4096, .func (Fn.func 37) #[] #[]] w fun e w' => BoxR H r (pAll pMail 4096 l bad) w e w' := by
  have c0 := h.c0
  have HSM := Lib.hid (rSmall_k R l hl bad 4096 (by omega) (by omega) w h.2.2.2.2)
  have hn16 := pSmall_le 4096 (by omega) l bad
  have hsh : (pSmall 4096 l bad).2.1.length ≤ 2000000 := Nat.le_trans (rdG_short _ _ _ _) hl
  unfold pAll
  unfold pSmall at *
  generalize rdG 0 (decS l 4096) l bad = y at *
  obtain ⟨n, l1, b1⟩ := y
  simp only at HSM hn16 hsh ⊢
  obtain ⟨X, hX⟩ : ∃ X, X = pLoop pMail n [] l1 b1 := ⟨_, rfl⟩
  rw [← hX]
  obtain ⟨Pst, hPst⟩ : ∃ Pst : Ending → World → Prop, Pst = BoxR H r X w := ⟨_, rfl⟩
  rw [show (fun e w' => BoxR H r X w e w') = Pst from hPst.symm]
  have HPST := Lib.hid (fun e w' (h : BoxR H r X w e w') => show Pst e w' by rw [hPst]; exact h)
  have HX := Lib.hid hX
  have HH := Lib.hid h
  have HSH := Lib.hid hsh
  clear h hX hsh hPst
  go_enter Try.func84, Try.ntmps84
  go_wp2_with fail
  refine HSM.out.mono ?_
  rintro e w1 ⟨rfl, r1, o1⟩
  have T1 := Lib.hid (HH.out.step r1 o1).2
  clear r1 o1 HSM
  go_wp2_with fail
  go_loopw [7, 15] (fun lv iv wr => ∃ (i : Nat) (acc : List MK) (li : List UInt8) (bi : Nat) (q : Option Addr) (cap : Nat), i ≤ n ∧ iv = .int .i64 i ∧ lv = .slice q acc.length cap ∧ acc.length ≤ i ∧ MRow w.heap.size r wr q acc cap ∧ RdTo H r li bi w wr ∧ li.length ≤ 2000000 ∧ X = pLoop pMail (n - i) (acc.map MK.mail) li bi) (fun _ iv _ => n - (intOf iv).toNat)
  case atStart => exact ⟨0, [], l1, b1, none, 0, Nat.zero_le _, rfl, rfl, by simp, MRow.nil _ _ _, T1.out, HSH.out, HX.out⟩
  case round =>
    obtain ⟨i, acc, li, bi, q, cap, hin, rfl, rfl, hai, hown, ht, hli, hx⟩ := hrel
    obtain ⟨Ri, hRi⟩ := ht.rdr
    have c0 := hRi.c0
    by_cases hlt : i < n
    · have hii : (i : Int) < (n : Int) := by omega
      have HC := Lib.hid (mail_r H r Ri li hli bi wr hRi)
      have hsub : n - i = (n - (i + 1)) + 1 := by omega
      rw [hsub] at hx
      unfold pLoop at hx
      have hsh2 : (pMail li bi).2.1.length ≤ 2000000 := pMail_short li bi hli
      generalize pMail li bi = z at *
      obtain ⟨x, l2, b2⟩ := z
      simp only at HC hx hsh2
      have HXX := Lib.hid hx
      have HT := Lib.hid ht
      have HRI := Lib.hid hRi
      have HOWN := Lib.hid hown
      have HAI := Lib.hid hai
      have HSH2 := Lib.hid hsh2
      clear hx ht hown hsub hai hsh2 hRi
      go_wp2_with fail
      refine HC.out.mono ?_
      rintro e w3 ⟨qk, dk, ck, qf, df, cf, rfl, ek, ef, t3, vk, vf⟩
      simp only at t3 ek ef
      obtain ⟨R3, hR3⟩ := t3.rdr
      have hown3 := HOWN.out.keep HRI.out t3
      obtain ⟨y, hy⟩ : ∃ y : MK, y = ⟨x.id, x.chan, qk, dk, ck, qf, df, cf⟩ := ⟨_, rfl⟩
      have hyx : y.mail = x := by rw [hy]; unfold MK.mail; simp only; rw [ek, ef]
      have ka := (Below.refl w3.heap.size w3).alloc (Nat.le_refl _) (.cells #[.int .i64 x.id, .string (S x.chan), .slice qk dk.length ck, .slice qf df.length cf] 33)
      have t4 := RdTo.of_below hR3 ka
      have hb4 := heap_alloc_new w3 (.cells #[.int .i64 x.id, .string (S x.chan), .slice qk dk.length ck, .slice qf df.length cf] 33)
      have hown4 := hown3.keep hR3 t4
      have vk4 := vk.keep hR3 t4
      have vf4 := vf.keep hR3 t4
      have hno : ∀ g0, (Value.slice q acc.length cap).ownBlock = some g0 → NoBlk g0 qk dk ck ∧ NoBlk g0 qf df cf := fun g0 e0 => by
        have := (World.ownsRow.lt HOWN.out.own g0 e0).2
        exact ⟨NoBlk.lt vk this, NoBlk.lt vf this⟩
      obtain ⟨W4, hW4⟩ : ∃ W4, W4 = w3.alloc (.cells #[.int .i64 x.id, .string (S x.chan), .slice qk dk.length ck, .slice qf df.length cf] 33) := ⟨_, rfl⟩
      rw [← hW4] at t4 hb4 hown4 vk4 vf4
      obtain ⟨R4, hR4⟩ := t4.rdr
      have HT4 := Lib.hid ((HT.out.trans t3).trans t4)
      have c04 := hR4.c0
      have HB4 := Lib.hid (bad_any R4 l2 b2 W4 hR4.2.2.2.2)
      have HWS := Lib.hid (show w.heap.size ≤ w3.heap.size from Nat.le_trans HT.out.size t3.size)
      have HC0 := Lib.hid c04
      have y0 := cell_of_row W4 w3.heap.size 0 _ _ _ hb4
      have y1 := cell_of_row W4 w3.heap.size 1 _ _ _ hb4
      have y2 := cell_of_row W4 w3.heap.size 2 _ _ _ hb4
      have y3 := cell_of_row W4 w3.heap.size 3 _ _ _ hb4
      have HR4 := Lib.hid hR4
      have HO4 := Lib.hid hown4
      have HN4 := Lib.hid (vk4.mono (B' := w.heap.size) HT.out.size)
      have HF4 := Lib.hid (vf4.mono (B' := w.heap.size) HT.out.size)
      have HNO := Lib.hid hno
      have HYX := Lib.hid hyx
      have HY := Lib.hid hy
      rw [hW4] at c04
      have HW4 := Lib.hid hW4
      clear hW4 t3 vk vf ek ef hR3 hown3 ka t4 hb4 hown4 vk4 vf4 hno hyx hR4 hy
      go_wp2_with fail
      rw [← HW4.out]
      clear c04
      have c04 := HC0.out
      by_cases hb2 : b2 = 0
      · subst hb2
        have hx3 := HXX.out
        rw [if_neg (by omega)] at hx3
        obtain ⟨q5, cap5, w5, hrun, hown5, hgrow⟩ := HO4.out.app HR4.out (by have := HT4.out.size; omega) (by have := HAI.out; omega) ⟨x.id, x.chan, qk, dk, ck, qf, df, cf⟩ HN4.out HF4.out HNO.out W4.heap.size rfl
        have kk := (Below.refl W4.heap.size W4).alloc (Nat.le_refl _) (.cells #[.int .i64 x.id, .string (S x.chan), .slice qk dk.length ck, .slice qf df.length cf] 33)
        have hoff5 := off_row (HR4.out.below kk) (HO4.out.below HR4.out kk).own ne_mail.1 ne_mail.2
        have HT5 := Lib.hid ((HT4.out.trans (RdTo.of_below HR4.out kk)).grown HH.out.size hgrow (fun g hg => ⟨(World.ownsRow.lt HO4.out.own g hg).1, hoff5 g hg⟩))
        have HRUN := Lib.hid hrun
        have HO5 := Lib.hid hown5
        have HX5 := Lib.hid hx3
        clear hrun hown5 hgrow kk hoff5 hx3
        refine HB4.out.mono ?_
        rintro e w6 ⟨rfl, rfl⟩
        go_wp2_with (at_builtin; refine wpList_app rfl _ _ _ _ rfl rfl rfl _ _ HRUN.out ?_)
        go_wp2_with fail
        go_roundw
        case rel => exact ⟨i + 1, acc ++ [⟨x.id, x.chan, qk, dk, ck, qf, df, cf⟩], l2, 0, q5, cap5, by omega, by go_num, by rw [List.length_append]; rfl, by have := HAI.out; simp; omega, HO5.out, HT5.out, HSH2.out, by rw [HX5.out, List.map_append, List.map_singleton, ← HY.out, HYX.out]⟩
        case measure => simp [intOf]; omega
      · have h3 := (err_ne b2 hb2).1
        have hx3 := HXX.out
        rw [if_pos (by omega)] at hx3
        have HX4 := Lib.hid hx3
        clear hx3 hb2
        refine HB4.out.mono ?_
        rintro e w6 ⟨rfl, rfl⟩
        go_wp2_with fail
        exact HPST.out _ _ (by rw [HX4.out]; exact ⟨none, [], 0, rfl, rfl, HT4.out, MRow.nil _ _ _⟩)
    · have hie : i = n := by omega
      have hii : ¬ (i : Int) < (n : Int) := by omega
      rw [hie, Nat.sub_self] at hx
      unfold pLoop at hx
      have HT := Lib.hid ht
      have HOWN := Lib.hid hown
      have HXX := Lib.hid hx
      clear ht hx hown hRi
      go_wp2_with fail
      exact HPST.out _ _ (by rw [HXX.out]; exact ⟨q, acc, cap, rfl, rfl, HT.out, HOWN.out⟩)

end Go.Proofs.Ytkdhchdhgmaolaa.Cd
