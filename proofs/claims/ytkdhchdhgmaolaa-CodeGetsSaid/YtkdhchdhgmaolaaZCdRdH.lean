/-
  A subscription that is read, walked.
-/
import Derived.Test.YtkdhchdhgmaolaaZTzG
namespace Go.Proofs.Ytkdhchdhgmaolaa.Cd
open Go.RowKit
open Pk Va
set_option linter.unusedVariables false
set_option linter.unusedSimpArgs false

def pSub (l : List UInt8) (b : Nat) : Rs SubP :=
  let i := pNum l b
  let p := pNum i.2.1 i.2.2
  let a := pText 24 p.2.1 p.2.2
  (⟨i.1, a.1, p.1⟩, a.2)
def SubR (H r : Nat) (X : Rs SubP) (w : World) (e : Ending) (w' : World) : Prop :=
  e = .returned (.agg #[.int .i64 X.1.id, .string (S X.1.role), .int .i64 X.1.past]) ∧ RdTo H r X.2.1 X.2.2 w w'

set_option maxRecDepth 100000 in
set_option maxHeartbeats 4000000 in
theorem sub_r (H r R : Nat) (l : List UInt8) (hl : l.length ≤ 2000000) (bad : Nat) (w : World) (h : RdrR H r R l bad w) :
    Calls Try.prog 54 #[.pointer (some ⟨r, 0, none⟩)] w fun e w' => SubR H r (pSub l bad) w e w' := by
  obtain ⟨⟨xi, l1, b1⟩, h0⟩ : ∃ y, pNum l bad = y := ⟨_, rfl⟩
  obtain ⟨⟨xp, l2, b2⟩, h1⟩ : ∃ y, pNum l1 b1 = y := ⟨_, rfl⟩
  obtain ⟨⟨xa, l3, b3⟩, h2⟩ : ∃ y, pText 24 l2 b2 = y := ⟨_, rfl⟩
  have hX : pSub l bad = (⟨xi, xa, xp⟩, l3, b3) := by unfold pSub; simp only [h0, h1, h2]
  rw [hX]
  have s1 : l1.length ≤ 2000000 := by have := rdG_short (0 : Int) (decN l) l bad; unfold pNum at h0; rw [h0] at this; exact Nat.le_trans this hl
  have s2 : l2.length ≤ 2000000 := by have := rdG_short (0 : Int) (decN l1) l1 b1; unfold pNum at h1; rw [h1] at this; exact Nat.le_trans this s1
  have kk := ((Below.refl w.heap.size w).alloc (Nat.le_refl _) (.cells #[.int .i64 0, .string ⟨#[]⟩, .int .i64 0] 63)).drew
  have hR0 := h.below kk
  have c0 := hR0.c0
  have HZ := Lib.hid (show (w.alloc (.cells #[.int .i64 0, .string ⟨#[]⟩, .int .i64 0] 63)).drew.heap[w.heap.size]? = _ from heap_alloc_new w (.cells #[.int .i64 0, .string ⟨#[]⟩, .int .i64 0] 63))
  have HFZ := Lib.hid ((h.off_new (.cells #[.int .i64 0, .string ⟨#[]⟩, .int .i64 0] 63)).below ((Below.refl _ _).drew))
  have HT0 := Lib.hid (RdTo.of_below h kk)
  have HR0 := Lib.hid hR0
  have HH := Lib.hid h.size
  have HC0 := Lib.hid (fun W R' (hR : RdrR H r R' l bad W) => rNumber_k R' l hl bad W hR.2.2.2.2)
  unfold pNum at h0
  rw [h0] at HC0
  have HC1 := Lib.hid (fun W R' (hR : RdrR H r R' l1 b1 W) => rNumber_k R' l1 s1 b1 W hR.2.2.2.2)
  unfold pNum at h1
  rw [h1] at HC1
  have HC2 := Lib.hid (fun W R' (hR : RdrR H r R' l2 b2 W) => name_r H r R' l2 s2 b2 W hR)
  rw [h2] at HC2
  have HS0 := Lib.hid (show (w.alloc (.cells #[.int .i64 0, .string ⟨#[]⟩, .int .i64 0] 63)).drew.heap.size = w.heap.size + 1 by simp)
  obtain ⟨Pst, hPst⟩ : ∃ Pst : Ending → World → Prop, Pst = SubR H r (⟨xi, xa, xp⟩, l3, b3) w := ⟨_, rfl⟩
  rw [show (fun e w' => SubR H r (⟨xi, xa, xp⟩, l3, b3) w e w') = Pst from hPst.symm]
  have HPST := Lib.hid (fun e w' (h : SubR H r (⟨xi, xa, xp⟩, l3, b3) w e w') => show Pst e w' by rw [hPst]; exact h)
  clear h kk hR0 hX hPst h0 h1 h2
  go_enter Try.func54, Try.ntmps54
  go_wp2_with fail
  go_region_with (first
    | (go_at_call 70; (with_reducible refine (HC0.out _ _ HR0.out).mono ?_); rintro e w1 ⟨rfl, r9, o9⟩; obtain ⟨hR9, t1⟩ := HR0.out.step r9 o9; have c1 := hR9.c0; have HR1 := Lib.hid hR9; have U1 := Lib.hid t1; clear hR9 t1 r9 o9)
    | (go_at_call 70; (with_reducible refine (HC1.out _ _ HR1.out).mono ?_); rintro e w2 ⟨rfl, r9, o9⟩; obtain ⟨hR9, t2⟩ := HR1.out.step r9 o9; have HR2 := Lib.hid hR9; have U2 := Lib.hid t2; clear hR9 t2 r9 o9)
    | (go_at_call 80; (with_reducible refine (HC2.out _ _ HR2.out).mono ?_); rintro e w3 ⟨rfl, t3⟩; obtain ⟨R3, hR9⟩ := t3.rdr; have HR3 := Lib.hid hR9; have U3 := Lib.hid t3; clear hR9 t3; have TT := ((U1.out.trans U2.out).trans U3.out); obtain ⟨hz, fz⟩ := TT.box HZ.out HFZ.out; have hne : w.heap.size ≠ r := fz.1; have a1 := U1.out.size; have a2 := U2.out.size; have a3 := U3.out.size; have a0 := HS0.out; have HTE := Lib.hid ((((HT0.out.trans TT).set HH.out (Nat.le_refl _) fz 0 (.int .i64 xi)).set HH.out (Nat.le_refl _) (fz.set (j := 0) hne (.int .i64 xi)) 1 (.string (S xa))).set HH.out (Nat.le_refl _) ((fz.set (j := 0) hne (.int .i64 xi)).set (j := 1) hne (.string (S xa))) 2 (.int .i64 xp)); have z0 := cell_of_row w3 w.heap.size 0 _ _ _ hz; have z1 := cell_of_row w3 w.heap.size 1 _ _ _ hz; have z2 := cell_of_row w3 w.heap.size 2 _ _ _ hz; have f0 := fun j => frozen_of_row w3 w.heap.size j _ _ hz; have HP := Lib.hid (heap_setCell_same _ w.heap.size 2 _ _ (.int .i64 xp) (heap_setCell_same _ w.heap.size 1 _ _ (.string (S xa)) (heap_setCell_same _ w.heap.size 0 _ _ (.int .i64 xi) hz))); clear TT hz fz hne a0 a1 a2 a3))
  all_goals
    (try simp only [Act.put, List.setIfInBounds_toArray, List.set_cons_zero, List.set_cons_succ])
    go_wp2_with fail
    refine bodyPost_ret (results_cell_row rfl _ _ w.heap.size _ _ _ _ rfl HP.out Try.underlying63 rfl (by kernel_rfl)) rfl (HPST.out _ _ ⟨rfl, HTE.out⟩)
    
end Go.Proofs.Ytkdhchdhgmaolaa.Cd
