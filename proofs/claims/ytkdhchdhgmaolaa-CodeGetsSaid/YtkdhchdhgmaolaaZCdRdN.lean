/-
  An artifact that is read, walked.
-/
import Derived.Test.YtkdhchdhgmaolaaZUntil
import Derived.Test.YtkdhchdhgmaolaaZTzJ
namespace Go.Proofs.Ytkdhchdhgmaolaa.Cd
open Go.RowKit
open Pk Va
set_option linter.unusedVariables false
set_option linter.unusedSimpArgs false

def ItemR (H r : Nat) (X : Rs ItemP) (w : World) (e : Ending) (w' : World) : Prop :=
  ∃ qa da ca qc cc qx dx cx, e = .returned (.agg #[.int .i64 X.1.id, .string (S X.1.typ), .string (S X.1.state), .int .i64 X.1.since, .slice qa da.length ca, .slice qc X.1.counts.length cc, .slice qx dx.length cx]) ∧ RdTo H r X.2.1 X.2.2 w w' ∧ da.map (·.1) = X.1.attrs ∧ dx.map MK.mail = X.1.box ∧ VRow w.heap.size r w' qa da ca ∧ CRow w.heap.size r w' qc X.1.counts ∧ MRow w.heap.size r w' qx dx cx

set_option maxRecDepth 100000 in
set_option maxHeartbeats 8000000 in
theorem item_r (H r R : Nat) (l : List UInt8) (hl : l.length ≤ 2000000) (bad : Nat) (w : World) (h : RdrR H r R l bad w) :
    Calls Try.prog 40 #[.pointer (some ⟨r, 0, none⟩)] w fun e w' => ItemR H r (pItem l bad) w e w' := by
  obtain ⟨⟨xi, l1, b1⟩, h0⟩ : ∃ y, pNum l bad = y := ⟨_, rfl⟩
  obtain ⟨⟨xs, l2, b2⟩, h1⟩ : ∃ y, pNum l1 b1 = y := ⟨_, rfl⟩
  obtain ⟨⟨xt, l3, b3⟩, h2⟩ : ∃ y, pText 24 l2 b2 = y := ⟨_, rfl⟩
  obtain ⟨⟨xz, l4, b4⟩, h3⟩ : ∃ y, pText 24 l3 b3 = y := ⟨_, rfl⟩
  obtain ⟨⟨xa, l5, b5⟩, h4⟩ : ∃ y, pAll pVal 16 l4 b4 = y := ⟨_, rfl⟩
  obtain ⟨⟨xc, l6, b6⟩, h5⟩ : ∃ y, pAll pCnt 16 l5 b5 = y := ⟨_, rfl⟩
  obtain ⟨⟨xx, l7, b7⟩, h6⟩ : ∃ y, pAll pMail 4096 l6 b6 = y := ⟨_, rfl⟩
  have hX : pItem l bad = (⟨xi, xt, xz, xs, xa, xc, xx⟩, l7, b7) := by unfold pItem; simp only [h0, h1, h2, h3, h4, h5, h6]
  rw [hX]
  have s1 : l1.length ≤ 2000000 := by have := rdG_short (0 : Int) (decN l) l bad; unfold pNum at h0; rw [h0] at this; exact Nat.le_trans this hl
  have s2 : l2.length ≤ 2000000 := by have := rdG_short (0 : Int) (decN l1) l1 b1; unfold pNum at h1; rw [h1] at this; exact Nat.le_trans this s1
  have s3 : l3.length ≤ 2000000 := by have := rdG_short ([] : List UInt8) (decX l2 24) l2 b2; unfold pText at h2; rw [h2] at this; exact Nat.le_trans this s2
  have s4 : l4.length ≤ 2000000 := by have := rdG_short ([] : List UInt8) (decX l3 24) l3 b3; unfold pText at h3; rw [h3] at this; exact Nat.le_trans this s3
  have s5 : l5.length ≤ 2000000 := by have := pRow_short l4 b4 s4; rw [h4] at this; exact this
  have s6 : l6.length ≤ 2000000 := by have := pCnts_short l5 b5 s5; rw [h5] at this; exact this
  have kk := ((Below.refl w.heap.size w).alloc (Nat.le_refl _) (.cells #[.int .i64 0, .string ⟨#[]⟩, .string ⟨#[]⟩, .int .i64 0, .slice none 0 0, .slice none 0 0, .slice none 0 0] 41)).drew
  have hR0 := h.below kk
  have c0 := hR0.c0
  have HZ := Lib.hid (show (w.alloc (.cells #[.int .i64 0, .string ⟨#[]⟩, .string ⟨#[]⟩, .int .i64 0, .slice none 0 0, .slice none 0 0, .slice none 0 0] 41)).drew.heap[w.heap.size]? = _ from heap_alloc_new w (.cells #[.int .i64 0, .string ⟨#[]⟩, .string ⟨#[]⟩, .int .i64 0, .slice none 0 0, .slice none 0 0, .slice none 0 0] 41))
  have HFZ := Lib.hid ((h.off_new (.cells #[.int .i64 0, .string ⟨#[]⟩, .string ⟨#[]⟩, .int .i64 0, .slice none 0 0, .slice none 0 0, .slice none 0 0] 41)).below ((Below.refl _ _).drew))
  have HT0 := Lib.hid (RdTo.of_below h kk)
  have HR0 := Lib.hid hR0
  have HH := Lib.hid h.size
  have HC0 := Lib.hid (fun W R' (hR : RdrR H r R' l bad W) => rNumber_k R' l hl bad W hR.2.2.2.2)
  unfold pNum at h0
  rw [h0] at HC0
  have HC1 := Lib.hid (fun W R' (hR : RdrR H r R' l1 b1 W) => rNumber_k R' l1 s1 b1 W hR.2.2.2.2)
  unfold pNum at h1
  rw [h1] at HC1
  have HC2 := Lib.hid (fun W R' (hR : RdrR H r R' l2 b2 W) => name_r H r R' l2 s2 b2 W hR)
  rw [h2] at HC2
  have HC3 := Lib.hid (fun W R' (hR : RdrR H r R' l3 b3 W) => name_r H r R' l3 s3 b3 W hR)
  rw [h3] at HC3
  have HC4 := Lib.hid (fun W R' (hR : RdrR H r R' l4 b4 W) => row_r H r R' l4 s4 b4 W hR)
  rw [h4] at HC4
  have HC5 := Lib.hid (fun W R' (hR : RdrR H r R' l5 b5 W) => allC_k H r R' l5 s5 b5 W hR)
  rw [h5] at HC5
  have HC6 := Lib.hid (fun W R' (hR : RdrR H r R' l6 b6 W) => allM_r H r R' l6 s6 b6 W hR)
  rw [h6] at HC6
  have HS0 := Lib.hid (show (w.alloc (.cells #[.int .i64 0, .string ⟨#[]⟩, .string ⟨#[]⟩, .int .i64 0, .slice none 0 0, .slice none 0 0, .slice none 0 0] 41)).drew.heap.size = w.heap.size + 1 by simp)
  obtain ⟨Pst, hPst⟩ : ∃ Pst : Ending → World → Prop, Pst = ItemR H r (⟨xi, xt, xz, xs, xa, xc, xx⟩, l7, b7) w := ⟨_, rfl⟩
  rw [show (fun e w' => ItemR H r (⟨xi, xt, xz, xs, xa, xc, xx⟩, l7, b7) w e w') = Pst from hPst.symm]
  have HPST := Lib.hid (fun e w' (h : ItemR H r (⟨xi, xt, xz, xs, xa, xc, xx⟩, l7, b7) w e w') => show Pst e w' by rw [hPst]; exact h)
  clear h kk hR0 hX hPst h0 h1 h2 h3 h4 h5 h6
  go_enter Try.func40, Try.ntmps40
  go_wp2_with fail
  refine until_start 9 (fun w7 => w7.cell? ⟨r, 0, none⟩ = some (.pointer (some ⟨R, 0, none⟩))) (by kernel_rfl) ?_
  refine untilT (v := ?_) 0 (by decide +kernel) (by decide +kernel) (by decide +kernel) (by kernel_rfl) (by simp only [List.getElem?_toArray, List.getElem?_cons_succ, List.getElem?_cons_zero]; rfl) (by rfl) (by exact fun _ _ _ h => h) (by first | exact fun _ => c0 | exact fun h => absurd h (by decide +kernel)) ?_ ?_
  rotate_left 1
  focus (intro w8; go_simp; (try with_reducible rfl); done)
  try simp only [Act.put, List.setIfInBounds_toArray, List.set_cons_zero, List.set_cons_succ]
  refine untilT (v := ?_) 1 (by decide +kernel) (by decide +kernel) (by decide +kernel) (by kernel_rfl) (by simp only [List.getElem?_toArray, List.getElem?_cons_succ, List.getElem?_cons_zero]; rfl) (by rfl) (by exact fun _ _ _ h => h) (by first | exact fun _ => c0 | exact fun h => absurd h (by decide +kernel)) ?_ ?_
  rotate_left 1
  focus (intro w8; go_simp; (try with_reducible rfl); done)
  try simp only [Act.put, List.setIfInBounds_toArray, List.set_cons_zero, List.set_cons_succ]
  refine untilT (v := ?_) 2 (by decide +kernel) (by decide +kernel) (by decide +kernel) (by kernel_rfl) (by simp only [List.getElem?_toArray, List.getElem?_cons_succ, List.getElem?_cons_zero]; rfl) (by rfl) (by exact fun _ _ _ h => h) (by first | exact fun _ => c0 | exact fun h => absurd h (by decide +kernel)) ?_ ?_
  rotate_left 1
  focus (intro w8; go_simp; (try with_reducible rfl); done)
  try simp only [Act.put, List.setIfInBounds_toArray, List.set_cons_zero, List.set_cons_succ]
  refine untilW (v := ?_) 3 [4, 9] (by decide) (by decide +kernel) (by decide +kernel) (by decide +kernel) (by decide +kernel) (by kernel_rfl) (by simp only [List.getElem?_toArray, List.getElem?_cons_succ, List.getElem?_cons_zero]; rfl) (by rfl) (by exact fun _ _ _ h => h) (by exact c0) ?_ ?_
  rotate_left 1
  focus (intro w8 hSw; (try dsimp only at hSw); go_simp; (try with_reducible rfl); done)
  try simp only [Act.put, List.setIfInBounds_toArray, List.set_cons_zero, List.set_cons_succ]
  refine untilT (v := ?_) 5 (by decide +kernel) (by decide +kernel) (by decide +kernel) (by kernel_rfl) (by simp only [List.getElem?_toArray, List.getElem?_cons_succ, List.getElem?_cons_zero]; rfl) (by rfl) (by exact fun _ _ _ h => h) (by first | exact fun _ => c0 | exact fun h => absurd h (by decide +kernel)) ?_ ?_
  rotate_left 1
  focus (intro w8; go_simp; (try with_reducible rfl); done)
  try simp only [Act.put, List.setIfInBounds_toArray, List.set_cons_zero, List.set_cons_succ]
  refine untilT (v := ?_) 6 (by decide +kernel) (by decide +kernel) (by decide +kernel) (by kernel_rfl) (by simp only [List.getElem?_toArray, List.getElem?_cons_succ, List.getElem?_cons_zero]; rfl) (by rfl) (by exact fun _ _ _ h => h) (by first | exact fun _ => c0 | exact fun h => absurd h (by decide +kernel)) ?_ ?_
  rotate_left 1
  focus (intro w8; go_simp; (try with_reducible rfl); done)
  try simp only [Act.put, List.setIfInBounds_toArray, List.set_cons_zero, List.set_cons_succ]
  refine untilT (v := ?_) 7 (by decide +kernel) (by decide +kernel) (by decide +kernel) (by kernel_rfl) (by simp only [List.getElem?_toArray, List.getElem?_cons_succ, List.getElem?_cons_zero]; rfl) (by rfl) (by exact fun _ _ _ h => h) (by first | exact fun _ => c0 | exact fun h => absurd h (by decide +kernel)) ?_ ?_
  rotate_left 1
  focus (intro w8; go_simp; (try with_reducible rfl); done)
  try simp only [Act.put, List.setIfInBounds_toArray, List.set_cons_zero, List.set_cons_succ]
  refine untilW (v := ?_) 8 [9] (by decide) (by decide +kernel) (by decide +kernel) (by decide +kernel) (by decide +kernel) (by kernel_rfl) (by simp only [List.getElem?_toArray, List.getElem?_cons_succ, List.getElem?_cons_zero]; rfl) (by rfl) (by exact fun _ _ _ h => h) (by exact c0) ?_ ?_
  rotate_left 1
  focus (intro w8 hSw; (try dsimp only at hSw); go_simp; (try with_reducible rfl); done)
  try simp only [Act.put, List.setIfInBounds_toArray, List.set_cons_zero, List.set_cons_succ]
  refine untilT (v := ?_) 10 (by decide +kernel) (by decide +kernel) (by decide +kernel) (by kernel_rfl) (by simp only [List.getElem?_toArray, List.getElem?_cons_succ, List.getElem?_cons_zero]; rfl) (by rfl) (by exact fun _ _ _ h => h) (by first | exact fun _ => c0 | exact fun h => absurd h (by decide +kernel)) ?_ ?_
  rotate_left 1
  focus (intro w8; go_simp; (try with_reducible rfl); done)
  try simp only [Act.put, List.setIfInBounds_toArray, List.set_cons_zero, List.set_cons_succ]
  refine untilT (v := ?_) 12 (by decide +kernel) (by decide +kernel) (by decide +kernel) (by kernel_rfl) (by simp only [List.getElem?_toArray, List.getElem?_cons_succ, List.getElem?_cons_zero]; rfl) (by rfl) (by exact fun _ _ _ h => h) (by first | exact fun _ => c0 | exact fun h => absurd h (by decide +kernel)) ?_ ?_
  rotate_left 1
  focus (intro w8; go_simp; (try with_reducible rfl); done)
  try simp only [Act.put, List.setIfInBounds_toArray, List.set_cons_zero, List.set_cons_succ]
  refine untilT (v := ?_) 14 (by decide +kernel) (by decide +kernel) (by decide +kernel) (by kernel_rfl) (by simp only [List.getElem?_toArray, List.getElem?_cons_succ, List.getElem?_cons_zero]; rfl) (by rfl) (by exact fun _ _ _ h => h) (by first | exact fun _ => c0 | exact fun h => absurd h (by decide +kernel)) ?_ ?_
  rotate_left 1
  focus (intro w8; go_simp; (try with_reducible rfl); done)
  try simp only [Act.put, List.setIfInBounds_toArray, List.set_cons_zero, List.set_cons_succ]
  refine untilT (v := ?_) 16 (by decide +kernel) (by decide +kernel) (by decide +kernel) (by kernel_rfl) (by simp only [List.getElem?_toArray, List.getElem?_cons_succ, List.getElem?_cons_zero]; rfl) (by rfl) (by exact fun _ _ _ h => h) (by first | exact fun _ => c0 | exact fun h => absurd h (by decide +kernel)) ?_ ?_
  rotate_left 1
  focus (intro w8; go_simp; (try with_reducible rfl); done)
  try simp only [Act.put, List.setIfInBounds_toArray, List.set_cons_zero, List.set_cons_succ]
  refine untilT (v := ?_) 18 (by decide +kernel) (by decide +kernel) (by decide +kernel) (by kernel_rfl) (by simp only [List.getElem?_toArray, List.getElem?_cons_succ, List.getElem?_cons_zero]; rfl) (by rfl) (by exact fun _ _ _ h => h) (by first | exact fun _ => c0 | exact fun h => absurd h (by decide +kernel)) ?_ ?_
  rotate_left 1
  focus (intro w8; go_simp; (try with_reducible rfl); done)
  try simp only [Act.put, List.setIfInBounds_toArray, List.set_cons_zero, List.set_cons_succ]
  refine until_one (i := 4) (by decide +kernel) (by simp only [List.getElem?_toArray, List.getElem?_cons_succ, List.getElem?_cons_zero]; rfl) ?_
  intro K hK
  go_simp
  go_at_call 70; (with_reducible refine (HC0.out _ _ HR0.out).mono ?_); rintro e w1 ⟨rfl, r9, o9⟩
  obtain ⟨hR9, t1⟩ := HR0.out.step r9 o9
  clear c0
  have c0 := hR9.c0
  have HR1 := Lib.hid hR9
  have U1 := Lib.hid t1
  clear hR9 t1 r9 o9
  go_wp2_with fail
  refine hK.out _ _ (by first | exact fun _ => c0 | exact fun h => absurd h (by decide +kernel)) ?_
  clear hK K
  try simp only [Act.put, List.setIfInBounds_toArray, List.set_cons_zero, List.set_cons_succ]
  refine until_one (i := 9) (by decide +kernel) (by simp only [List.getElem?_toArray, List.getElem?_cons_succ, List.getElem?_cons_zero]; rfl) ?_
  intro K hK
  go_simp
  go_at_call 70; (with_reducible refine (HC1.out _ _ HR1.out).mono ?_); rintro e w2 ⟨rfl, r9, o9⟩
  obtain ⟨hR9, t2⟩ := HR1.out.step r9 o9
  clear c0
  have c0 := hR9.c0
  have HR2 := Lib.hid hR9
  have U2 := Lib.hid t2
  clear hR9 t2 r9 o9
  go_wp2_with fail
  refine hK.out _ _ (by first | exact fun _ => c0 | exact fun h => absurd h (by decide +kernel)) ?_
  clear hK K
  try simp only [Act.put, List.setIfInBounds_toArray, List.set_cons_zero, List.set_cons_succ]
  refine until_one (i := 11) (by decide +kernel) (by simp only [List.getElem?_toArray, List.getElem?_cons_succ, List.getElem?_cons_zero]; rfl) ?_
  intro K hK
  go_simp
  go_at_call 80; (with_reducible refine (HC2.out _ _ HR2.out).mono ?_); rintro e w3 ⟨rfl, t3⟩
  obtain ⟨R3, hR9⟩ := t3.rdr
  clear c0
  have c0 := hR9.c0
  have HR3 := Lib.hid hR9
  have U3 := Lib.hid t3
  clear hR9 t3
  go_wp2_with fail
  refine hK.out _ _ (by first | exact fun _ => c0 | exact fun h => absurd h (by decide +kernel)) ?_
  clear hK K
  try simp only [Act.put, List.setIfInBounds_toArray, List.set_cons_zero, List.set_cons_succ]
  refine until_one (i := 13) (by decide +kernel) (by simp only [List.getElem?_toArray, List.getElem?_cons_succ, List.getElem?_cons_zero]; rfl) ?_
  intro K hK
  go_simp
  go_at_call 80; (with_reducible refine (HC3.out _ _ HR3.out).mono ?_); rintro e w4 ⟨rfl, t4⟩
  obtain ⟨R4, hR9⟩ := t4.rdr
  clear c0
  have c0 := hR9.c0
  have HR4 := Lib.hid hR9
  have U4 := Lib.hid t4
  clear hR9 t4
  go_wp2_with fail
  refine hK.out _ _ (by first | exact fun _ => c0 | exact fun h => absurd h (by decide +kernel)) ?_
  clear hK K
  try simp only [Act.put, List.setIfInBounds_toArray, List.set_cons_zero, List.set_cons_succ]
  refine until_one (i := 15) (by decide +kernel) (by simp only [List.getElem?_toArray, List.getElem?_cons_succ, List.getElem?_cons_zero]; rfl) ?_
  intro K hK
  go_simp
  go_at_call 81; (with_reducible refine (HC4.out _ _ HR4.out).mono ?_); rintro e w5 ⟨qa, da, ca, rfl, ea, t5, va⟩
  obtain ⟨R5, hR9⟩ := t5.rdr
  clear c0
  have c0 := hR9.c0
  have HR5 := Lib.hid hR9
  have U5 := Lib.hid t5
  clear hR9 t5
  have Va := Lib.hid va
  have EEa := Lib.hid ea
  clear va ea
  go_wp2_with fail
  refine hK.out _ _ (by first | exact fun _ => c0 | exact fun h => absurd h (by decide +kernel)) ?_
  clear hK K
  try simp only [Act.put, List.setIfInBounds_toArray, List.set_cons_zero, List.set_cons_succ]
  refine until_one (i := 17) (by decide +kernel) (by simp only [List.getElem?_toArray, List.getElem?_cons_succ, List.getElem?_cons_zero]; rfl) ?_
  intro K hK
  go_simp
  go_at_call 82; (with_reducible refine (HC5.out _ _ HR5.out).mono ?_); rintro e w6 ⟨qc, cc, rfl, t6, vc⟩
  obtain ⟨R6, hR9⟩ := t6.rdr
  clear c0
  have c0 := hR9.c0
  have HR6 := Lib.hid hR9
  have U6 := Lib.hid t6
  clear hR9 t6
  have Vc := Lib.hid vc
  clear vc
  go_wp2_with fail
  refine hK.out _ _ (by first | exact fun _ => c0 | exact fun h => absurd h (by decide +kernel)) ?_
  clear hK K
  try simp only [Act.put, List.setIfInBounds_toArray, List.set_cons_zero, List.set_cons_succ]
  refine until_one (i := 19) (by decide +kernel) (by simp only [List.getElem?_toArray, List.getElem?_cons_succ, List.getElem?_cons_zero]; rfl) ?_
  intro K hK
  go_simp
  go_at_call 84; (with_reducible refine (HC6.out _ _ HR6.out).mono ?_); rintro e w7 ⟨qx, dx, cx, rfl, ex, t7, vx⟩
  obtain ⟨R7, hR9⟩ := t7.rdr
  clear c0
  have c0 := hR9.c0
  have HR7 := Lib.hid hR9
  have U7 := Lib.hid t7
  clear hR9 t7
  have Vx := Lib.hid vx
  have EEx := Lib.hid ex
  clear vx ex
  clear c0
  have TT := ((((((U1.out.trans U2.out).trans U3.out).trans U4.out).trans U5.out).trans U6.out).trans U7.out)
  obtain ⟨hz, fz⟩ := TT.box HZ.out HFZ.out
  have hne : w.heap.size ≠ r := fz.1
  have a1 := U1.out.size
  have a2 := U2.out.size
  have a3 := U3.out.size
  have a4 := U4.out.size
  have a5 := U5.out.size
  have a6 := U6.out.size
  have a7 := U7.out.size
  have a0 := HS0.out
  have ka := (Va.out.keep HR5.out (U6.out.trans U7.out)).mono (B' := w.heap.size + 1) (by omega)
  have Ka := Lib.hid ((((((((ka.set (j := 0) (Nat.lt_succ_self _) hne (.int .i64 xi)).set (j := 1) (Nat.lt_succ_self _) hne (.string (S xt))).set (j := 2) (Nat.lt_succ_self _) hne (.string (S xz))).set (j := 3) (Nat.lt_succ_self _) hne (.int .i64 xs)).set (j := 4) (Nat.lt_succ_self _) hne (.slice qa da.length ca)).set (j := 5) (Nat.lt_succ_self _) hne (.slice qc xc.length cc)).set (j := 6) (Nat.lt_succ_self _) hne (.slice qx dx.length cx)).mono (Nat.le_succ _))
  have kc := (Vc.out.keep HR6.out U7.out).mono (B' := w.heap.size + 1) (by omega)
  have Kc := Lib.hid ((((((((kc.set (j := 0) (Nat.lt_succ_self _) hne (.int .i64 xi)).set (j := 1) (Nat.lt_succ_self _) hne (.string (S xt))).set (j := 2) (Nat.lt_succ_self _) hne (.string (S xz))).set (j := 3) (Nat.lt_succ_self _) hne (.int .i64 xs)).set (j := 4) (Nat.lt_succ_self _) hne (.slice qa da.length ca)).set (j := 5) (Nat.lt_succ_self _) hne (.slice qc xc.length cc)).set (j := 6) (Nat.lt_succ_self _) hne (.slice qx dx.length cx)).mono (Nat.le_succ _))
  have kx := Vx.out.mono (B' := w.heap.size + 1) (by omega)
  have Kx := Lib.hid ((((((((kx.set (j := 0) (Nat.lt_succ_self _) hne (.int .i64 xi)).set (j := 1) (Nat.lt_succ_self _) hne (.string (S xt))).set (j := 2) (Nat.lt_succ_self _) hne (.string (S xz))).set (j := 3) (Nat.lt_succ_self _) hne (.int .i64 xs)).set (j := 4) (Nat.lt_succ_self _) hne (.slice qa da.length ca)).set (j := 5) (Nat.lt_succ_self _) hne (.slice qc xc.length cc)).set (j := 6) (Nat.lt_succ_self _) hne (.slice qx dx.length cx)).mono (Nat.le_succ _))
  have HTE := Lib.hid ((((((((HT0.out.trans TT).set HH.out (Nat.le_refl _) fz 0 (.int .i64 xi)).set HH.out (Nat.le_refl _) (fz.set (j := 0) hne (.int .i64 xi)) 1 (.string (S xt))).set HH.out (Nat.le_refl _) ((fz.set (j := 0) hne (.int .i64 xi)).set (j := 1) hne (.string (S xt))) 2 (.string (S xz))).set HH.out (Nat.le_refl _) (((fz.set (j := 0) hne (.int .i64 xi)).set (j := 1) hne (.string (S xt))).set (j := 2) hne (.string (S xz))) 3 (.int .i64 xs)).set HH.out (Nat.le_refl _) ((((fz.set (j := 0) hne (.int .i64 xi)).set (j := 1) hne (.string (S xt))).set (j := 2) hne (.string (S xz))).set (j := 3) hne (.int .i64 xs)) 4 (.slice qa da.length ca)).set HH.out (Nat.le_refl _) (((((fz.set (j := 0) hne (.int .i64 xi)).set (j := 1) hne (.string (S xt))).set (j := 2) hne (.string (S xz))).set (j := 3) hne (.int .i64 xs)).set (j := 4) hne (.slice qa da.length ca)) 5 (.slice qc xc.length cc)).set HH.out (Nat.le_refl _) ((((((fz.set (j := 0) hne (.int .i64 xi)).set (j := 1) hne (.string (S xt))).set (j := 2) hne (.string (S xz))).set (j := 3) hne (.int .i64 xs)).set (j := 4) hne (.slice qa da.length ca)).set (j := 5) hne (.slice qc xc.length cc)) 6 (.slice qx dx.length cx))
  have z0 := cell_of_row w7 w.heap.size 0 _ _ _ hz
  have z1 := cell_of_row w7 w.heap.size 1 _ _ _ hz
  have z2 := cell_of_row w7 w.heap.size 2 _ _ _ hz
  have z3 := cell_of_row w7 w.heap.size 3 _ _ _ hz
  have z4 := cell_of_row w7 w.heap.size 4 _ _ _ hz
  have z5 := cell_of_row w7 w.heap.size 5 _ _ _ hz
  have z6 := cell_of_row w7 w.heap.size 6 _ _ _ hz
  have f0 := fun j => frozen_of_row w7 w.heap.size j _ _ hz
  have HP := Lib.hid (heap_setCell_same _ w.heap.size 6 _ _ (.slice qx dx.length cx) (heap_setCell_same _ w.heap.size 5 _ _ (.slice qc xc.length cc) (heap_setCell_same _ w.heap.size 4 _ _ (.slice qa da.length ca) (heap_setCell_same _ w.heap.size 3 _ _ (.int .i64 xs) (heap_setCell_same _ w.heap.size 2 _ _ (.string (S xz)) (heap_setCell_same _ w.heap.size 1 _ _ (.string (S xt)) (heap_setCell_same _ w.heap.size 0 _ _ (.int .i64 xi) hz)))))))
  clear TT hz fz hne a0 a1 a2 a3 a4 a5 a6 a7 ka kc kx
  go_wp2_with fail
  refine hK.out _ _ (by first | exact fun _ => c0 | exact fun h => absurd h (by decide +kernel)) ?_
  clear hK K
  try simp only [Act.put, List.setIfInBounds_toArray, List.set_cons_zero, List.set_cons_succ]
  refine untilT (v := ?_) 20 (by decide +kernel) (by decide +kernel) (by decide +kernel) (by kernel_rfl) (by simp only [List.getElem?_toArray, List.getElem?_cons_succ, List.getElem?_cons_zero]; rfl) (by rfl) (by exact fun _ _ _ h => h) (by first | exact fun _ => c0 | exact fun h => absurd h (by decide +kernel)) ?_ ?_
  rotate_left 1
  focus (intro w8; go_simp; (try with_reducible rfl); done)
  try simp only [Act.put, List.setIfInBounds_toArray, List.set_cons_zero, List.set_cons_succ]
  refine until_one (i := 21) (by decide +kernel) (by simp only [List.getElem?_toArray, List.getElem?_cons_succ, List.getElem?_cons_zero]; rfl) ?_
  intro K hK
  go_simp
  go_wp2_with fail
  refine hK.out _ _ (by first | exact fun _ => c0 | exact fun h => absurd h (by decide +kernel)) ?_
  clear hK K
  try simp only [Act.put, List.setIfInBounds_toArray, List.set_cons_zero, List.set_cons_succ]
  refine until_done (by decide +kernel) ?_ _
  go_wp2_with fail
  refine bodyPost_ret (results_cell_row rfl _ _ w.heap.size _ _ _ _ rfl HP.out Try.underlying41 rfl (by kernel_rfl)) rfl (HPST.out _ _ ⟨qa, da, ca, qc, cc, qx, dx, cx, rfl, HTE.out, EEa.out, EEx.out, Ka.out, Kc.out, Kx.out⟩)
  
end Go.Proofs.Ytkdhchdhgmaolaa.Cd
