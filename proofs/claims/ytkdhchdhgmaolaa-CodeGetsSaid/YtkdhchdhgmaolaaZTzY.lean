/-
  Several texts in one: DdY, DdZ, DdL, DdM, DdN, DdO.
-/
import Derived.Test.YtkdhchdhgmaolaaZTzF
import Derived.Test.YtkdhchdhgmaolaaZCdGetE
import Derived.Test.YtkdhchdhgmaolaaZCdGetD
import Derived.Test.YtkdhchdhgmaolaaZTzS
import Derived.Test.YtkdhchdhgmaolaaZCdSameR
import Derived.Test.YtkdhchdhgmaolaaZCdAwake
import Derived.Test.YtkdhchdhgmaolaaZTzM
import Derived.Test.YtkdhchdhgmaolaaZDdI
import Derived.Test.YtkdhchdhgmaolaaZCdGetI
namespace Go.Proofs.Ytkdhchdhgmaolaa.Dd
open Go.RowKit
open Pk Va
open Cd (pByte pNum pTruth pText pSmall pSym pVal pLoop pAll pRej pMail pEvent pDead Rs getE getD GotE GotD MailP EventP DeadP)
set_option linter.unusedVariables false
set_option linter.unusedSimpArgs false

theorem Sim.endV {α : Type} {X : Rs α} {y : α} {l : List UInt8} {b : Nat} (h : Sim X y l b) : endV l b = endV X.2.1 X.2.2 := by
  obtain ⟨h1, h2⟩ := h
  by_cases hb : b = 0
  · obtain ⟨_, e⟩ := h2 hb
    rw [e, h1]
  · unfold Pk.endV
    rw [if_pos hb, if_pos (by rw [← h1]; exact hb), h1]
theorem Cd_endV_zero {α : Type} {X : Rs α} {y : α} {l : List UInt8} {b : Nat} (h : 0 = Pk.endV X.2.1 X.2.2) (s : Sim X y l b) : b = 0 := by
  rw [s.1]
  exact Cd.endV_zero h.symm

set_option maxRecDepth 100000 in
set_option maxHeartbeats 8000000 in
theorem rGetEvent_any (s : List UInt8) (hs : s.length ≤ 2000000) (w : World) :
    Calls Try.prog 20 #[.string (S s)] w fun e w' => GotE (getE s) w e w' := by
  obtain ⟨⟨xn, l1, b1⟩, h0⟩ : ∃ y, pNum s 0 = y := ⟨_, rfl⟩
  obtain ⟨⟨xt, l2, b2⟩, h1⟩ : ∃ y, pNum l1 b1 = y := ⟨_, rfl⟩
  obtain ⟨⟨xi, l3, b3⟩, h2⟩ : ∃ y, pNum l2 b2 = y := ⟨_, rfl⟩
  obtain ⟨⟨xa, l4, b4⟩, h3⟩ : ∃ y, pText 24 l3 b3 = y := ⟨_, rfl⟩
  obtain ⟨⟨xy, l5, b5⟩, h4⟩ : ∃ y, pText 24 l4 b4 = y := ⟨_, rfl⟩
  obtain ⟨⟨xz, l6, b6⟩, h5⟩ : ∃ y, pText 24 l5 b5 = y := ⟨_, rfl⟩
  obtain ⟨X, hXX⟩ : ∃ X, pEvent s 0 = X := ⟨_, rfl⟩
  have hX : X = (⟨xn, xt, xa, xi, xy, xz, (pAll pVal 16 l6 b6).1⟩, (pAll pVal 16 l6 b6).2) := by rw [← hXX]; unfold pEvent; simp only [h0, h1, h2, h3, h4, h5]
  have HX := Lib.hid hXX
  have HXE := Lib.hid hX
  clear hXX hX
  obtain ⟨W0, hW0⟩ : ∃ W0, W0 = (w.alloc (.cells #[.int .i64 0, .int .i64 0, .string ⟨#[]⟩, .int .i64 0, .string ⟨#[]⟩, .string ⟨#[]⟩, .slice none 0 0] 57)).alloc (.cells #[.string (S s), .int .i64 0, .int .i64 0] 87) := ⟨_, rfl⟩
  have hsz : W0.heap.size = w.heap.size + 1 + 1 := by rw [hW0]; simp
  have hb0 : Below w.heap.size w W0 := by rw [hW0]; exact ((Below.refl w.heap.size w).alloc (Nat.le_refl _) _).alloc (by simp) _
  have hz0 : W0.heap[w.heap.size]? = some (.cells #[.int .i64 0, .int .i64 0, .string ⟨#[]⟩, .int .i64 0, .string ⟨#[]⟩, .string ⟨#[]⟩, .slice none 0 0] 57 (0, 0)) := by rw [hW0]; exact (((Below.refl _ _).alloc (Nat.le_refl _) _).block _ (by simp)).trans (heap_alloc_new w _)
  have hr0 : W0.heap[w.heap.size + 1]? = some (.cells #[.string (S s), .int .i64 0, .int .i64 0] 87 (0, 0)) := by rw [hW0]; have := heap_alloc_new (w.alloc (.cells #[.int .i64 0, .int .i64 0, .string ⟨#[]⟩, .int .i64 0, .string ⟨#[]⟩, .string ⟨#[]⟩, .slice none 0 0] 57)) (.cells #[.string (S s), .int .i64 0, .int .i64 0] 87); rwa [show (w.alloc (.cells #[.int .i64 0, .int .i64 0, .string ⟨#[]⟩, .int .i64 0, .string ⟨#[]⟩, .string ⟨#[]⟩, .slice none 0 0] 57)).heap.size = w.heap.size + 1 by simp] at this
  have hR0 : RdrR (w.heap.size + 1) (w.heap.size + 1) (w.heap.size + 1) s 0 W0 := ⟨Nat.le_refl _, rfl, rdd (b := S s) (a := 0) hr0 (Nat.zero_le _) (by rw [S_size]; exact hs) (by rw [S_toList]; rfl) (by omega)⟩
  have HRQ := Lib.hid (show (w.heap.size + 1) = w.heap.size + 1 from rfl)
  have T0 := Lib.hid (RdTo.of_below hR0 (Below.refl _ _))
  have HB0 := Lib.hid hb0
  have HSZ := Lib.hid hsz
  have HZ0 := Lib.hid hz0
  have HW0 := Lib.hid hW0
  clear hb0 hz0 hr0 hR0 hsz hW0
  go_enter Try.func20, Try.ntmps20
  go_wp2_with fail
  rw [← HW0.out]
  have hc := dNumber_any (w.heap.size + 1) s 0 _ T0.out.rdr.rd
  rw [show rdG 0 (decN s) s 0 = (xn, l1, b1) from h0] at hc
  simp only at hc
  refine hc.mono ?_
  clear hc
  rintro e w1 ⟨rfl, r9, o9⟩
  obtain ⟨_, t9⟩ := T0.out.rdr.step r9 o9
  clear r9 o9
  have hsz1 := T0.out.size
  obtain ⟨hz9, fz9⟩ := t9.box HZ0.out ⟨by have := HRQ.out; omega, lt_of_heapV HZ0.out⟩
  have ka1 := (Below.refl w1.heap.size w1).alloc (Nat.le_refl _) (.cells #[.int .i64 xn, .int .i64 0, .string ⟨#[]⟩, .int .i64 0, .string ⟨#[]⟩, .string ⟨#[]⟩, .slice none 0 0] 57)
  have tn := (T0.out.trans t9).trans (RdTo.of_below t9.rdr ka1)
  have hx := heap_alloc_new w1 (.cells #[.int .i64 xn, .int .i64 0, .string ⟨#[]⟩, .int .i64 0, .string ⟨#[]⟩, .string ⟨#[]⟩, .slice none 0 0] 57)
  have hz := (ka1.block _ (lt_of_heapV hz9)).trans hz9
  obtain ⟨W1, hW1⟩ : ∃ W1, W1 = w1.alloc (.cells #[.int .i64 xn, .int .i64 0, .string ⟨#[]⟩, .int .i64 0, .string ⟨#[]⟩, .string ⟨#[]⟩, .slice none 0 0] 57) := ⟨_, rfl⟩
  have hXB : w.heap.size + 1 + 1 ≤ w1.heap.size := by have := t9.size; have := HSZ.out; omega
  rw [← hW1] at tn hx hz
  have T1 := Lib.hid tn
  have HX1 := Lib.hid hx
  have HZ1 := Lib.hid hz
  have HW1 := Lib.hid hW1
  have HXB := Lib.hid hXB
  clear tn hx hz ka1 hz9 fz9 t9 hsz1 hW1 hXB
  go_wp2_with fail
  rw [← HW1.out]
  have hc := dNumber_any (w.heap.size + 1) l1 b1 _ T1.out.rdr.rd
  rw [show rdG 0 (decN l1) l1 b1 = (xt, l2, b2) from h1] at hc
  simp only at hc
  refine hc.mono ?_
  clear hc
  rintro e w2 ⟨rfl, r9, o9⟩
  obtain ⟨_, t9⟩ := T1.out.rdr.step r9 o9
  clear r9 o9
  have hsz2 := T1.out.size
  obtain ⟨hz9, fz9⟩ := t9.box HZ1.out ⟨by have := HRQ.out; omega, lt_of_heapV HZ1.out⟩
  obtain ⟨hx9, fx9⟩ := t9.box HX1.out ⟨by have := HRQ.out; have := HXB.out; omega, lt_of_heapV HX1.out⟩
  have tn := T1.out.trans t9
  have y1 := cell_of_row w2 w1.heap.size 1 _ _ (0, 0) hx9
  have fy := fun j => frozen_of_row w2 w1.heap.size j _ _ hx9
  have T2 := Lib.hid (tn.set (by have := HSZ.out; omega) (by have := HXB.out; have := HSZ.out; omega) fx9 1 (.int .i64 xt))
  have HX2 := Lib.hid (heap_setCell_same _ w1.heap.size 1 _ _ (.int .i64 xt) hx9)
  simp only [List.setIfInBounds_toArray, List.set_cons_zero, List.set_cons_succ] at HX2
  have HZ2 := Lib.hid ((heap_setCell_other _ ⟨w1.heap.size, 1, none⟩ w.heap.size (.int .i64 xt) (by have := HXB.out; show w.heap.size ≠ w1.heap.size; omega)).trans hz9)
  clear tn hx9 fx9 hz9 fz9 t9 hsz2 
  go_wp2_with fail
  clear fy y1
  have hc := dNumber_any (w.heap.size + 1) l2 b2 _ T2.out.rdr.rd
  rw [show rdG 0 (decN l2) l2 b2 = (xi, l3, b3) from h2] at hc
  simp only at hc
  refine hc.mono ?_
  clear hc
  rintro e w3 ⟨rfl, r9, o9⟩
  obtain ⟨_, t9⟩ := T2.out.rdr.step r9 o9
  clear r9 o9
  have hsz3 := T2.out.size
  obtain ⟨hz9, fz9⟩ := t9.box HZ2.out ⟨by have := HRQ.out; omega, lt_of_heapV HZ2.out⟩
  obtain ⟨hx9, fx9⟩ := t9.box HX2.out ⟨by have := HRQ.out; have := HXB.out; omega, lt_of_heapV HX2.out⟩
  have tn := T2.out.trans t9
  have y3 := cell_of_row w3 w1.heap.size 3 _ _ (0, 0) hx9
  have fy := fun j => frozen_of_row w3 w1.heap.size j _ _ hx9
  have T3 := Lib.hid (tn.set (by have := HSZ.out; omega) (by have := HXB.out; have := HSZ.out; omega) fx9 3 (.int .i64 xi))
  have HX3 := Lib.hid (heap_setCell_same _ w1.heap.size 3 _ _ (.int .i64 xi) hx9)
  simp only [List.setIfInBounds_toArray, List.set_cons_zero, List.set_cons_succ] at HX3
  have HZ3 := Lib.hid ((heap_setCell_other _ ⟨w1.heap.size, 3, none⟩ w.heap.size (.int .i64 xi) (by have := HXB.out; show w.heap.size ≠ w1.heap.size; omega)).trans hz9)
  clear tn hx9 fx9 hz9 fz9 t9 hsz3 
  go_wp2_with fail
  clear fy y3
  have hc := dText_any (w.heap.size + 1) l3 b3 24 (by omega) _ T3.out.rdr.rd
  rw [show rdG [] (decX l3 ((24 : Nat) : Int)) l3 b3 = (xa, l4, b4) from h3] at hc
  simp only at hc
  refine hc.mono ?_
  clear hc
  rintro e w4 ⟨rfl, r9, o9⟩
  obtain ⟨_, t9⟩ := T3.out.rdr.step r9 o9
  clear r9 o9
  have hsz4 := T3.out.size
  obtain ⟨hz9, fz9⟩ := t9.box HZ3.out ⟨by have := HRQ.out; omega, lt_of_heapV HZ3.out⟩
  obtain ⟨hx9, fx9⟩ := t9.box HX3.out ⟨by have := HRQ.out; have := HXB.out; omega, lt_of_heapV HX3.out⟩
  have tn := T3.out.trans t9
  have y2 := cell_of_row w4 w1.heap.size 2 _ _ (0, 0) hx9
  have fy := fun j => frozen_of_row w4 w1.heap.size j _ _ hx9
  have T4 := Lib.hid (tn.set (by have := HSZ.out; omega) (by have := HXB.out; have := HSZ.out; omega) fx9 2 (.string (S xa)))
  have HX4 := Lib.hid (heap_setCell_same _ w1.heap.size 2 _ _ (.string (S xa)) hx9)
  simp only [List.setIfInBounds_toArray, List.set_cons_zero, List.set_cons_succ] at HX4
  have HZ4 := Lib.hid ((heap_setCell_other _ ⟨w1.heap.size, 2, none⟩ w.heap.size (.string (S xa)) (by have := HXB.out; show w.heap.size ≠ w1.heap.size; omega)).trans hz9)
  clear tn hx9 fx9 hz9 fz9 t9 hsz4 
  go_wp2_with fail
  clear fy y2
  have hc := dText_any (w.heap.size + 1) l4 b4 24 (by omega) _ T4.out.rdr.rd
  rw [show rdG [] (decX l4 ((24 : Nat) : Int)) l4 b4 = (xy, l5, b5) from h4] at hc
  simp only at hc
  refine hc.mono ?_
  clear hc
  rintro e w5 ⟨rfl, r9, o9⟩
  obtain ⟨_, t9⟩ := T4.out.rdr.step r9 o9
  clear r9 o9
  have hsz5 := T4.out.size
  obtain ⟨hz9, fz9⟩ := t9.box HZ4.out ⟨by have := HRQ.out; omega, lt_of_heapV HZ4.out⟩
  obtain ⟨hx9, fx9⟩ := t9.box HX4.out ⟨by have := HRQ.out; have := HXB.out; omega, lt_of_heapV HX4.out⟩
  have tn := T4.out.trans t9
  have y4 := cell_of_row w5 w1.heap.size 4 _ _ (0, 0) hx9
  have fy := fun j => frozen_of_row w5 w1.heap.size j _ _ hx9
  have T5 := Lib.hid (tn.set (by have := HSZ.out; omega) (by have := HXB.out; have := HSZ.out; omega) fx9 4 (.string (S xy)))
  have HX5 := Lib.hid (heap_setCell_same _ w1.heap.size 4 _ _ (.string (S xy)) hx9)
  simp only [List.setIfInBounds_toArray, List.set_cons_zero, List.set_cons_succ] at HX5
  have HZ5 := Lib.hid ((heap_setCell_other _ ⟨w1.heap.size, 4, none⟩ w.heap.size (.string (S xy)) (by have := HXB.out; show w.heap.size ≠ w1.heap.size; omega)).trans hz9)
  clear tn hx9 fx9 hz9 fz9 t9 hsz5 
  go_wp2_with fail
  clear fy y4
  have hc := dText_any (w.heap.size + 1) l5 b5 24 (by omega) _ T5.out.rdr.rd
  rw [show rdG [] (decX l5 ((24 : Nat) : Int)) l5 b5 = (xz, l6, b6) from h5] at hc
  simp only at hc
  refine hc.mono ?_
  clear hc
  rintro e w6 ⟨rfl, r9, o9⟩
  obtain ⟨_, t9⟩ := T5.out.rdr.step r9 o9
  clear r9 o9
  have hsz6 := T5.out.size
  obtain ⟨hz9, fz9⟩ := t9.box HZ5.out ⟨by have := HRQ.out; omega, lt_of_heapV HZ5.out⟩
  obtain ⟨hx9, fx9⟩ := t9.box HX5.out ⟨by have := HRQ.out; have := HXB.out; omega, lt_of_heapV HX5.out⟩
  have tn := T5.out.trans t9
  have y5 := cell_of_row w6 w1.heap.size 5 _ _ (0, 0) hx9
  have fy := fun j => frozen_of_row w6 w1.heap.size j _ _ hx9
  have T6 := Lib.hid (tn.set (by have := HSZ.out; omega) (by have := HXB.out; have := HSZ.out; omega) fx9 5 (.string (S xz)))
  have HX6 := Lib.hid (heap_setCell_same _ w1.heap.size 5 _ _ (.string (S xz)) hx9)
  simp only [List.setIfInBounds_toArray, List.set_cons_zero, List.set_cons_succ] at HX6
  have HZ6 := Lib.hid ((heap_setCell_other _ ⟨w1.heap.size, 5, none⟩ w.heap.size (.string (S xz)) (by have := HXB.out; show w.heap.size ≠ w1.heap.size; omega)).trans hz9)
  clear tn hx9 fx9 hz9 fz9 t9 hsz6 
  go_wp2_with fail
  clear fy y5
  refine (row_d (w.heap.size + 1) (w.heap.size + 1) l6 b6 _ T6.out.rdr).mono ?_
  rintro e w7 ⟨qv, dv, cv, l7, b7, rfl, hsim, hv16, t9, vv⟩
  have hsz7 := T6.out.size
  obtain ⟨hz9, fz9⟩ := t9.box HZ6.out ⟨by have := HRQ.out; omega, lt_of_heapV HZ6.out⟩
  obtain ⟨hx9, fx9⟩ := t9.box HX6.out ⟨by have := HRQ.out; have := HXB.out; omega, lt_of_heapV HX6.out⟩
  have tn := T6.out.trans t9
  have vvk := vv
  have y6 := cell_of_row w7 w1.heap.size 6 _ _ (0, 0) hx9
  have fy := fun j => frozen_of_row w7 w1.heap.size j _ _ hx9
  have T7 := Lib.hid (tn.set (by have := HSZ.out; omega) (by have := HXB.out; have := HSZ.out; omega) fx9 6 (.slice qv dv.length cv))
  have HX7 := Lib.hid (heap_setCell_same _ w1.heap.size 6 _ _ (.slice qv dv.length cv) hx9)
  simp only [List.setIfInBounds_toArray, List.set_cons_zero, List.set_cons_succ] at HX7
  have HZ7 := Lib.hid ((heap_setCell_other _ ⟨w1.heap.size, 6, none⟩ w.heap.size (.slice qv dv.length cv) (by have := HXB.out; show w.heap.size ≠ w1.heap.size; omega)).trans hz9)
  have VVn := Lib.hid ((vvk.mono (B' := w1.heap.size + 1) (by have := lt_of_heapV HX6.out; omega)).set (j := 6) (Nat.lt_succ_self _) fx9.1 (.slice qv dv.length cv))
  have HSIM := Lib.hid hsim
  clear hsim
  clear tn hx9 fx9 hz9 fz9 t9 hsz7 vvk vv
  have VV := Lib.hid VVn.out
  clear VVn
  go_wp2_with fail
  clear fy y6
  have HSIMX := Lib.hid (show Sim X ⟨xn, xt, xa, xi, xy, xz, dv.map (·.1)⟩ l7 b7 from by rw [HXE.out]; exact ⟨HSIM.out.1, fun e => by obtain ⟨e1, e2⟩ := HSIM.out.2 e; exact ⟨by rw [← e1], e2⟩⟩)
  have HEN := Lib.hid (dEnd_any (w.heap.size + 1) l7 b7 _ T7.out.rdr.rd)
  rw [HSIMX.out.endV] at HEN
  obtain ⟨ev, hev⟩ : ∃ ev, ev = endV X.2.1 X.2.2 := ⟨_, rfl⟩
  have hgx : getE s = if ev = 0 then (X.1, 0) else (⟨0, 0, [], 0, [], [], []⟩, ev) := by unfold getE; rw [HX.out, hev]
  rw [← hev] at HEN
  have HEV := Lib.hid hev
  have HGX := Lib.hid hgx
  clear hev hgx
  refine HEN.out.mono ?_
  rintro e w9 ⟨rfl, b9⟩
  have hz := (b9.block _ (lt_of_heapV HZ7.out)).trans HZ7.out
  have hx := (b9.block _ (lt_of_heapV HX7.out)).trans HX7.out
  have hbw := HB0.out.trans ((T7.out.trans (RdTo.of_below T7.out.rdr b9)).below.mono (Nat.le_succ _))
  have vv9 := VV.out.below T7.out.rdr b9
  have z0 := cell_of_row w9 w.heap.size 0 _ _ (0, 0) hz
  have x0 := cell_of_row w9 w1.heap.size 0 _ _ (0, 0) hx
  have z1 := cell_of_row w9 w.heap.size 1 _ _ (0, 0) hz
  have x1 := cell_of_row w9 w1.heap.size 1 _ _ (0, 0) hx
  have z2 := cell_of_row w9 w.heap.size 2 _ _ (0, 0) hz
  have x2 := cell_of_row w9 w1.heap.size 2 _ _ (0, 0) hx
  have z3 := cell_of_row w9 w.heap.size 3 _ _ (0, 0) hz
  have x3 := cell_of_row w9 w1.heap.size 3 _ _ (0, 0) hx
  have z4 := cell_of_row w9 w.heap.size 4 _ _ (0, 0) hz
  have x4 := cell_of_row w9 w1.heap.size 4 _ _ (0, 0) hx
  have z5 := cell_of_row w9 w.heap.size 5 _ _ (0, 0) hz
  have x5 := cell_of_row w9 w1.heap.size 5 _ _ (0, 0) hx
  have z6 := cell_of_row w9 w.heap.size 6 _ _ (0, 0) hz
  have x6 := cell_of_row w9 w1.heap.size 6 _ _ (0, 0) hx
  have fz := fun j => frozen_of_row w9 w.heap.size j _ _ hz
  by_cases h0 : ev = 0
  · subst h0
    rw [if_pos rfl] at HGX
    have HB4 := Lib.hid (Cd.Eput_below hbw w.heap.size (Nat.le_refl _) (.int .i64 xn) (.int .i64 xt) (.string (S xa)) (.int .i64 xi) (.string (S xy)) (.string (S xz)) (.slice qv dv.length cv))
    have HP := Lib.hid (Cd.Eput_at hz (.int .i64 xn) (.int .i64 xt) (.string (S xa)) (.int .i64 xi) (.string (S xy)) (.string (S xz)) (.slice qv dv.length cv))
    have HVV := Lib.hid (((((((vv9.set (g := w.heap.size) (j := 0) (by have := HXB.out; omega) (by have := HRQ.out; omega) (.int .i64 xn)).set (g := w.heap.size) (j := 1) (by have := HXB.out; omega) (by have := HRQ.out; omega) (.int .i64 xt)).set (g := w.heap.size) (j := 2) (by have := HXB.out; omega) (by have := HRQ.out; omega) (.string (S xa))).set (g := w.heap.size) (j := 3) (by have := HXB.out; omega) (by have := HRQ.out; omega) (.int .i64 xi)).set (g := w.heap.size) (j := 4) (by have := HXB.out; omega) (by have := HRQ.out; omega) (.string (S xy))).set (g := w.heap.size) (j := 5) (by have := HXB.out; omega) (by have := HRQ.out; omega) (.string (S xz))).set (g := w.heap.size) (j := 6) (by have := HXB.out; omega) (by have := HRQ.out; omega) (.slice qv dv.length cv)).vals
    have hX2 := (HSIMX.out.2 (Cd_endV_zero HEV.out HSIMX.out)).1
    clear hz hx hbw b9 vv9
    go_wp2_with fail
    refine bodyPost_ret (Cd.res_Eput rfl _ _ w.heap.size _ _ _ _ _ _ _ (.int .i64 0) rfl HP.out rfl) rfl ?_
    rw [HGX.out, ← hX2]
    exact ⟨qv, cv, by simp only; rw [List.length_map]; rfl, HB4.out, HVV.out⟩
  · rw [if_neg h0] at HGX
    have h3 := (err_ne ev h0).1
    have HB4 := Lib.hid (Cd.Eput_below hbw w.heap.size (Nat.le_refl _) (.int .i64 0) (.int .i64 0) (.string ⟨#[]⟩) (.int .i64 0) (.string ⟨#[]⟩) (.string ⟨#[]⟩) (.slice none 0 0))
    have HP := Lib.hid (Cd.Eput_at hz (.int .i64 0) (.int .i64 0) (.string ⟨#[]⟩) (.int .i64 0) (.string ⟨#[]⟩) (.string ⟨#[]⟩) (.slice none 0 0))
    clear hz hx hbw b9 h0 vv9
    go_wp2_with fail
    refine bodyPost_ret (Cd.res_Eput rfl _ _ w.heap.size _ _ _ _ _ _ _ (.int .i64 (ev : Int)) rfl HP.out rfl) rfl ?_
    rw [HGX.out]
    exact ⟨none, 0, rfl, HB4.out, fun i hi => absurd hi (by simp)⟩

set_option maxRecDepth 100000 in
set_option maxHeartbeats 8000000 in
theorem rGetDead_any (s : List UInt8) (hs : s.length ≤ 2000000) (w : World) :
    Calls Try.prog 18 #[.string (S s)] w fun e w' => GotD (getD s) w e w' := by
  obtain ⟨⟨xn, l1, b1⟩, h0⟩ : ∃ y, pNum s 0 = y := ⟨_, rfl⟩
  obtain ⟨M, hM⟩ : ∃ M, pMail l1 b1 = M := ⟨_, rfl⟩
  obtain ⟨X, hXX⟩ : ∃ X, pDead s 0 = X := ⟨_, rfl⟩
  have hX : X = (⟨xn, M.1, ((pSmall 5 M.2.1 M.2.2).1 : Int)⟩, (pSmall 5 M.2.1 M.2.2).2) := by rw [← hXX]; unfold pDead; simp only [h0, hM]
  have HX := Lib.hid hXX
  have HXE := Lib.hid hX
  have HM := Lib.hid hM
  clear hXX hX hM
  obtain ⟨W0, hW0⟩ : ∃ W0, W0 = (w.alloc (.cells #[.int .i64 0, .int .i64 0, .string ⟨#[]⟩, .slice none 0 0, .slice none 0 0, .int .i64 0] 51)).alloc (.cells #[.string (S s), .int .i64 0, .int .i64 0] 87) := ⟨_, rfl⟩
  have hsz : W0.heap.size = w.heap.size + 1 + 1 := by rw [hW0]; simp
  have hb0 : Below w.heap.size w W0 := by rw [hW0]; exact ((Below.refl w.heap.size w).alloc (Nat.le_refl _) _).alloc (by simp) _
  have hz0 : W0.heap[w.heap.size]? = some (.cells #[.int .i64 0, .int .i64 0, .string ⟨#[]⟩, .slice none 0 0, .slice none 0 0, .int .i64 0] 51 (0, 0)) := by rw [hW0]; exact (((Below.refl _ _).alloc (Nat.le_refl _) _).block _ (by simp)).trans (heap_alloc_new w _)
  have hr0 : W0.heap[w.heap.size + 1]? = some (.cells #[.string (S s), .int .i64 0, .int .i64 0] 87 (0, 0)) := by rw [hW0]; have := heap_alloc_new (w.alloc (.cells #[.int .i64 0, .int .i64 0, .string ⟨#[]⟩, .slice none 0 0, .slice none 0 0, .int .i64 0] 51)) (.cells #[.string (S s), .int .i64 0, .int .i64 0] 87); rwa [show (w.alloc (.cells #[.int .i64 0, .int .i64 0, .string ⟨#[]⟩, .slice none 0 0, .slice none 0 0, .int .i64 0] 51)).heap.size = w.heap.size + 1 by simp] at this
  have hR0 : RdrR (w.heap.size + 1) (w.heap.size + 1) (w.heap.size + 1) s 0 W0 := ⟨Nat.le_refl _, rfl, rdd (b := S s) (a := 0) hr0 (Nat.zero_le _) (by rw [S_size]; exact hs) (by rw [S_toList]; rfl) (by omega)⟩
  have HRQ := Lib.hid (show (w.heap.size + 1) = w.heap.size + 1 from rfl)
  have T0 := Lib.hid (RdTo.of_below hR0 (Below.refl _ _))
  have HB0 := Lib.hid hb0
  have HSZ := Lib.hid hsz
  have HZ0 := Lib.hid hz0
  have HW0 := Lib.hid hW0
  clear hb0 hz0 hr0 hR0 hsz hW0
  go_enter Try.func18, Try.ntmps18
  go_wp2_with fail
  rw [← HW0.out]
  have hc := dNumber_any (w.heap.size + 1) s 0 _ T0.out.rdr.rd
  rw [show rdG 0 (decN s) s 0 = (xn, l1, b1) from h0] at hc
  simp only at hc
  refine hc.mono ?_
  clear hc
  rintro e w1 ⟨rfl, r9, o9⟩
  obtain ⟨_, t9⟩ := T0.out.rdr.step r9 o9
  clear r9 o9
  have hsz1 := T0.out.size
  obtain ⟨hz9, fz9⟩ := t9.box HZ0.out ⟨by have := HRQ.out; omega, lt_of_heapV HZ0.out⟩
  have ka1 := (Below.refl w1.heap.size w1).alloc (Nat.le_refl _) (.cells #[.int .i64 xn, .int .i64 0, .string ⟨#[]⟩, .slice none 0 0, .slice none 0 0, .int .i64 0] 51)
  have tn := (T0.out.trans t9).trans (RdTo.of_below t9.rdr ka1)
  have hx := heap_alloc_new w1 (.cells #[.int .i64 xn, .int .i64 0, .string ⟨#[]⟩, .slice none 0 0, .slice none 0 0, .int .i64 0] 51)
  have hz := (ka1.block _ (lt_of_heapV hz9)).trans hz9
  obtain ⟨W1, hW1⟩ : ∃ W1, W1 = w1.alloc (.cells #[.int .i64 xn, .int .i64 0, .string ⟨#[]⟩, .slice none 0 0, .slice none 0 0, .int .i64 0] 51) := ⟨_, rfl⟩
  have hXB : w.heap.size + 1 + 1 ≤ w1.heap.size := by have := t9.size; have := HSZ.out; omega
  rw [← hW1] at tn hx hz
  have T1 := Lib.hid tn
  have HX1 := Lib.hid hx
  have HZ1 := Lib.hid hz
  have HW1 := Lib.hid hW1
  have HXB := Lib.hid hXB
  clear tn hx hz ka1 hz9 fz9 t9 hsz1 hW1 hXB
  go_wp2_with fail
  rw [← HW1.out]
  refine (mail_d (w.heap.size + 1) (w.heap.size + 1) l1 b1 _ T1.out.rdr).mono ?_
  rintro e w2 ⟨ka, dk, kc, fa, df, fc, mi, mc, l4, b4, rfl, hsim, hk16, hf16, t9, vk, vf⟩
  have hsz2 := T1.out.size
  obtain ⟨hz9, fz9⟩ := t9.box HZ1.out ⟨by have := HRQ.out; omega, lt_of_heapV HZ1.out⟩
  obtain ⟨hx9, fx9⟩ := t9.box HX1.out ⟨by have := HRQ.out; have := HXB.out; omega, lt_of_heapV HX1.out⟩
  have tn := T1.out.trans t9
  have vkk := vk
  have vfk := vf
  have y1 := cell_of_row w2 w1.heap.size 1 _ _ (0, 0) hx9
  have y2 := cell_of_row w2 w1.heap.size 2 _ _ (0, 0) hx9
  have y3 := cell_of_row w2 w1.heap.size 3 _ _ (0, 0) hx9
  have y4 := cell_of_row w2 w1.heap.size 4 _ _ (0, 0) hx9
  have fy := fun j => frozen_of_row w2 w1.heap.size j _ _ hx9
  have T2 := Lib.hid ((((tn.set (by have := HSZ.out; omega) (by have := HXB.out; have := HSZ.out; omega) fx9 1 (.int .i64 mi)).set (by have := HSZ.out; omega) (by have := HXB.out; have := HSZ.out; omega) (fx9.set (j := 1) (fx9).1 (.int .i64 mi)) 2 (.string (S mc))).set (by have := HSZ.out; omega) (by have := HXB.out; have := HSZ.out; omega) ((fx9.set (j := 1) (fx9).1 (.int .i64 mi)).set (j := 2) ((fx9.set (j := 1) (fx9).1 (.int .i64 mi))).1 (.string (S mc))) 3 (.slice ka dk.length kc)).set (by have := HSZ.out; omega) (by have := HXB.out; have := HSZ.out; omega) (((fx9.set (j := 1) (fx9).1 (.int .i64 mi)).set (j := 2) ((fx9.set (j := 1) (fx9).1 (.int .i64 mi))).1 (.string (S mc))).set (j := 3) (((fx9.set (j := 1) (fx9).1 (.int .i64 mi)).set (j := 2) ((fx9.set (j := 1) (fx9).1 (.int .i64 mi))).1 (.string (S mc)))).1 (.slice ka dk.length kc)) 4 (.slice fa df.length fc))
  have HX2 := Lib.hid (heap_setCell_same _ w1.heap.size 4 _ _ (.slice fa df.length fc) (heap_setCell_same _ w1.heap.size 3 _ _ (.slice ka dk.length kc) (heap_setCell_same _ w1.heap.size 2 _ _ (.string (S mc)) (heap_setCell_same _ w1.heap.size 1 _ _ (.int .i64 mi) hx9))))
  simp only [List.setIfInBounds_toArray, List.set_cons_zero, List.set_cons_succ] at HX2
  have HZ2 := Lib.hid ((heap_setCell_other _ ⟨w1.heap.size, 4, none⟩ w.heap.size (.slice fa df.length fc) (by have := HXB.out; show w.heap.size ≠ w1.heap.size; omega)).trans ((heap_setCell_other _ ⟨w1.heap.size, 3, none⟩ w.heap.size (.slice ka dk.length kc) (by have := HXB.out; show w.heap.size ≠ w1.heap.size; omega)).trans ((heap_setCell_other _ ⟨w1.heap.size, 2, none⟩ w.heap.size (.string (S mc)) (by have := HXB.out; show w.heap.size ≠ w1.heap.size; omega)).trans ((heap_setCell_other _ ⟨w1.heap.size, 1, none⟩ w.heap.size (.int .i64 mi) (by have := HXB.out; show w.heap.size ≠ w1.heap.size; omega)).trans hz9))))
  have VKn := Lib.hid (((((vkk.mono (B' := w1.heap.size + 1) (by have := lt_of_heapV HX1.out; omega)).set (j := 1) (Nat.lt_succ_self _) fx9.1 (.int .i64 mi)).set (j := 2) (Nat.lt_succ_self _) fx9.1 (.string (S mc))).set (j := 3) (Nat.lt_succ_self _) fx9.1 (.slice ka dk.length kc)).set (j := 4) (Nat.lt_succ_self _) fx9.1 (.slice fa df.length fc))
  have VFn := Lib.hid (((((vfk.mono (B' := w1.heap.size + 1) (by have := lt_of_heapV HX1.out; omega)).set (j := 1) (Nat.lt_succ_self _) fx9.1 (.int .i64 mi)).set (j := 2) (Nat.lt_succ_self _) fx9.1 (.string (S mc))).set (j := 3) (Nat.lt_succ_self _) fx9.1 (.slice ka dk.length kc)).set (j := 4) (Nat.lt_succ_self _) fx9.1 (.slice fa df.length fc))
  have HSIM := Lib.hid hsim
  clear hsim
  clear tn hx9 fx9 hz9 fz9 t9 hsz2 vkk vfk vk vf
  have VK := Lib.hid VKn.out
  clear VKn
  have VF := Lib.hid VFn.out
  clear VFn
  go_wp2_with fail
  clear fy y1 y2 y3 y4
  have hc := dSmall_any (w.heap.size + 1) l4 b4 5 (by omega) _ T2.out.rdr.rd
  obtain ⟨⟨xs, l5, b5⟩, hsm⟩ : ∃ y, pSmall 5 l4 b4 = y := ⟨_, rfl⟩
  rw [show rdG 0 (decS l4 ((5 : Nat) : Int)) l4 b4 = (xs, l5, b5) from hsm] at hc
  have HSM := Lib.hid hsm
  clear hsm
  simp only at hc
  refine hc.mono ?_
  clear hc
  rintro e w3 ⟨rfl, r9, o9⟩
  obtain ⟨_, t9⟩ := T2.out.rdr.step r9 o9
  clear r9 o9
  have hsz3 := T2.out.size
  obtain ⟨hz9, fz9⟩ := t9.box HZ2.out ⟨by have := HRQ.out; omega, lt_of_heapV HZ2.out⟩
  obtain ⟨hx9, fx9⟩ := t9.box HX2.out ⟨by have := HRQ.out; have := HXB.out; omega, lt_of_heapV HX2.out⟩
  have tn := T2.out.trans t9
  have vkk := VK.out.keep T2.out.rdr t9
  have vfk := VF.out.keep T2.out.rdr t9
  have y5 := cell_of_row w3 w1.heap.size 5 _ _ (0, 0) hx9
  have fy := fun j => frozen_of_row w3 w1.heap.size j _ _ hx9
  have T3 := Lib.hid (tn.set (by have := HSZ.out; omega) (by have := HXB.out; have := HSZ.out; omega) fx9 5 (.int .i64 (xs : Int)))
  have HX3 := Lib.hid (heap_setCell_same _ w1.heap.size 5 _ _ (.int .i64 (xs : Int)) hx9)
  simp only [List.setIfInBounds_toArray, List.set_cons_zero, List.set_cons_succ] at HX3
  have HZ3 := Lib.hid ((heap_setCell_other _ ⟨w1.heap.size, 5, none⟩ w.heap.size (.int .i64 (xs : Int)) (by have := HXB.out; show w.heap.size ≠ w1.heap.size; omega)).trans hz9)
  have VKn := Lib.hid (vkk.set (j := 5) (Nat.lt_succ_self _) fx9.1 (.int .i64 (xs : Int)))
  have VFn := Lib.hid (vfk.set (j := 5) (Nat.lt_succ_self _) fx9.1 (.int .i64 (xs : Int)))
  clear tn hx9 fx9 hz9 fz9 t9 hsz3 vkk vfk
  clear VK
  have VK := Lib.hid VKn.out
  clear VKn
  clear VF
  have VF := Lib.hid VFn.out
  clear VFn
  go_wp2_with fail
  clear fy y5
  have HSIMX := Lib.hid (show Sim X ⟨xn, ⟨mi, mc, dk.map (·.1), df.map (·.1)⟩, (xs : Int)⟩ l5 b5 from by
    have s1 := HSIM.out
    rw [HM.out] at s1
    have s2 : Sim (pSmall 5 l4 b4) xs l5 b5 := by rw [HSM.out]; exact Sim.same _
    have s3 := s1.next (keeps_small 5) s2
    rw [HXE.out]
    refine ⟨s3.1, fun e => ?_⟩
    obtain ⟨e1, e2⟩ := s3.2 e
    obtain ⟨e3, _⟩ := s1.2 (s2.zero (keeps_small 5) e)
    exact ⟨by rw [← e1, ← e3], e2⟩)
  have HEN := Lib.hid (dEnd_any (w.heap.size + 1) l5 b5 _ T3.out.rdr.rd)
  rw [HSIMX.out.endV] at HEN
  obtain ⟨ev, hev⟩ : ∃ ev, ev = endV X.2.1 X.2.2 := ⟨_, rfl⟩
  have hgx : getD s = if ev = 0 then (X.1, 0) else (⟨0, ⟨0, [], [], []⟩, 0⟩, ev) := by unfold getD; rw [HX.out, hev]
  rw [← hev] at HEN
  have HEV := Lib.hid hev
  have HGX := Lib.hid hgx
  clear hev hgx
  refine HEN.out.mono ?_
  rintro e w9 ⟨rfl, b9⟩
  have hz := (b9.block _ (lt_of_heapV HZ3.out)).trans HZ3.out
  have hx := (b9.block _ (lt_of_heapV HX3.out)).trans HX3.out
  have hbw := HB0.out.trans ((T3.out.trans (RdTo.of_below T3.out.rdr b9)).below.mono (Nat.le_succ _))
  have vk9 := VK.out.below T3.out.rdr b9
  have vf9 := VF.out.below T3.out.rdr b9
  have z0 := cell_of_row w9 w.heap.size 0 _ _ (0, 0) hz
  have x0 := cell_of_row w9 w1.heap.size 0 _ _ (0, 0) hx
  have z1 := cell_of_row w9 w.heap.size 1 _ _ (0, 0) hz
  have x1 := cell_of_row w9 w1.heap.size 1 _ _ (0, 0) hx
  have z2 := cell_of_row w9 w.heap.size 2 _ _ (0, 0) hz
  have x2 := cell_of_row w9 w1.heap.size 2 _ _ (0, 0) hx
  have z3 := cell_of_row w9 w.heap.size 3 _ _ (0, 0) hz
  have x3 := cell_of_row w9 w1.heap.size 3 _ _ (0, 0) hx
  have z4 := cell_of_row w9 w.heap.size 4 _ _ (0, 0) hz
  have x4 := cell_of_row w9 w1.heap.size 4 _ _ (0, 0) hx
  have z5 := cell_of_row w9 w.heap.size 5 _ _ (0, 0) hz
  have x5 := cell_of_row w9 w1.heap.size 5 _ _ (0, 0) hx
  have fz := fun j => frozen_of_row w9 w.heap.size j _ _ hz
  by_cases h0 : ev = 0
  · subst h0
    rw [if_pos rfl] at HGX
    have HB4 := Lib.hid (Cd.Dput_below hbw w.heap.size (Nat.le_refl _) (.int .i64 xn) (.int .i64 mi) (.string (S mc)) (.slice ka dk.length kc) (.slice fa df.length fc) (.int .i64 (xs : Int)))
    have HP := Lib.hid (Cd.Dput_at hz (.int .i64 xn) (.int .i64 mi) (.string (S mc)) (.slice ka dk.length kc) (.slice fa df.length fc) (.int .i64 (xs : Int)))
    have HVK := Lib.hid ((((((vk9.set (g := w.heap.size) (j := 0) (by have := HXB.out; omega) (by have := HRQ.out; omega) (.int .i64 xn)).set (g := w.heap.size) (j := 1) (by have := HXB.out; omega) (by have := HRQ.out; omega) (.int .i64 mi)).set (g := w.heap.size) (j := 2) (by have := HXB.out; omega) (by have := HRQ.out; omega) (.string (S mc))).set (g := w.heap.size) (j := 3) (by have := HXB.out; omega) (by have := HRQ.out; omega) (.slice ka dk.length kc)).set (g := w.heap.size) (j := 4) (by have := HXB.out; omega) (by have := HRQ.out; omega) (.slice fa df.length fc)).set (g := w.heap.size) (j := 5) (by have := HXB.out; omega) (by have := HRQ.out; omega) (.int .i64 (xs : Int))).vals
    have HVF := Lib.hid ((((((vf9.set (g := w.heap.size) (j := 0) (by have := HXB.out; omega) (by have := HRQ.out; omega) (.int .i64 xn)).set (g := w.heap.size) (j := 1) (by have := HXB.out; omega) (by have := HRQ.out; omega) (.int .i64 mi)).set (g := w.heap.size) (j := 2) (by have := HXB.out; omega) (by have := HRQ.out; omega) (.string (S mc))).set (g := w.heap.size) (j := 3) (by have := HXB.out; omega) (by have := HRQ.out; omega) (.slice ka dk.length kc)).set (g := w.heap.size) (j := 4) (by have := HXB.out; omega) (by have := HRQ.out; omega) (.slice fa df.length fc)).set (g := w.heap.size) (j := 5) (by have := HXB.out; omega) (by have := HRQ.out; omega) (.int .i64 (xs : Int))).vals
    have hX2 := (HSIMX.out.2 (Cd_endV_zero HEV.out HSIMX.out)).1
    clear hz hx hbw b9 vk9 vf9
    go_wp2_with fail
    refine bodyPost_ret (Cd.res_Dput rfl _ _ w.heap.size _ _ _ _ _ _ (.int .i64 0) rfl HP.out rfl) rfl ?_
    rw [HGX.out, ← hX2]
    exact ⟨ka, kc, fa, fc, by simp only; rw [List.length_map, List.length_map]; rfl, HB4.out, HVK.out, HVF.out⟩
  · rw [if_neg h0] at HGX
    have h3 := (err_ne ev h0).1
    have HB4 := Lib.hid (Cd.Dput_below hbw w.heap.size (Nat.le_refl _) (.int .i64 0) (.int .i64 0) (.string ⟨#[]⟩) (.slice none 0 0) (.slice none 0 0) (.int .i64 0))
    have HP := Lib.hid (Cd.Dput_at hz (.int .i64 0) (.int .i64 0) (.string ⟨#[]⟩) (.slice none 0 0) (.slice none 0 0) (.int .i64 0))
    clear hz hx hbw b9 h0 vk9 vf9
    go_wp2_with fail
    refine bodyPost_ret (Cd.res_Dput rfl _ _ w.heap.size _ _ _ _ _ _ (.int .i64 (ev : Int)) rfl HP.out rfl) rfl ?_
    rw [HGX.out]
    exact ⟨none, 0, none, 0, rfl, HB4.out, fun i hi => absurd hi (by simp), fun i hi => absurd hi (by simp)⟩

end Go.Proofs.Ytkdhchdhgmaolaa.Dd

namespace Go.Proofs.Ytkdhchdhgmaolaa.Cd
open Go.RowKit
open Pk Va
set_option linter.unusedVariables false
set_option linter.unusedSimpArgs false

def Sput (w : World) (H : Nat) (v0 v1 v2 : Value) : World := (((w.setCell ⟨H, 0, none⟩ v0).setCell ⟨H, 1, none⟩ v1).setCell ⟨H, 2, none⟩ v2)
theorem Sput_at {w : World} {H : Nat} {z0 z1 z2 : Value} (h : w.heap[H]? = some (.cells #[z0, z1, z2] 63 (0, 0))) (v0 v1 v2 : Value) : (Sput w H v0 v1 v2).heap[H]? = some (.cells #[v0, v1, v2] 63 (0, 0)) := by
  have h0 := heap_setCell_same _ H 0 _ _ v0 h
  simp only [List.setIfInBounds_toArray, List.set_cons_zero, List.set_cons_succ] at h0
  have h1 := heap_setCell_same _ H 1 _ _ v1 h0
  simp only [List.setIfInBounds_toArray, List.set_cons_zero, List.set_cons_succ] at h1
  have h2 := heap_setCell_same _ H 2 _ _ v2 h1
  simp only [List.setIfInBounds_toArray, List.set_cons_zero, List.set_cons_succ] at h2
  exact h2
theorem Sput_below {B : Nat} {w w' : World} (h : Below B w w') (g : Nat) (hg : B ≤ g) (v0 v1 v2 : Value) : Below B w (Sput w' g v0 v1 v2) :=
  (((h.setCell (p := ⟨g, 0, none⟩) hg v0).setCell (p := ⟨g, 1, none⟩) hg v1).setCell (p := ⟨g, 2, none⟩) hg v2)
theorem res_Sput {fn : Func} {p u : Tmp} (h : fn.results = #[.cell p 63, .tmp u]) (tmps : Array Value) (w : World) (g : Nat) (c0 c1 c2 x : Value)
    (hp : tmps.getD p undef = .pointer (some ⟨g, 0, none⟩)) (hg : w.heap[g]? = some (.cells #[c0, c1, c2] 63 (0, 0))) (hx : tmps.getD u undef = x) :
    (results fn tmps).run Try.prog w = .ok (.tuple #[.agg #[c0, c1, c2], x]) w := by
  have hp' : tmps[p]?.getD undef = .pointer (some ⟨g, 0, none⟩) := by simpa using hp
  have hx' : tmps[u]?.getD undef = x := by simpa using hx
  have hr := run_loadVar_row (P := Try.prog) w g 63 63 #[c0, c1, c2] (0, 0) _ hg Try.underlying63 rfl (by kernel_rfl)
  simp [results, h, hp', hx', asAddr, hr]
end Go.Proofs.Ytkdhchdhgmaolaa.Cd
namespace Go.Proofs.Ytkdhchdhgmaolaa.Dd
open Go.RowKit
open Pk Va
open Cd (pNum pText pSub Rs getS SubP)
/-- What GetSub hands out. -/
def GotS (X : SubP × Nat) (w : World) (e : Ending) (w' : World) : Prop :=
  e = .returned (.tuple #[.agg #[.int .i64 X.1.id, .string (S X.1.role), .int .i64 X.1.past], .int .i64 (X.2 : Int)]) ∧ Below w.heap.size w w'

set_option maxRecDepth 100000 in
set_option maxHeartbeats 8000000 in
theorem rGetSub_any (s : List UInt8) (hs : s.length ≤ 2000000) (w : World) :
    Calls Try.prog 22 #[.string (S s)] w fun e w' => GotS (getS s) w e w' := by
  obtain ⟨⟨xi, l1, b1⟩, h0⟩ : ∃ y, pNum s 0 = y := ⟨_, rfl⟩
  obtain ⟨⟨xp, l2, b2⟩, h1⟩ : ∃ y, pNum l1 b1 = y := ⟨_, rfl⟩
  obtain ⟨⟨xa, l3, b3⟩, h2⟩ : ∃ y, pText 24 l2 b2 = y := ⟨_, rfl⟩
  obtain ⟨X, hXX⟩ : ∃ X, pSub s 0 = X := ⟨_, rfl⟩
  have hX : X = (⟨xi, xa, xp⟩, l3, b3) := by rw [← hXX]; unfold pSub; simp only [h0, h1, h2]
  have HX := Lib.hid hXX
  have HXE := Lib.hid hX
  clear hXX hX
  obtain ⟨W0, hW0⟩ : ∃ W0, W0 = (w.alloc (.cells #[.int .i64 0, .string ⟨#[]⟩, .int .i64 0] 63)).alloc (.cells #[.string (S s), .int .i64 0, .int .i64 0] 87) := ⟨_, rfl⟩
  have hsz : W0.heap.size = w.heap.size + 1 + 1 := by rw [hW0]; simp
  have hb0 : Below w.heap.size w W0 := by rw [hW0]; exact ((Below.refl w.heap.size w).alloc (Nat.le_refl _) _).alloc (by simp) _
  have hz0 : W0.heap[w.heap.size]? = some (.cells #[.int .i64 0, .string ⟨#[]⟩, .int .i64 0] 63 (0, 0)) := by rw [hW0]; exact (((Below.refl _ _).alloc (Nat.le_refl _) _).block _ (by simp)).trans (heap_alloc_new w _)
  have hr0 : W0.heap[w.heap.size + 1]? = some (.cells #[.string (S s), .int .i64 0, .int .i64 0] 87 (0, 0)) := by rw [hW0]; have := heap_alloc_new (w.alloc (.cells #[.int .i64 0, .string ⟨#[]⟩, .int .i64 0] 63)) (.cells #[.string (S s), .int .i64 0, .int .i64 0] 87); rwa [show (w.alloc (.cells #[.int .i64 0, .string ⟨#[]⟩, .int .i64 0] 63)).heap.size = w.heap.size + 1 by simp] at this
  have hR0 : RdrR (w.heap.size + 1) (w.heap.size + 1) (w.heap.size + 1) s 0 W0 := ⟨Nat.le_refl _, rfl, rdd (b := S s) (a := 0) hr0 (Nat.zero_le _) (by rw [S_size]; exact hs) (by rw [S_toList]; rfl) (by omega)⟩
  have HRQ := Lib.hid (show (w.heap.size + 1) = w.heap.size + 1 from rfl)
  have T0 := Lib.hid (RdTo.of_below hR0 (Below.refl _ _))
  have HB0 := Lib.hid hb0
  have HSZ := Lib.hid hsz
  have HZ0 := Lib.hid hz0
  have HW0 := Lib.hid hW0
  clear hb0 hz0 hr0 hR0 hsz hW0
  go_enter Try.func22, Try.ntmps22
  go_wp2_with fail
  rw [← HW0.out]
  have hc := dNumber_any (w.heap.size + 1) s 0 _ T0.out.rdr.rd
  rw [show rdG 0 (decN s) s 0 = (xi, l1, b1) from h0] at hc
  simp only at hc
  refine hc.mono ?_
  clear hc
  rintro e w1 ⟨rfl, r9, o9⟩
  obtain ⟨_, t9⟩ := T0.out.rdr.step r9 o9
  clear r9 o9
  have hsz1 := T0.out.size
  obtain ⟨hz9, fz9⟩ := t9.box HZ0.out ⟨by have := HRQ.out; omega, lt_of_heapV HZ0.out⟩
  have ka1 := (Below.refl w1.heap.size w1).alloc (Nat.le_refl _) (.cells #[.int .i64 xi, .string ⟨#[]⟩, .int .i64 0] 63)
  have tn := (T0.out.trans t9).trans (RdTo.of_below t9.rdr ka1)
  have hx := heap_alloc_new w1 (.cells #[.int .i64 xi, .string ⟨#[]⟩, .int .i64 0] 63)
  have hz := (ka1.block _ (lt_of_heapV hz9)).trans hz9
  obtain ⟨W1, hW1⟩ : ∃ W1, W1 = w1.alloc (.cells #[.int .i64 xi, .string ⟨#[]⟩, .int .i64 0] 63) := ⟨_, rfl⟩
  have hXB : w.heap.size + 1 + 1 ≤ w1.heap.size := by have := t9.size; have := HSZ.out; omega
  rw [← hW1] at tn hx hz
  have T1 := Lib.hid tn
  have HX1 := Lib.hid hx
  have HZ1 := Lib.hid hz
  have HW1 := Lib.hid hW1
  have HXB := Lib.hid hXB
  clear tn hx hz ka1 hz9 fz9 t9 hsz1 hW1 hXB
  go_wp2_with fail
  rw [← HW1.out]
  have hc := dNumber_any (w.heap.size + 1) l1 b1 _ T1.out.rdr.rd
  rw [show rdG 0 (decN l1) l1 b1 = (xp, l2, b2) from h1] at hc
  simp only at hc
  refine hc.mono ?_
  clear hc
  rintro e w2 ⟨rfl, r9, o9⟩
  obtain ⟨_, t9⟩ := T1.out.rdr.step r9 o9
  clear r9 o9
  have hsz2 := T1.out.size
  obtain ⟨hz9, fz9⟩ := t9.box HZ1.out ⟨by have := HRQ.out; omega, lt_of_heapV HZ1.out⟩
  obtain ⟨hx9, fx9⟩ := t9.box HX1.out ⟨by have := HRQ.out; have := HXB.out; omega, lt_of_heapV HX1.out⟩
  have tn := T1.out.trans t9
  have y2 := cell_of_row w2 w1.heap.size 2 _ _ (0, 0) hx9
  have fy := fun j => frozen_of_row w2 w1.heap.size j _ _ hx9
  have T2 := Lib.hid (tn.set (by have := HSZ.out; omega) (by have := HXB.out; have := HSZ.out; omega) fx9 2 (.int .i64 xp))
  have HX2 := Lib.hid (heap_setCell_same _ w1.heap.size 2 _ _ (.int .i64 xp) hx9)
  simp only [List.setIfInBounds_toArray, List.set_cons_zero, List.set_cons_succ] at HX2
  have HZ2 := Lib.hid ((heap_setCell_other _ ⟨w1.heap.size, 2, none⟩ w.heap.size (.int .i64 xp) (by have := HXB.out; show w.heap.size ≠ w1.heap.size; omega)).trans hz9)
  clear tn hx9 fx9 hz9 fz9 t9 hsz2 
  go_wp2_with fail
  clear fy y2
  have hc := dText_any (w.heap.size + 1) l2 b2 24 (by omega) _ T2.out.rdr.rd
  rw [show rdG [] (decX l2 ((24 : Nat) : Int)) l2 b2 = (xa, l3, b3) from h2] at hc
  simp only at hc
  refine hc.mono ?_
  clear hc
  rintro e w3 ⟨rfl, r9, o9⟩
  obtain ⟨_, t9⟩ := T2.out.rdr.step r9 o9
  clear r9 o9
  have hsz3 := T2.out.size
  obtain ⟨hz9, fz9⟩ := t9.box HZ2.out ⟨by have := HRQ.out; omega, lt_of_heapV HZ2.out⟩
  obtain ⟨hx9, fx9⟩ := t9.box HX2.out ⟨by have := HRQ.out; have := HXB.out; omega, lt_of_heapV HX2.out⟩
  have tn := T2.out.trans t9
  have y1 := cell_of_row w3 w1.heap.size 1 _ _ (0, 0) hx9
  have fy := fun j => frozen_of_row w3 w1.heap.size j _ _ hx9
  have T3 := Lib.hid (tn.set (by have := HSZ.out; omega) (by have := HXB.out; have := HSZ.out; omega) fx9 1 (.string (S xa)))
  have HX3 := Lib.hid (heap_setCell_same _ w1.heap.size 1 _ _ (.string (S xa)) hx9)
  simp only [List.setIfInBounds_toArray, List.set_cons_zero, List.set_cons_succ] at HX3
  have HZ3 := Lib.hid ((heap_setCell_other _ ⟨w1.heap.size, 1, none⟩ w.heap.size (.string (S xa)) (by have := HXB.out; show w.heap.size ≠ w1.heap.size; omega)).trans hz9)
  clear tn hx9 fx9 hz9 fz9 t9 hsz3 
  go_wp2_with fail
  clear fy y1
  have HSIMX := Lib.hid (show Sim X ⟨xi, xa, xp⟩ l3 b3 from by rw [HXE.out]; exact Sim.same _)
  have HEN := Lib.hid (dEnd_any (w.heap.size + 1) l3 b3 _ T3.out.rdr.rd)
  rw [HSIMX.out.endV] at HEN
  obtain ⟨ev, hev⟩ : ∃ ev, ev = endV X.2.1 X.2.2 := ⟨_, rfl⟩
  have hgx : getS s = if ev = 0 then (X.1, 0) else (⟨0, [], 0⟩, ev) := by unfold getS; rw [HX.out, hev]
  rw [← hev] at HEN
  have HEV := Lib.hid hev
  have HGX := Lib.hid hgx
  clear hev hgx
  refine HEN.out.mono ?_
  rintro e w9 ⟨rfl, b9⟩
  have hz := (b9.block _ (lt_of_heapV HZ3.out)).trans HZ3.out
  have hx := (b9.block _ (lt_of_heapV HX3.out)).trans HX3.out
  have hbw := HB0.out.trans ((T3.out.trans (RdTo.of_below T3.out.rdr b9)).below.mono (Nat.le_succ _))
  have z0 := cell_of_row w9 w.heap.size 0 _ _ (0, 0) hz
  have x0 := cell_of_row w9 w1.heap.size 0 _ _ (0, 0) hx
  have z1 := cell_of_row w9 w.heap.size 1 _ _ (0, 0) hz
  have x1 := cell_of_row w9 w1.heap.size 1 _ _ (0, 0) hx
  have z2 := cell_of_row w9 w.heap.size 2 _ _ (0, 0) hz
  have x2 := cell_of_row w9 w1.heap.size 2 _ _ (0, 0) hx
  have fz := fun j => frozen_of_row w9 w.heap.size j _ _ hz
  by_cases h0 : ev = 0
  · subst h0
    rw [if_pos rfl] at HGX
    have HB4 := Lib.hid (Cd.Sput_below hbw w.heap.size (Nat.le_refl _) (.int .i64 xi) (.string (S xa)) (.int .i64 xp))
    have HP := Lib.hid (Cd.Sput_at hz (.int .i64 xi) (.string (S xa)) (.int .i64 xp))
    have hX2 := (HSIMX.out.2 (Cd_endV_zero HEV.out HSIMX.out)).1
    clear hz hx hbw b9 
    go_wp2_with fail
    refine bodyPost_ret (Cd.res_Sput rfl _ _ w.heap.size _ _ _ (.int .i64 0) rfl HP.out rfl) rfl ?_
    rw [HGX.out, ← hX2]
    exact ⟨rfl, HB4.out⟩
  · rw [if_neg h0] at HGX
    have h3 := (err_ne ev h0).1
    have HB4 := Lib.hid (Cd.Sput_below hbw w.heap.size (Nat.le_refl _) (.int .i64 0) (.string ⟨#[]⟩) (.int .i64 0))
    have HP := Lib.hid (Cd.Sput_at hz (.int .i64 0) (.string ⟨#[]⟩) (.int .i64 0))
    clear hz hx hbw b9 h0 
    go_wp2_with fail
    refine bodyPost_ret (Cd.res_Sput rfl _ _ w.heap.size _ _ _ (.int .i64 (ev : Int)) rfl HP.out rfl) rfl ?_
    rw [HGX.out]
    exact ⟨rfl, HB4.out⟩

end Go.Proofs.Ytkdhchdhgmaolaa.Dd

namespace Go.Proofs.Ytkdhchdhgmaolaa.Dd
open Go.RowKit
open Pk Va
open Cd (pByte pNum pTruth pText pSmall pSym pVal pLoop pAll pRej pMail pEvent pDead pSub Rs getE getD getS GotE GotD MailP EventP DeadP SubP ROk MOk good_call GetS)
set_option linter.unusedVariables false
set_option linter.unusedSimpArgs false

theorem pLoop_all {α : Type} {P : α → Prop} {f : List UInt8 → Nat → Rs α} (hf : ∀ l b, P (f l b).1) : ∀ (n : Nat) (acc : List α) (l : List UInt8) (b : Nat), (∀ x ∈ acc, P x) → ∀ x ∈ (pLoop f n acc l b).1, P x
  | 0, acc, l, b, h => h
  | n + 1, acc, l, b, h => by
    unfold pLoop
    split
    · intro x hx; simp at hx
    · exact pLoop_all hf n _ _ _ (fun x hx => by
        rcases List.mem_append.1 hx with hx | hx
        · exact h x hx
        · rw [List.mem_singleton] at hx; rw [hx]; exact hf l b)
theorem pAll_all {α : Type} {P : α → Prop} {f : List UInt8 → Nat → Rs α} (hf : ∀ l b, P (f l b).1) (m : Int) (l : List UInt8) (b : Nat) : ∀ x ∈ (pAll f m l b).1, P x := pLoop_all hf _ _ _ _ (fun x hx => by simp at hx)
theorem pVal_vok (l : List UInt8) (b : Nat) : VOk (pVal l b).1 := by
  unfold pVal
  simp only
  split
  · exact ⟨by simp, by simp⟩
  split
  · exact ⟨by simp, by simp⟩
  split
  · exact ⟨by simp, by simp⟩
  split
  · refine ⟨?_, by simp⟩
    have := pText_len 64 (pByte l b).2.1 (pByte l b).2.2
    rw [show (((64 : Nat)) : Int) = 64 from rfl] at this
    show (pText 64 (pByte l b).2.1 (pByte l b).2.2).1.length ≤ _
    omega
  split
  · refine ⟨?_, by simp⟩
    have := pText_len 24 (pByte l b).2.1 (pByte l b).2.2
    rw [show (((24 : Nat)) : Int) = 24 from rfl] at this
    show (pSym (pByte l b).2.1 (pByte l b).2.2).1.length ≤ _
    unfold pSym
    simp only
    split <;> (first | omega | (simp only; omega))
  split
  · refine ⟨by simp, ?_⟩
    have := Cd.pAll_len pNum 16 (pByte l b).2.1 (pByte l b).2.2
    show (pAll pNum 16 (pByte l b).2.1 (pByte l b).2.2).1.length ≤ _
    have e : (pAll pNum ((16 : Nat) : Int) (pByte l b).2.1 (pByte l b).2.2).1.length = (pAll pNum 16 (pByte l b).2.1 (pByte l b).2.2).1.length := rfl
    omega
  · exact ⟨by simp, by simp⟩
theorem pRow_rok (l : List UInt8) (b : Nat) : ROk (pAll pVal 16 l b).1 := ⟨pAll_all (P := VOk) pVal_vok 16 l b, by
  have := Cd.pAll_len pVal 16 l b
  have e : (pAll pVal ((16 : Nat) : Int) l b).1.length = (pAll pVal 16 l b).1.length := rfl
  omega⟩
theorem rok_nil : ROk [] := ⟨fun v hv => by simp at hv, by simp⟩
theorem getD_mok (s : List UInt8) : MOk (getD s).1.mail := by
  unfold getD
  split
  · show MOk (pDead s 0).1.mail
    unfold Cd.pDead
    simp only
    generalize pNum s 0 = x
    unfold Cd.pMail
    simp only
    exact ⟨pRow_rok _ _, pRow_rok _ _⟩
  · exact ⟨rok_nil, rok_nil⟩
theorem getE_rok (s : List UInt8) : ROk (getE s).1.attrs := by
  unfold getE
  split
  · show ROk (pEvent s 0).1.attrs
    unfold Cd.pEvent
    simp only
    exact pRow_rok _ _
  · exact rok_nil

set_option maxRecDepth 100000 in
set_option maxHeartbeats 16000000 in
theorem CodeReads_small (s : List UInt8) (hs : s.length ≤ 5000) (w : World) :
    Calls Try.prog 4 #[.string (S s)] w fun e w' => e = .returned (.bool true) ∧ Below w.heap.size w w' := by
  have hsz : ¬ (5000 : Int) < ((S s).size : Int) := by rw [S_size]; omega
  have HAW := Lib.hid (fun W0 W (k : Cd.Good W0 W) => good_call (R := fun e => e = .returned (.bool true)) k (Cd.awake_any W))
  have HPD := Lib.hid (fun W => Cd.GetDead_any s (by omega) W)
  have HRD := Lib.hid (fun W => rGetDead_any s (by omega) W)
  have HPE := Lib.hid (fun W => Cd.GetEvent_any s (by omega) W)
  have HRE := Lib.hid (fun W => rGetEvent_any s (by omega) W)
  have HPS := Lib.hid (fun W => Cd.GetSub_any s (by omega) W)
  have HRS := Lib.hid (fun W => rGetSub_any s (by omega) W)
  have hmok := getD_mok s
  have hrok := getE_rok s
  obtain ⟨⟨D, gd⟩, hgd⟩ : ∃ d, getD s = d := ⟨_, rfl⟩
  obtain ⟨⟨Y, ge⟩, hge⟩ : ∃ d, getE s = d := ⟨_, rfl⟩
  obtain ⟨⟨Z, gs⟩, hgs⟩ : ∃ d, getS s = d := ⟨_, rfl⟩
  rw [hgd] at HPD HRD hmok
  rw [hge] at HPE HRE hrok
  rw [hgs] at HPS HRS
  simp only at hmok hrok
  generalize S s = TT at *
  have HG0 := Lib.hid (Cd.Good.refl w)
  clear hgd hge hgs hs
  go_enter Try.func4, Try.ntmps4
  go_wp2_with fail
  refine (HAW.out w _ HG0.out).mono ?_
  rintro e w1 ⟨rfl, b1⟩
  have G1 := Lib.hid b1
  clear b1
  go_wp2_with fail
  refine (HPD.out _).mono ?_
  rintro e v1 ⟨ka1, kc1, fa1, fc1, rfl, b9, n1, n2⟩
  (try simp only at n1 n2)
  obtain ⟨V1, hV⟩ : ∃ V, V = v1.alloc (.cells #[.int .i64 D.n, .int .i64 D.mail.id, .string (S D.mail.chan), .slice ka1 D.mail.key.length kc1, .slice fa1 D.mail.fields.length fc1, .int .i64 D.reason] 51) := ⟨_, rfl⟩
  have kk := (Below.refl v1.heap.size v1).alloc (Nat.le_refl _) (.cells #[.int .i64 D.n, .int .i64 D.mail.id, .string (S D.mail.chan), .slice ka1 D.mail.key.length kc1, .slice fa1 D.mail.fields.length fc1, .int .i64 D.reason] 51)
  have hz := heap_alloc_new v1 (.cells #[.int .i64 D.n, .int .i64 D.mail.id, .string (S D.mail.chan), .slice ka1 D.mail.key.length kc1, .slice fa1 D.mail.fields.length fc1, .int .i64 D.reason] 51)
  have kg := Cd.Good.alloc (show Cd.Good w1 v1 from b9) (.cells #[.int .i64 D.n, .int .i64 D.mail.id, .string (S D.mail.chan), .slice ka1 D.mail.key.length kc1, .slice fa1 D.mail.fields.length fc1, .int .i64 D.reason] 51)
  have N10 := Lib.hid (n1.below kk)
  have N11 := Lib.hid (n2.below kk)
  rw [← hV] at hz kg N10 N11
  have Z1 := Lib.hid hz
  have K1 := Lib.hid kg
  have HV1 := Lib.hid hV
  clear b9 kk hz kg hV n1 n2
  go_wp2_with fail
  rw [← HV1.out]
  refine (HRD.out _).mono ?_
  rintro e v2 ⟨ka2, kc2, fa2, fc2, rfl, b9, n1, n2⟩
  (try simp only at n1 n2)
  obtain ⟨V2, hV⟩ : ∃ V, V = v2.alloc (.cells #[.int .i64 D.n, .int .i64 D.mail.id, .string (S D.mail.chan), .slice ka2 D.mail.key.length kc2, .slice fa2 D.mail.fields.length fc2, .int .i64 D.reason] 51) := ⟨_, rfl⟩
  have kk := (Below.refl v2.heap.size v2).alloc (Nat.le_refl _) (.cells #[.int .i64 D.n, .int .i64 D.mail.id, .string (S D.mail.chan), .slice ka2 D.mail.key.length kc2, .slice fa2 D.mail.fields.length fc2, .int .i64 D.reason] 51)
  have hz := heap_alloc_new v2 (.cells #[.int .i64 D.n, .int .i64 D.mail.id, .string (S D.mail.chan), .slice ka2 D.mail.key.length kc2, .slice fa2 D.mail.fields.length fc2, .int .i64 D.reason] 51)
  have kg := Cd.Good.alloc (show Cd.Good V1 v2 from b9) (.cells #[.int .i64 D.n, .int .i64 D.mail.id, .string (S D.mail.chan), .slice ka2 D.mail.key.length kc2, .slice fa2 D.mail.fields.length fc2, .int .i64 D.reason] 51)
  have N20 := Lib.hid (n1.below kk)
  have N21 := Lib.hid (n2.below kk)
  rw [← hV] at hz kg N20 N21
  have Z2 := Lib.hid hz
  have K2 := Lib.hid kg
  have HV2 := Lib.hid hV
  clear b9 kk hz kg hV n1 n2
  go_wp2_with fail
  rw [← HV2.out]
  refine (HPE.out _).mono ?_
  rintro e v3 ⟨aa1, ac1, rfl, b9, n1⟩
  (try simp only at n1)
  obtain ⟨V3, hV⟩ : ∃ V, V = v3.alloc (.cells #[.int .i64 Y.n, .int .i64 Y.tick, .string (S Y.name), .int .i64 Y.item, .string (S Y.typ), .string (S Y.state), .slice aa1 Y.attrs.length ac1] 57) := ⟨_, rfl⟩
  have kk := (Below.refl v3.heap.size v3).alloc (Nat.le_refl _) (.cells #[.int .i64 Y.n, .int .i64 Y.tick, .string (S Y.name), .int .i64 Y.item, .string (S Y.typ), .string (S Y.state), .slice aa1 Y.attrs.length ac1] 57)
  have hz := heap_alloc_new v3 (.cells #[.int .i64 Y.n, .int .i64 Y.tick, .string (S Y.name), .int .i64 Y.item, .string (S Y.typ), .string (S Y.state), .slice aa1 Y.attrs.length ac1] 57)
  have kg := Cd.Good.alloc (show Cd.Good V2 v3 from b9) (.cells #[.int .i64 Y.n, .int .i64 Y.tick, .string (S Y.name), .int .i64 Y.item, .string (S Y.typ), .string (S Y.state), .slice aa1 Y.attrs.length ac1] 57)
  have N30 := Lib.hid (n1.below kk)
  rw [← hV] at hz kg N30
  have Z3 := Lib.hid hz
  have K3 := Lib.hid kg
  have HV3 := Lib.hid hV
  clear b9 kk hz kg hV n1
  go_wp2_with fail
  rw [← HV3.out]
  refine (HRE.out _).mono ?_
  rintro e v4 ⟨aa2, ac2, rfl, b9, n1⟩
  (try simp only at n1)
  obtain ⟨V4, hV⟩ : ∃ V, V = v4.alloc (.cells #[.int .i64 Y.n, .int .i64 Y.tick, .string (S Y.name), .int .i64 Y.item, .string (S Y.typ), .string (S Y.state), .slice aa2 Y.attrs.length ac2] 57) := ⟨_, rfl⟩
  have kk := (Below.refl v4.heap.size v4).alloc (Nat.le_refl _) (.cells #[.int .i64 Y.n, .int .i64 Y.tick, .string (S Y.name), .int .i64 Y.item, .string (S Y.typ), .string (S Y.state), .slice aa2 Y.attrs.length ac2] 57)
  have hz := heap_alloc_new v4 (.cells #[.int .i64 Y.n, .int .i64 Y.tick, .string (S Y.name), .int .i64 Y.item, .string (S Y.typ), .string (S Y.state), .slice aa2 Y.attrs.length ac2] 57)
  have kg := Cd.Good.alloc (show Cd.Good V3 v4 from b9) (.cells #[.int .i64 Y.n, .int .i64 Y.tick, .string (S Y.name), .int .i64 Y.item, .string (S Y.typ), .string (S Y.state), .slice aa2 Y.attrs.length ac2] 57)
  have N40 := Lib.hid (n1.below kk)
  rw [← hV] at hz kg N40
  have Z4 := Lib.hid hz
  have K4 := Lib.hid kg
  have HV4 := Lib.hid hV
  clear b9 kk hz kg hV n1
  go_wp2_with fail
  rw [← HV4.out]
  refine (HPS.out _).mono ?_
  rintro e v5 ⟨rfl, b9⟩
  (try simp only)
  obtain ⟨V5, hV⟩ : ∃ V, V = v5.alloc (.cells #[.int .i64 Z.id, .string (S Z.role), .int .i64 Z.past] 63) := ⟨_, rfl⟩
  have kk := (Below.refl v5.heap.size v5).alloc (Nat.le_refl _) (.cells #[.int .i64 Z.id, .string (S Z.role), .int .i64 Z.past] 63)
  have hz := heap_alloc_new v5 (.cells #[.int .i64 Z.id, .string (S Z.role), .int .i64 Z.past] 63)
  have kg := Cd.Good.alloc (show Cd.Good V4 v5 from b9) (.cells #[.int .i64 Z.id, .string (S Z.role), .int .i64 Z.past] 63)
  rw [← hV] at hz kg 
  have Z5 := Lib.hid hz
  have K5 := Lib.hid kg
  have HV5 := Lib.hid hV
  clear b9 kk hz kg hV 
  go_wp2_with fail
  rw [← HV5.out]
  refine (HRS.out _).mono ?_
  rintro e v6 ⟨rfl, b9⟩
  (try simp only)
  obtain ⟨V6, hV⟩ : ∃ V, V = v6.alloc (.cells #[.int .i64 Z.id, .string (S Z.role), .int .i64 Z.past] 63) := ⟨_, rfl⟩
  have kk := (Below.refl v6.heap.size v6).alloc (Nat.le_refl _) (.cells #[.int .i64 Z.id, .string (S Z.role), .int .i64 Z.past] 63)
  have hz := heap_alloc_new v6 (.cells #[.int .i64 Z.id, .string (S Z.role), .int .i64 Z.past] 63)
  have kg := Cd.Good.alloc (show Cd.Good V5 v6 from b9) (.cells #[.int .i64 Z.id, .string (S Z.role), .int .i64 Z.past] 63)
  rw [← hV] at hz kg 
  have Z6 := Lib.hid hz
  have K6 := Lib.hid kg
  have HV6 := Lib.hid hV
  clear b9 kk hz kg hV 
  go_wp2_with fail
  rw [← HV6.out]
  have C6 := Lib.hid (Cd.Good.refl V6)
  have C5 := Lib.hid (K6.out.step C6.out)
  have C4 := Lib.hid (K5.out.step C5.out)
  have C3 := Lib.hid (K4.out.step C4.out)
  have C2 := Lib.hid (K3.out.step C3.out)
  have C1 := Lib.hid (K2.out.step C2.out)
  have G6 := Lib.hid (G1.out.step (K1.out.step C1.out))
  have HKP := Lib.hid (fun W (k : Cd.Good V6 W) => show (W.cell? ⟨v1.heap.size, 0, none⟩ = some (.int .i64 D.n) ∧ W.cell? ⟨v1.heap.size, 1, none⟩ = some (.int .i64 D.mail.id) ∧ W.cell? ⟨v1.heap.size, 2, none⟩ = some (.string (S D.mail.chan)) ∧ W.cell? ⟨v1.heap.size, 3, none⟩ = some (.slice ka1 D.mail.key.length kc1) ∧ W.cell? ⟨v1.heap.size, 4, none⟩ = some (.slice fa1 D.mail.fields.length fc1) ∧ W.cell? ⟨v1.heap.size, 5, none⟩ = some (.int .i64 D.reason)) ∧ (W.cell? ⟨v2.heap.size, 0, none⟩ = some (.int .i64 D.n) ∧ W.cell? ⟨v2.heap.size, 1, none⟩ = some (.int .i64 D.mail.id) ∧ W.cell? ⟨v2.heap.size, 2, none⟩ = some (.string (S D.mail.chan)) ∧ W.cell? ⟨v2.heap.size, 3, none⟩ = some (.slice ka2 D.mail.key.length kc2) ∧ W.cell? ⟨v2.heap.size, 4, none⟩ = some (.slice fa2 D.mail.fields.length fc2) ∧ W.cell? ⟨v2.heap.size, 5, none⟩ = some (.int .i64 D.reason)) ∧ (W.cell? ⟨v3.heap.size, 0, none⟩ = some (.int .i64 Y.n) ∧ W.cell? ⟨v3.heap.size, 1, none⟩ = some (.int .i64 Y.tick) ∧ W.cell? ⟨v3.heap.size, 2, none⟩ = some (.string (S Y.name)) ∧ W.cell? ⟨v3.heap.size, 3, none⟩ = some (.int .i64 Y.item) ∧ W.cell? ⟨v3.heap.size, 4, none⟩ = some (.string (S Y.typ)) ∧ W.cell? ⟨v3.heap.size, 5, none⟩ = some (.string (S Y.state)) ∧ W.cell? ⟨v3.heap.size, 6, none⟩ = some (.slice aa1 Y.attrs.length ac1)) ∧ (W.cell? ⟨v4.heap.size, 0, none⟩ = some (.int .i64 Y.n) ∧ W.cell? ⟨v4.heap.size, 1, none⟩ = some (.int .i64 Y.tick) ∧ W.cell? ⟨v4.heap.size, 2, none⟩ = some (.string (S Y.name)) ∧ W.cell? ⟨v4.heap.size, 3, none⟩ = some (.int .i64 Y.item) ∧ W.cell? ⟨v4.heap.size, 4, none⟩ = some (.string (S Y.typ)) ∧ W.cell? ⟨v4.heap.size, 5, none⟩ = some (.string (S Y.state)) ∧ W.cell? ⟨v4.heap.size, 6, none⟩ = some (.slice aa2 Y.attrs.length ac2)) ∧ (W.cell? ⟨v5.heap.size, 0, none⟩ = some (.int .i64 Z.id) ∧ W.cell? ⟨v5.heap.size, 1, none⟩ = some (.string (S Z.role)) ∧ W.cell? ⟨v5.heap.size, 2, none⟩ = some (.int .i64 Z.past)) ∧ (W.cell? ⟨v6.heap.size, 0, none⟩ = some (.int .i64 Z.id) ∧ W.cell? ⟨v6.heap.size, 1, none⟩ = some (.string (S Z.role)) ∧ W.cell? ⟨v6.heap.size, 2, none⟩ = some (.int .i64 Z.past)) from
    ⟨⟨cell_of_row W v1.heap.size 0 _ _ (0, 0) (((C1.out.step k).block _ (lt_of_heapV Z1.out)).trans Z1.out), cell_of_row W v1.heap.size 1 _ _ (0, 0) (((C1.out.step k).block _ (lt_of_heapV Z1.out)).trans Z1.out), cell_of_row W v1.heap.size 2 _ _ (0, 0) (((C1.out.step k).block _ (lt_of_heapV Z1.out)).trans Z1.out), cell_of_row W v1.heap.size 3 _ _ (0, 0) (((C1.out.step k).block _ (lt_of_heapV Z1.out)).trans Z1.out), cell_of_row W v1.heap.size 4 _ _ (0, 0) (((C1.out.step k).block _ (lt_of_heapV Z1.out)).trans Z1.out), cell_of_row W v1.heap.size 5 _ _ (0, 0) (((C1.out.step k).block _ (lt_of_heapV Z1.out)).trans Z1.out)⟩, ⟨cell_of_row W v2.heap.size 0 _ _ (0, 0) (((C2.out.step k).block _ (lt_of_heapV Z2.out)).trans Z2.out), cell_of_row W v2.heap.size 1 _ _ (0, 0) (((C2.out.step k).block _ (lt_of_heapV Z2.out)).trans Z2.out), cell_of_row W v2.heap.size 2 _ _ (0, 0) (((C2.out.step k).block _ (lt_of_heapV Z2.out)).trans Z2.out), cell_of_row W v2.heap.size 3 _ _ (0, 0) (((C2.out.step k).block _ (lt_of_heapV Z2.out)).trans Z2.out), cell_of_row W v2.heap.size 4 _ _ (0, 0) (((C2.out.step k).block _ (lt_of_heapV Z2.out)).trans Z2.out), cell_of_row W v2.heap.size 5 _ _ (0, 0) (((C2.out.step k).block _ (lt_of_heapV Z2.out)).trans Z2.out)⟩, ⟨cell_of_row W v3.heap.size 0 _ _ (0, 0) (((C3.out.step k).block _ (lt_of_heapV Z3.out)).trans Z3.out), cell_of_row W v3.heap.size 1 _ _ (0, 0) (((C3.out.step k).block _ (lt_of_heapV Z3.out)).trans Z3.out), cell_of_row W v3.heap.size 2 _ _ (0, 0) (((C3.out.step k).block _ (lt_of_heapV Z3.out)).trans Z3.out), cell_of_row W v3.heap.size 3 _ _ (0, 0) (((C3.out.step k).block _ (lt_of_heapV Z3.out)).trans Z3.out), cell_of_row W v3.heap.size 4 _ _ (0, 0) (((C3.out.step k).block _ (lt_of_heapV Z3.out)).trans Z3.out), cell_of_row W v3.heap.size 5 _ _ (0, 0) (((C3.out.step k).block _ (lt_of_heapV Z3.out)).trans Z3.out), cell_of_row W v3.heap.size 6 _ _ (0, 0) (((C3.out.step k).block _ (lt_of_heapV Z3.out)).trans Z3.out)⟩, ⟨cell_of_row W v4.heap.size 0 _ _ (0, 0) (((C4.out.step k).block _ (lt_of_heapV Z4.out)).trans Z4.out), cell_of_row W v4.heap.size 1 _ _ (0, 0) (((C4.out.step k).block _ (lt_of_heapV Z4.out)).trans Z4.out), cell_of_row W v4.heap.size 2 _ _ (0, 0) (((C4.out.step k).block _ (lt_of_heapV Z4.out)).trans Z4.out), cell_of_row W v4.heap.size 3 _ _ (0, 0) (((C4.out.step k).block _ (lt_of_heapV Z4.out)).trans Z4.out), cell_of_row W v4.heap.size 4 _ _ (0, 0) (((C4.out.step k).block _ (lt_of_heapV Z4.out)).trans Z4.out), cell_of_row W v4.heap.size 5 _ _ (0, 0) (((C4.out.step k).block _ (lt_of_heapV Z4.out)).trans Z4.out), cell_of_row W v4.heap.size 6 _ _ (0, 0) (((C4.out.step k).block _ (lt_of_heapV Z4.out)).trans Z4.out)⟩, ⟨cell_of_row W v5.heap.size 0 _ _ (0, 0) (((C5.out.step k).block _ (lt_of_heapV Z5.out)).trans Z5.out), cell_of_row W v5.heap.size 1 _ _ (0, 0) (((C5.out.step k).block _ (lt_of_heapV Z5.out)).trans Z5.out), cell_of_row W v5.heap.size 2 _ _ (0, 0) (((C5.out.step k).block _ (lt_of_heapV Z5.out)).trans Z5.out)⟩, ⟨cell_of_row W v6.heap.size 0 _ _ (0, 0) (((C6.out.step k).block _ (lt_of_heapV Z6.out)).trans Z6.out), cell_of_row W v6.heap.size 1 _ _ (0, 0) (((C6.out.step k).block _ (lt_of_heapV Z6.out)).trans Z6.out), cell_of_row W v6.heap.size 2 _ _ (0, 0) (((C6.out.step k).block _ (lt_of_heapV Z6.out)).trans Z6.out)⟩⟩)
  have R0 := Lib.hid (Cd.Good.refl V6)
  refine (HAW.out V6 _ R0.out).mono ?_
  rintro e r1 ⟨rfl, b9⟩
  have R1 := Lib.hid b9
  clear b9
  obtain ⟨⟨p10, p11, p12, p13, p14, p15⟩, ⟨p20, p21, p22, p23, p24, p25⟩, ⟨p30, p31, p32, p33, p34, p35, p36⟩, ⟨p40, p41, p42, p43, p44, p45, p46⟩, ⟨p50, p51, p52⟩, ⟨p60, p61, p62⟩⟩ := HKP.out _ R1.out
  go_wp2_with fail
  refine (good_call (R := fun e => e = .returned (.bool true)) R1.out (Cd.sameDead_refl D hmok ka1 kc1 fa1 fc1 ka2 kc2 fa2 fc2 _ (N10.out.below (C1.out.step R1.out)) (N11.out.below (C1.out.step R1.out)) (N20.out.below (C2.out.step R1.out)) (N21.out.below (C2.out.step R1.out)))).mono ?_
  rintro e r2 ⟨rfl, b9⟩
  have R2 := Lib.hid b9
  clear b9 p10 p11 p12 p13 p14 p15 p20 p21 p22 p23 p24 p25 p30 p31 p32 p33 p34 p35 p36 p40 p41 p42 p43 p44 p45 p46 p50 p51 p52 p60 p61 p62
  obtain ⟨⟨p10, p11, p12, p13, p14, p15⟩, ⟨p20, p21, p22, p23, p24, p25⟩, ⟨p30, p31, p32, p33, p34, p35, p36⟩, ⟨p40, p41, p42, p43, p44, p45, p46⟩, ⟨p50, p51, p52⟩, ⟨p60, p61, p62⟩⟩ := HKP.out _ R2.out
  go_wp2_with fail
  refine (good_call (R := fun e => e = .returned (.bool true)) R2.out (Cd.sameEvent_refl Y hrok aa1 ac1 aa2 ac2 _ (N30.out.below (C3.out.step R2.out)) (N40.out.below (C4.out.step R2.out)))).mono ?_
  rintro e r3 ⟨rfl, b9⟩
  have R3 := Lib.hid b9
  clear b9 p10 p11 p12 p13 p14 p15 p20 p21 p22 p23 p24 p25 p30 p31 p32 p33 p34 p35 p36 p40 p41 p42 p43 p44 p45 p46 p50 p51 p52 p60 p61 p62
  obtain ⟨⟨p10, p11, p12, p13, p14, p15⟩, ⟨p20, p21, p22, p23, p24, p25⟩, ⟨p30, p31, p32, p33, p34, p35, p36⟩, ⟨p40, p41, p42, p43, p44, p45, p46⟩, ⟨p50, p51, p52⟩, ⟨p60, p61, p62⟩⟩ := HKP.out _ R3.out
  go_wp2_with fail
  go_ret
  exact ⟨rfl, G6.out.step R3.out⟩

set_option maxRecDepth 100000 in
theorem CodeReads_door (s : ByteArray) (w : World) (hs : s.size ≤ 140737488355328) :
    Calls Try.prog 4 #[.string s] w fun e w' => e = .returned (.bool true) ∧ Below w.heap.size w w' := by
  by_cases h : s.size ≤ 5000
  · have e : s = S s.data.toList := by apply ByteArray.ext; simp [S]
    rw [e]
    exact CodeReads_small _ (by simpa using h) w
  · have hsz : (5000 : Int) < (s.size : Int) := by omega
    have HAW := Lib.hid (fun W (k : Cd.Good w W) => good_call (R := fun e => e = .returned (.bool true)) k (Cd.awake_any W))
    have HG0 := Lib.hid (Cd.Good.refl w)
    clear h hs
    go_enter Try.func4, Try.ntmps4
    go_wp2_with fail
    refine (HAW.out _ HG0.out).mono ?_
    rintro e w1 ⟨rfl, b1⟩
    have HG1 := Lib.hid b1
    clear b1
    go_wp2_with fail
    refine (HAW.out _ HG1.out).mono ?_
    rintro e w9 ⟨rfl, b9⟩
    have HG9 := Lib.hid b9
    clear b9
    go_wp2_with fail
    go_ret
    exact ⟨rfl, HG9.out⟩
end Go.Proofs.Ytkdhchdhgmaolaa.Dd

namespace Go.Proofs.Ytkdhchdhgmaolaa.Dd
open Go.RowKit
open Pk Va
open Cd (pVal pMail Rs getV getM MailP BV bput BM NumsAt.bput NumsAt.of_block)
set_option linter.unusedVariables false
set_option linter.unusedSimpArgs false

def GotM (X : MailP × Nat) (w : World) (e : Ending) (w' : World) : Prop :=
  ∃ ka kc fa fc, e = .returned (.tuple #[.agg #[.int .i64 X.1.id, .string (S X.1.chan), .slice ka X.1.key.length kc, .slice fa X.1.fields.length fc], .int .i64 (X.2 : Int)]) ∧ Below w.heap.size w w' ∧ ValsAt w' ka X.1.key ∧ ValsAt w' fa X.1.fields
def GotV (X : V × Nat) (w : World) (e : Ending) (w' : World) : Prop :=
  ∃ q cap, e = .returned (.tuple #[valC X.1 q cap, .int .i64 (X.2 : Int)]) ∧ Below w.heap.size w w' ∧ NumsAt w' q X.1.list

set_option maxRecDepth 100000 in
set_option maxHeartbeats 8000000 in
theorem rGetMail_any (s : List UInt8) (hs : s.length ≤ 2000000) (w : World) :
    Calls Try.prog 11 #[.string (S s)] w fun e w' => GotM (getM s) w e w' := by
  obtain ⟨X, hXX⟩ : ∃ X, pMail s 0 = X := ⟨_, rfl⟩
  have HX := Lib.hid hXX
  clear hXX
  obtain ⟨W0, hW0⟩ : ∃ W0, W0 = (w.alloc (.cells #[.int .i64 0, .string ⟨#[]⟩, .slice none 0 0, .slice none 0 0] 33)).alloc (.cells #[.string (S s), .int .i64 0, .int .i64 0] 87) := ⟨_, rfl⟩
  have hsz : W0.heap.size = w.heap.size + 1 + 1 := by rw [hW0]; simp
  have hb0 : Below w.heap.size w W0 := by rw [hW0]; exact ((Below.refl w.heap.size w).alloc (Nat.le_refl _) _).alloc (by simp) _
  have hz0 : BM W0 w.heap.size (.int .i64 0) (.string ⟨#[]⟩) (.slice none 0 0) (.slice none 0 0) := by rw [hW0]; exact (((Below.refl _ _).alloc (Nat.le_refl _) _).block _ (by simp)).trans (heap_alloc_new w _)
  have hr0 : W0.heap[w.heap.size + 1]? = some (.cells #[.string (S s), .int .i64 0, .int .i64 0] 87 (0, 0)) := by rw [hW0]; have := heap_alloc_new (w.alloc (.cells #[.int .i64 0, .string ⟨#[]⟩, .slice none 0 0, .slice none 0 0] 33)) (.cells #[.string (S s), .int .i64 0, .int .i64 0] 87); rwa [show (w.alloc (.cells #[.int .i64 0, .string ⟨#[]⟩, .slice none 0 0, .slice none 0 0] 33)).heap.size = w.heap.size + 1 by simp] at this
  have hR0 : RdrR (w.heap.size + 1) (w.heap.size + 1) (w.heap.size + 1) s 0 W0 := ⟨Nat.le_refl _, rfl, rdd (b := S s) (a := 0) hr0 (Nat.zero_le _) (by rw [S_size]; exact hs) (by rw [S_toList]; rfl) (by omega)⟩
  have T0 := Lib.hid (RdTo.of_below hR0 (Below.refl _ _))
  have HB0 := Lib.hid hb0
  have HSZ := Lib.hid hsz
  have HZ0 := Lib.hid hz0
  have HW0 := Lib.hid hW0
  clear hb0 hz0 hr0 hR0 hsz hW0
  go_enter Try.func11, Try.ntmps11
  go_wp2_with fail
  rw [← HW0.out]
  refine (mail_d (w.heap.size + 1) (w.heap.size + 1) s 0 _ T0.out.rdr).mono ?_
  rintro e w1 ⟨ka, dk, kc, fa, df, fc, mi, mc, l1, b1, rfl, hsim, hk16, hf16, t9, vk, vf⟩
  rw [HX.out] at hsim
  clear hk16 hf16
  obtain ⟨hz9, fz9⟩ := t9.box HZ0.out ⟨by omega, lt_of_heapV HZ0.out⟩
  have ka1 := (Below.refl w1.heap.size w1).alloc (Nat.le_refl _) (.cells #[.int .i64 mi, .string (S mc), .slice ka dk.length kc, .slice fa df.length fc] 33)
  have tn := (T0.out.trans t9).trans (RdTo.of_below t9.rdr ka1)
  have hz := (ka1.block _ (lt_of_heapV hz9)).trans hz9
  have hs1 := t9.size
  have VKn := Lib.hid (vk.below t9.rdr ka1)
  have VFn := Lib.hid (vf.below t9.rdr ka1)
  have HEN := Lib.hid (dEnd_any (w.heap.size + 1) l1 b1 _ tn.rdr.rd)
  rw [hsim.endV] at HEN
  have T1 := Lib.hid tn
  have HZ1 := Lib.hid hz
  have HSIM := Lib.hid hsim
  have HS1 := Lib.hid hs1
  obtain ⟨ev, hev⟩ : ∃ ev, ev = endV X.2.1 X.2.2 := ⟨_, rfl⟩
  have hgx : getM s = if ev = 0 then (X.1, 0) else (⟨0, [], [], []⟩, ev) := by unfold getM; rw [HX.out, hev]
  rw [← hev] at HEN
  have HEV := Lib.hid hev
  have HGX := Lib.hid hgx
  clear hev hgx tn hz hz9 fz9 ka1 t9 hsim hs1 vk vf
  go_wp2_with fail
  refine HEN.out.mono ?_
  rintro e w9 ⟨rfl, b9⟩
  have hz : BM w9 w.heap.size (.int .i64 0) (.string ⟨#[]⟩) (.slice none 0 0) (.slice none 0 0) := (b9.block _ (lt_of_heapV HZ1.out)).trans HZ1.out
  have hbw := HB0.out.trans ((T1.out.trans (RdTo.of_below T1.out.rdr b9)).below.mono (Nat.le_succ _))
  have z0 := hz.c0
  have z1 := hz.c1
  have z2 := hz.c2
  have z3 := hz.c3
  have fz := hz.fz
  have hx := (b9.block _ (by simp)).trans (heap_alloc_new w1 (.cells #[.int .i64 mi, .string (S mc), .slice ka dk.length kc, .slice fa df.length fc] 33))
  have x0 := cell_of_row w9 w1.heap.size 0 _ _ (0, 0) hx
  have x1 := cell_of_row w9 w1.heap.size 1 _ _ (0, 0) hx
  have x2 := cell_of_row w9 w1.heap.size 2 _ _ (0, 0) hx
  have x3 := cell_of_row w9 w1.heap.size 3 _ _ (0, 0) hx
  by_cases h0 : ev = 0
  · subst h0
    rw [if_pos rfl] at HGX
    have HB4 := Lib.hid (Cd.bput_below hbw w.heap.size (Nat.le_refl _) (.int .i64 mi) (.string (S mc)) (.slice ka dk.length kc) (.slice fa df.length fc))
    have HP := Lib.hid (hz.put (.int .i64 mi) (.string (S mc)) (.slice ka dk.length kc) (.slice fa df.length fc))
    have vk9 := VKn.out.below T1.out.rdr b9
    have vf9 := VFn.out.below T1.out.rdr b9
    have HVK := Lib.hid ((((vk9.set (g := w.heap.size) (j := 0) (by have := HS1.out; have := HSZ.out; omega) (by omega) (.int .i64 mi)).set (g := w.heap.size) (j := 1) (by have := HS1.out; have := HSZ.out; omega) (by omega) (.string (S mc))).set (g := w.heap.size) (j := 2) (by have := HS1.out; have := HSZ.out; omega) (by omega) (.slice ka dk.length kc)).set (g := w.heap.size) (j := 3) (by have := HS1.out; have := HSZ.out; omega) (by omega) (.slice fa df.length fc)).vals
    have HVF := Lib.hid ((((vf9.set (g := w.heap.size) (j := 0) (by have := HS1.out; have := HSZ.out; omega) (by omega) (.int .i64 mi)).set (g := w.heap.size) (j := 1) (by have := HS1.out; have := HSZ.out; omega) (by omega) (.string (S mc))).set (g := w.heap.size) (j := 2) (by have := HS1.out; have := HSZ.out; omega) (by omega) (.slice ka dk.length kc)).set (g := w.heap.size) (j := 3) (by have := HS1.out; have := HSZ.out; omega) (by omega) (.slice fa df.length fc)).vals
    clear vk9 vf9
    have HX2 := Lib.hid (HSIM.out.2 (Cd_endV_zero HEV.out HSIM.out)).1
    clear hz hx hbw b9
    go_wp2_with fail
    refine bodyPost_ret (Cd.res_bm2 rfl _ _ w.heap.size _ _ _ _ (.int .i64 0) rfl HP.out rfl) rfl ?_
    rw [HGX.out, ← HX2.out]
    exact ⟨ka, kc, fa, fc, by simp only; rw [List.length_map, List.length_map]; rfl, HB4.out, HVK.out, HVF.out⟩
  · rw [if_neg h0] at HGX
    have h3 := (err_ne ev h0).1
    have HB4 := Lib.hid (Cd.bput_below hbw w.heap.size (Nat.le_refl _) (.int .i64 0) (.string ⟨#[]⟩) (.slice none 0 0) (.slice none 0 0))
    have HP := Lib.hid (hz.put (.int .i64 0) (.string ⟨#[]⟩) (.slice none 0 0) (.slice none 0 0))
    clear hz hx hbw b9 h0
    go_wp2_with fail
    refine bodyPost_ret (Cd.res_bm2 rfl _ _ w.heap.size _ _ _ _ (.int .i64 (ev : Int)) rfl HP.out rfl) rfl ?_
    rw [HGX.out]
    exact ⟨none, 0, none, 0, rfl, HB4.out, fun i hi => absurd hi (by simp), fun i hi => absurd hi (by simp)⟩
  
set_option maxRecDepth 100000 in
set_option maxHeartbeats 8000000 in
theorem rGetValue_any (s : List UInt8) (hs : s.length ≤ 2000000) (w : World) :
    Calls Try.prog 9 #[.string (S s)] w fun e w' => GotV (getV s) w e w' := by
  obtain ⟨X, hXX⟩ : ∃ X, pVal s 0 = X := ⟨_, rfl⟩
  have HX := Lib.hid hXX
  clear hXX
  obtain ⟨W0, hW0⟩ : ∃ W0, W0 = (w.alloc (.cells #[.int .i64 0, .int .i64 0, .string ⟨#[]⟩, .slice none 0 0] 25)).alloc (.cells #[.string (S s), .int .i64 0, .int .i64 0] 87) := ⟨_, rfl⟩
  have hsz : W0.heap.size = w.heap.size + 1 + 1 := by rw [hW0]; simp
  have hb0 : Below w.heap.size w W0 := by rw [hW0]; exact ((Below.refl w.heap.size w).alloc (Nat.le_refl _) _).alloc (by simp) _
  have hz0 : BV W0 w.heap.size (.int .i64 0) (.int .i64 0) (.string ⟨#[]⟩) (.slice none 0 0) := by rw [hW0]; exact (((Below.refl _ _).alloc (Nat.le_refl _) _).block _ (by simp)).trans (heap_alloc_new w _)
  have hr0 : W0.heap[w.heap.size + 1]? = some (.cells #[.string (S s), .int .i64 0, .int .i64 0] 87 (0, 0)) := by rw [hW0]; have := heap_alloc_new (w.alloc (.cells #[.int .i64 0, .int .i64 0, .string ⟨#[]⟩, .slice none 0 0] 25)) (.cells #[.string (S s), .int .i64 0, .int .i64 0] 87); rwa [show (w.alloc (.cells #[.int .i64 0, .int .i64 0, .string ⟨#[]⟩, .slice none 0 0] 25)).heap.size = w.heap.size + 1 by simp] at this
  have hR0 : RdrR (w.heap.size + 1) (w.heap.size + 1) (w.heap.size + 1) s 0 W0 := ⟨Nat.le_refl _, rfl, rdd (b := S s) (a := 0) hr0 (Nat.zero_le _) (by rw [S_size]; exact hs) (by rw [S_toList]; rfl) (by omega)⟩
  have T0 := Lib.hid (RdTo.of_below hR0 (Below.refl _ _))
  have HB0 := Lib.hid hb0
  have HSZ := Lib.hid hsz
  have HZ0 := Lib.hid hz0
  have HW0 := Lib.hid hW0
  clear hb0 hz0 hr0 hR0 hsz hW0
  go_enter Try.func9, Try.ntmps9
  go_wp2_with fail
  rw [← HW0.out]
  refine (value_d (w.heap.size + 1) (w.heap.size + 1) s 0 _ T0.out.rdr).mono ?_
  rintro e w1 ⟨q, cap, v, l1, b1, rfl, hsim, t9, hn, hf⟩
  rw [HX.out] at hsim
  unfold valC
  obtain ⟨hz9, fz9⟩ := t9.box HZ0.out ⟨by omega, lt_of_heapV HZ0.out⟩
  have ka1 := (Below.refl w1.heap.size w1).alloc (Nat.le_refl _) (.cells #[.int .i64 v.kind, .int .i64 v.num, .string (S v.text), .slice q v.list.length cap] 25)
  have tn := (T0.out.trans t9).trans (RdTo.of_below t9.rdr ka1)
  have hz := (ka1.block _ (lt_of_heapV hz9)).trans hz9
  have hs1 := t9.size
  have HNn := Lib.hid (NumsAt.of_block hn (ka1.size) (fun g off e hne => ka1.block g (hf g off e hne).2.2))
  have HFn := Lib.hid (fun g off (e : q = some ⟨g, off, none⟩) (hne : v.list ≠ []) => show W0.heap.size ≤ g ∧ g < w1.heap.size from ⟨(hf g off e hne).1, (hf g off e hne).2.2⟩)
  have HEN := Lib.hid (dEnd_any (w.heap.size + 1) l1 b1 _ tn.rdr.rd)
  rw [hsim.endV] at HEN
  have T1 := Lib.hid tn
  have HZ1 := Lib.hid hz
  have HSIM := Lib.hid hsim
  have HS1 := Lib.hid hs1
  obtain ⟨ev, hev⟩ : ∃ ev, ev = endV X.2.1 X.2.2 := ⟨_, rfl⟩
  have hgx : getV s = if ev = 0 then (X.1, 0) else (⟨0, 0, [], []⟩, ev) := by unfold getV; rw [HX.out, hev]
  rw [← hev] at HEN
  have HEV := Lib.hid hev
  have HGX := Lib.hid hgx
  clear hev hgx tn hz hz9 fz9 ka1 t9 hsim hs1 hn hf
  go_wp2_with fail
  refine HEN.out.mono ?_
  rintro e w9 ⟨rfl, b9⟩
  have hz : BV w9 w.heap.size (.int .i64 0) (.int .i64 0) (.string ⟨#[]⟩) (.slice none 0 0) := (b9.block _ (lt_of_heapV HZ1.out)).trans HZ1.out
  have hbw := HB0.out.trans ((T1.out.trans (RdTo.of_below T1.out.rdr b9)).below.mono (Nat.le_succ _))
  have z0 := hz.c0
  have z1 := hz.c1
  have z2 := hz.c2
  have z3 := hz.c3
  have fz := hz.fz
  have hx := (b9.block _ (by simp)).trans (heap_alloc_new w1 (.cells #[.int .i64 v.kind, .int .i64 v.num, .string (S v.text), .slice q v.list.length cap] 25))
  have x0 := cell_of_row w9 w1.heap.size 0 _ _ (0, 0) hx
  have x1 := cell_of_row w9 w1.heap.size 1 _ _ (0, 0) hx
  have x2 := cell_of_row w9 w1.heap.size 2 _ _ (0, 0) hx
  have x3 := cell_of_row w9 w1.heap.size 3 _ _ (0, 0) hx
  by_cases h0 : ev = 0
  · subst h0
    rw [if_pos rfl] at HGX
    have HB4 := Lib.hid (Cd.bput_below hbw w.heap.size (Nat.le_refl _) (.int .i64 v.kind) (.int .i64 v.num) (.string (S v.text)) (.slice q v.list.length cap))
    have HP := Lib.hid (hz.put (.int .i64 v.kind) (.int .i64 v.num) (.string (S v.text)) (.slice q v.list.length cap))
    have hn9 := NumsAt.of_block HNn.out b9.size (fun g off e hne => b9.block g (by have := (HFn.out g off e hne).2; simp; omega))
    have HN9 := Lib.hid (NumsAt.bput hn9 w.heap.size (fun g off e hne => by have := (HFn.out g off e hne).1; have := HSZ.out; omega) (.int .i64 v.kind) (.int .i64 v.num) (.string (S v.text)) (.slice q v.list.length cap))
    clear hn9
    have HX2 := Lib.hid (HSIM.out.2 (Cd_endV_zero HEV.out HSIM.out)).1
    clear hz hx hbw b9
    go_wp2_with fail
    refine bodyPost_ret (Cd.res_bv2 rfl _ _ w.heap.size _ _ _ _ (.int .i64 0) rfl HP.out rfl) rfl ?_
    rw [HGX.out, ← HX2.out]
    exact ⟨q, cap, rfl, HB4.out, HN9.out⟩
  · rw [if_neg h0] at HGX
    have h3 := (err_ne ev h0).1
    have HB4 := Lib.hid (Cd.bput_below hbw w.heap.size (Nat.le_refl _) (.int .i64 0) (.int .i64 0) (.string ⟨#[]⟩) (.slice none 0 0))
    have HP := Lib.hid (hz.put (.int .i64 0) (.int .i64 0) (.string ⟨#[]⟩) (.slice none 0 0))
    clear hz hx hbw b9 h0
    go_wp2_with fail
    refine bodyPost_ret (Cd.res_bv2 rfl _ _ w.heap.size _ _ _ _ (.int .i64 (ev : Int)) rfl HP.out rfl) rfl ?_
    rw [HGX.out]
    exact ⟨none, 0, rfl, HB4.out, fun i hi => absurd hi (by simp)⟩
  
end Go.Proofs.Ytkdhchdhgmaolaa.Dd

namespace Go.Proofs.Ytkdhchdhgmaolaa.Dd
open Go.RowKit
open Pk Va
open Cd (pVal pMail pItem Rs getI ItemP MailP MK dM dM_get Iput Iput_at Iput_below res_Iput GotI NumsAt.of_block NumsAt.set MailsAt)
set_option linter.unusedVariables false
set_option linter.unusedSimpArgs false

theorem MRow.mails {B r cap : Nat} {w : World} {q : Option Addr} {d : List MK} (h : MRow B r w q d cap) : MailsAt w q (d.map MK.mail) := fun i hi => by
  have hi2 : i < d.length := by simpa using hi
  rcases h.own.2 with ⟨_, h0⟩ | ⟨g, cap2, cur, e, hB, hg, r⟩
  · omega
  · injection e with e1 _ _
    subst e1
    have hadd : ∀ j, (⟨g, 0, none⟩ : Addr).add j = ⟨g, j, none⟩ := fun j => by unfold Addr.add; split <;> simp_all
    obtain ⟨h0, h1, h2, h3⟩ := dM_get d i hi2
    have c := fun j u (hu : (dM d)[j]? = some u) => World.ownsRow.cells h.own (g := g) rfl j u hu
    have hx : (d.map MK.mail)[i] = d[i].mail := by simp
    obtain ⟨n1, n2, _⟩ := h.rows _ (List.getElem_mem hi2)
    refine ⟨g, 0, d[i].ka, d[i].kc, d[i].fa, d[i].fc, rfl, ?_, (Array.getElem?_eq_some_iff.1 hg).1⟩
    rw [hx, Nat.zero_add]
    unfold MK.mail
    refine ⟨?_, ?_, ?_, ?_, n1.vals, n2.vals⟩
    · have := c _ _ h0; rw [hadd] at this; exact this
    · have := c _ _ h1; rw [hadd] at this; exact this
    · have := c _ _ h2; rw [hadd] at this; simp only [List.length_map]; exact this
    · have := c _ _ h3; rw [hadd] at this; simp only [List.length_map]; exact this
theorem VRow.Iput {B r g cap : Nat} {w : World} {q : Option Addr} {d : List (V × Option Addr × Nat)} (h : VRow B r w q d cap) (hg : g < B) (hr : g ≠ r) (v0 v1 v2 v3 v4 v5 v6 : Value) : VRow B r (Iput w g v0 v1 v2 v3 v4 v5 v6) q d cap :=
  (((((((h.set (j := 0) hg hr v0).set (j := 1) hg hr v1).set (j := 2) hg hr v2).set (j := 3) hg hr v3).set (j := 4) hg hr v4).set (j := 5) hg hr v5).set (j := 6) hg hr v6)
theorem MRow.Iput {B r g cap : Nat} {w : World} {q : Option Addr} {d : List MK} (h : MRow B r w q d cap) (hg : g < B) (hr : g ≠ r) (v0 v1 v2 v3 v4 v5 v6 : Value) : MRow B r (Iput w g v0 v1 v2 v3 v4 v5 v6) q d cap :=
  (((((((h.set (j := 0) hg hr v0).set (j := 1) hg hr v1).set (j := 2) hg hr v2).set (j := 3) hg hr v3).set (j := 4) hg hr v4).set (j := 5) hg hr v5).set (j := 6) hg hr v6)
theorem nums_Iput {g : Nat} {w : World} {q : Option Addr} {d : List Int} (h : NumsAt w q d) (hg : ∀ g0 off, q = some ⟨g0, off, none⟩ → d ≠ [] → g0 ≠ g) (v0 v1 v2 v3 v4 v5 v6 : Value) : NumsAt (Iput w g v0 v1 v2 v3 v4 v5 v6) q d :=
  (NumsAt.set (NumsAt.set (NumsAt.set (NumsAt.set (NumsAt.set (NumsAt.set (NumsAt.set h g hg 0 v0) g hg 1 v1) g hg 2 v2) g hg 3 v3) g hg 4 v4) g hg 5 v5) g hg 6 v6)

set_option maxRecDepth 100000 in
set_option maxHeartbeats 8000000 in
theorem rGetItem_any (s : List UInt8) (hs : s.length ≤ 2000000) (w : World) :
    Calls Try.prog 13 #[.string (S s)] w fun e w' => GotI (getI s) w e w' := by
  obtain ⟨X, hXX⟩ : ∃ X, pItem s 0 = X := ⟨_, rfl⟩
  have HX := Lib.hid hXX
  clear hXX
  obtain ⟨W0, hW0⟩ : ∃ W0, W0 = (w.alloc (.cells #[.int .i64 0, .string ⟨#[]⟩, .string ⟨#[]⟩, .int .i64 0, .slice none 0 0, .slice none 0 0, .slice none 0 0] 41)).alloc (.cells #[.string (S s), .int .i64 0, .int .i64 0] 87) := ⟨_, rfl⟩
  have hsz : W0.heap.size = w.heap.size + 1 + 1 := by rw [hW0]; simp
  have hb0 : Below w.heap.size w W0 := by rw [hW0]; exact ((Below.refl w.heap.size w).alloc (Nat.le_refl _) _).alloc (by simp) _
  have hz0 : W0.heap[w.heap.size]? = some (.cells #[.int .i64 0, .string ⟨#[]⟩, .string ⟨#[]⟩, .int .i64 0, .slice none 0 0, .slice none 0 0, .slice none 0 0] 41 (0, 0)) := by rw [hW0]; exact (((Below.refl _ _).alloc (Nat.le_refl _) _).block _ (by simp)).trans (heap_alloc_new w _)
  have hr0 : W0.heap[w.heap.size + 1]? = some (.cells #[.string (S s), .int .i64 0, .int .i64 0] 87 (0, 0)) := by rw [hW0]; have := heap_alloc_new (w.alloc (.cells #[.int .i64 0, .string ⟨#[]⟩, .string ⟨#[]⟩, .int .i64 0, .slice none 0 0, .slice none 0 0, .slice none 0 0] 41)) (.cells #[.string (S s), .int .i64 0, .int .i64 0] 87); rwa [show (w.alloc (.cells #[.int .i64 0, .string ⟨#[]⟩, .string ⟨#[]⟩, .int .i64 0, .slice none 0 0, .slice none 0 0, .slice none 0 0] 41)).heap.size = w.heap.size + 1 by simp] at this
  have hR0 : RdrR (w.heap.size + 1) (w.heap.size + 1) (w.heap.size + 1) s 0 W0 := ⟨Nat.le_refl _, rfl, rdd (b := S s) (a := 0) hr0 (Nat.zero_le _) (by rw [S_size]; exact hs) (by rw [S_toList]; rfl) (by omega)⟩
  have T0 := Lib.hid (RdTo.of_below hR0 (Below.refl _ _))
  have HB0 := Lib.hid hb0
  have HSZ := Lib.hid hsz
  have HZ0 := Lib.hid hz0
  have HW0 := Lib.hid hW0
  clear hb0 hz0 hr0 hR0 hsz hW0
  go_enter Try.func13, Try.ntmps13
  go_wp2_with fail
  rw [← HW0.out]
  refine (item_d (w.heap.size + 1) (w.heap.size + 1) s 0 _ T0.out.rdr).mono ?_
  rintro e w1 ⟨qa, da, ca, qc, cs, cc, qx, dx, cx, ii, it, iz, is, l1, b1, rfl, hsim, t9, va, nc, fc, vx⟩
  rw [HX.out] at hsim
  obtain ⟨hz9, fz9⟩ := t9.box HZ0.out ⟨by omega, lt_of_heapV HZ0.out⟩
  have ka1 := (Below.refl w1.heap.size w1).alloc (Nat.le_refl _) (.cells #[.int .i64 ii, .string (S it), .string (S iz), .int .i64 is, .slice qa da.length ca, .slice qc cs.length cc, .slice qx dx.length cx] 41)
  have tn := (T0.out.trans t9).trans (RdTo.of_below t9.rdr ka1)
  have hz := (ka1.block _ (lt_of_heapV hz9)).trans hz9
  have hs1 := t9.size
  have VAn := Lib.hid (va.below t9.rdr ka1)
  have VXn := Lib.hid (vx.below t9.rdr ka1)
  have NCn := Lib.hid (NumsAt.of_block nc ka1.size (fun g off e hne => ka1.block g (fc g off e hne).2.2))
  have FCn := Lib.hid (fun g off (e : qc = some ⟨g, off, none⟩) (hne : cs ≠ []) => show W0.heap.size ≤ g ∧ g < w1.heap.size from ⟨(fc g off e hne).1, (fc g off e hne).2.2⟩)
  have HEN := Lib.hid (dEnd_any (w.heap.size + 1) l1 b1 _ tn.rdr.rd)
  rw [hsim.endV] at HEN
  have T1 := Lib.hid tn
  have HZ1 := Lib.hid hz
  have HSIM := Lib.hid hsim
  have HS1 := Lib.hid hs1
  obtain ⟨ev, hev⟩ : ∃ ev, ev = endV X.2.1 X.2.2 := ⟨_, rfl⟩
  have hgx : getI s = if ev = 0 then (X.1, 0) else (⟨0, [], [], 0, [], [], []⟩, ev) := by unfold getI; rw [HX.out, hev]
  rw [← hev] at HEN
  have HEV := Lib.hid hev
  have HGX := Lib.hid hgx
  clear hev hgx tn hz hz9 fz9 ka1 t9 hsim hs1 va nc fc vx
  go_wp2_with fail
  refine HEN.out.mono ?_
  rintro e w9 ⟨rfl, b9⟩
  have hz : w9.heap[w.heap.size]? = some (.cells #[.int .i64 0, .string ⟨#[]⟩, .string ⟨#[]⟩, .int .i64 0, .slice none 0 0, .slice none 0 0, .slice none 0 0] 41 (0, 0)) := (b9.block _ (lt_of_heapV HZ1.out)).trans HZ1.out
  have hbw := HB0.out.trans ((T1.out.trans (RdTo.of_below T1.out.rdr b9)).below.mono (Nat.le_succ _))
  have z0 := cell_of_row _ w.heap.size 0 _ _ (0, 0) hz
  have z1 := cell_of_row _ w.heap.size 1 _ _ (0, 0) hz
  have z2 := cell_of_row _ w.heap.size 2 _ _ (0, 0) hz
  have z3 := cell_of_row _ w.heap.size 3 _ _ (0, 0) hz
  have z4 := cell_of_row _ w.heap.size 4 _ _ (0, 0) hz
  have z5 := cell_of_row _ w.heap.size 5 _ _ (0, 0) hz
  have z6 := cell_of_row _ w.heap.size 6 _ _ (0, 0) hz
  have fz := fun j => frozen_of_row _ w.heap.size j _ _ hz
  have hx := (b9.block _ (by simp)).trans (heap_alloc_new w1 (.cells #[.int .i64 ii, .string (S it), .string (S iz), .int .i64 is, .slice qa da.length ca, .slice qc cs.length cc, .slice qx dx.length cx] 41))
  have x0 := cell_of_row w9 w1.heap.size 0 _ _ (0, 0) hx
  have x1 := cell_of_row w9 w1.heap.size 1 _ _ (0, 0) hx
  have x2 := cell_of_row w9 w1.heap.size 2 _ _ (0, 0) hx
  have x3 := cell_of_row w9 w1.heap.size 3 _ _ (0, 0) hx
  have x4 := cell_of_row w9 w1.heap.size 4 _ _ (0, 0) hx
  have x5 := cell_of_row w9 w1.heap.size 5 _ _ (0, 0) hx
  have x6 := cell_of_row w9 w1.heap.size 6 _ _ (0, 0) hx
  by_cases h0 : ev = 0
  · subst h0
    rw [if_pos rfl] at HGX
    have HB4 := Lib.hid (Iput_below hbw w.heap.size (Nat.le_refl _) (.int .i64 ii) (.string (S it)) (.string (S iz)) (.int .i64 is) (.slice qa da.length ca) (.slice qc cs.length cc) (.slice qx dx.length cx))
    have HP := Lib.hid (Iput_at hz (.int .i64 ii) (.string (S it)) (.string (S iz)) (.int .i64 is) (.slice qa da.length ca) (.slice qc cs.length cc) (.slice qx dx.length cx))
    have hlt : w.heap.size < W0.heap.size := by have := HSZ.out; omega
    have va9 := VAn.out.below T1.out.rdr b9
    have vx9 := VXn.out.below T1.out.rdr b9
    have nc9 := NumsAt.of_block NCn.out b9.size (fun g off e hne => b9.block g (by have := (FCn.out g off e hne).2; simp; omega))
    have HVA := Lib.hid (va9.Iput hlt (by omega) (.int .i64 ii) (.string (S it)) (.string (S iz)) (.int .i64 is) (.slice qa da.length ca) (.slice qc cs.length cc) (.slice qx dx.length cx)).vals
    have HVX := Lib.hid (vx9.Iput hlt (by omega) (.int .i64 ii) (.string (S it)) (.string (S iz)) (.int .i64 is) (.slice qa da.length ca) (.slice qc cs.length cc) (.slice qx dx.length cx)).mails
    have HNC := Lib.hid (nums_Iput nc9 (g := w.heap.size) (fun g off e hne => by have := (FCn.out g off e hne).1; omega) (.int .i64 ii) (.string (S it)) (.string (S iz)) (.int .i64 is) (.slice qa da.length ca) (.slice qc cs.length cc) (.slice qx dx.length cx))
    clear va9 vx9 nc9 hlt
    have HX2 := Lib.hid (HSIM.out.2 (Cd_endV_zero HEV.out HSIM.out)).1
    clear hz hx hbw b9
    go_wp2_with fail
    refine bodyPost_ret (res_Iput rfl _ _ w.heap.size _ _ _ _ _ _ _ (.int .i64 0) rfl HP.out rfl) rfl ?_
    rw [HGX.out, ← HX2.out]
    exact ⟨qa, ca, qc, cc, qx, cx, by simp only [List.length_map]; rfl, HB4.out, HVA.out, HNC.out, HVX.out⟩
  · rw [if_neg h0] at HGX
    have h3 := (err_ne ev h0).1
    have HB4 := Lib.hid (Iput_below hbw w.heap.size (Nat.le_refl _) (.int .i64 0) (.string ⟨#[]⟩) (.string ⟨#[]⟩) (.int .i64 0) (.slice none 0 0) (.slice none 0 0) (.slice none 0 0))
    have HP := Lib.hid (Iput_at hz (.int .i64 0) (.string ⟨#[]⟩) (.string ⟨#[]⟩) (.int .i64 0) (.slice none 0 0) (.slice none 0 0) (.slice none 0 0))
    clear hz hx hbw b9 h0
    go_wp2_with fail
    refine bodyPost_ret (res_Iput rfl _ _ w.heap.size _ _ _ _ _ _ _ (.int .i64 (ev : Int)) rfl HP.out rfl) rfl ?_
    rw [HGX.out]
    exact ⟨none, 0, none, 0, none, 0, rfl, HB4.out, fun i hi => absurd hi (by simp), fun i hi => absurd hi (by simp), fun i hi => absurd hi (by simp)⟩
  
end Go.Proofs.Ytkdhchdhgmaolaa.Dd

namespace Go.Proofs.Ytkdhchdhgmaolaa.Dd
open Go.RowKit
open Pk Va
open Cd (pByte pNum pTruth pText pSmall pSym pVal pLoop pAll pRej pMail pItem pCnt Rs getV getM getI GotI MailP ItemP ROk MOk good_call)
set_option linter.unusedVariables false
set_option linter.unusedSimpArgs false

theorem pGetMail_got (s : List UInt8) (hs : s.length ≤ 2000000) (w : World) :
    Calls Try.prog 10 #[.string (S s)] w fun e w' => GotM (getM s) w e w' :=
  (Cd.GetMail_any s hs w).mono fun e w' ⟨r, ka, dk, kc, fa, df, fc, he, ek, ef, hb, _, vk, vf⟩ =>
    ⟨ka, kc, fa, fc, by rw [he, ← ek, ← ef, List.length_map, List.length_map], hb, by rw [← ek]; exact vk.vals, by rw [← ef]; exact vf.vals⟩
theorem getV_vok (s : List UInt8) : VOk (getV s).1 := by
  unfold getV
  split
  · exact pVal_vok s 0
  · exact ⟨by simp, by simp⟩
theorem pMail_mok (l : List UInt8) (b : Nat) : MOk (pMail l b).1 := by
  unfold Cd.pMail
  simp only
  exact ⟨pRow_rok _ _, pRow_rok _ _⟩
theorem getM_mok (s : List UInt8) : MOk (getM s).1 := by
  unfold getM
  split
  · exact pMail_mok s 0
  · exact ⟨rok_nil, rok_nil⟩
theorem pItem_ok (l : List UInt8) (b : Nat) : ROk (pItem l b).1.attrs ∧ (pItem l b).1.counts.length ≤ 140737488355328 ∧ (∀ m ∈ (pItem l b).1.box, MOk m) ∧ (pItem l b).1.box.length ≤ 140737488355328 := by
  unfold Cd.pItem
  simp only
  refine ⟨pRow_rok _ _, ?_, pAll_all pMail_mok _ _ _, ?_⟩
  · have := Cd.pAll_len pCnt 16 (pAll pVal 16 (pText 24 (pText 24 (pNum (pNum l b).2.1 (pNum l b).2.2).2.1 (pNum (pNum l b).2.1 (pNum l b).2.2).2.2).2.1 (pText 24 (pNum (pNum l b).2.1 (pNum l b).2.2).2.1 (pNum (pNum l b).2.1 (pNum l b).2.2).2.2).2.2).2.1 (pText 24 (pText 24 (pNum (pNum l b).2.1 (pNum l b).2.2).2.1 (pNum (pNum l b).2.1 (pNum l b).2.2).2.2).2.1 (pText 24 (pNum (pNum l b).2.1 (pNum l b).2.2).2.1 (pNum (pNum l b).2.1 (pNum l b).2.2).2.2).2.2).2.2).2.1 (pAll pVal 16 (pText 24 (pText 24 (pNum (pNum l b).2.1 (pNum l b).2.2).2.1 (pNum (pNum l b).2.1 (pNum l b).2.2).2.2).2.1 (pText 24 (pNum (pNum l b).2.1 (pNum l b).2.2).2.1 (pNum (pNum l b).2.1 (pNum l b).2.2).2.2).2.2).2.1 (pText 24 (pText 24 (pNum (pNum l b).2.1 (pNum l b).2.2).2.1 (pNum (pNum l b).2.1 (pNum l b).2.2).2.2).2.1 (pText 24 (pNum (pNum l b).2.1 (pNum l b).2.2).2.1 (pNum (pNum l b).2.1 (pNum l b).2.2).2.2).2.2).2.2).2.2
    exact Nat.le_trans this (by decide)
  · exact Nat.le_trans (Cd.pAll_len pMail 4096 _ _) (by decide)
theorem getI_ok (s : List UInt8) : ROk (getI s).1.attrs ∧ (getI s).1.counts.length ≤ 140737488355328 ∧ (∀ m ∈ (getI s).1.box, MOk m) ∧ (getI s).1.box.length ≤ 140737488355328 := by
  unfold getI
  split
  · exact pItem_ok s 0
  · exact ⟨rok_nil, by simp, fun m hm => by simp at hm, by simp⟩
theorem refSame_self (v : V) (h : VOk v) (q : Option Addr) (c : Nat) (q2 : Option Addr) (c2 : Nat) (W : World) (h1 : NumsAt W q v.list) (h2 : NumsAt W q2 v.list) :
    Calls Try.prog 14 #[.agg #[.int .i64 v.kind, .int .i64 v.num, .string (S v.text), .slice q v.list.length c], .agg #[.int .i64 v.kind, .int .i64 v.num, .string (S v.text), .slice q2 v.list.length c2]] W fun e w' => e = .returned (.bool true) ∧ Below W.heap.size W w' := by
  have := Va.refSame_any v v h h q q2 c c2 W h1 h2
  rw [(sameV_iff v v).2 rfl] at this
  exact this

set_option maxRecDepth 100000 in
set_option maxHeartbeats 16000000 in
theorem CodeGets_small (s : List UInt8) (hs : s.length ≤ 5000) (w : World) :
    Calls Try.prog 3 #[.string (S s)] w fun e w' => e = .returned (.bool true) ∧ Below w.heap.size w w' := by
  have hsz : ¬ (5000 : Int) < ((S s).size : Int) := by rw [S_size]; omega
  have HAW := Lib.hid (fun W0 W (k : Cd.Good W0 W) => good_call (R := fun e => e = .returned (.bool true)) k (Cd.awake_any W))
  have HPD := Lib.hid (fun W => Cd.GetValue_any s (by omega) W)
  have HRD := Lib.hid (fun W => rGetValue_any s (by omega) W)
  have HPE := Lib.hid (fun W => pGetMail_got s (by omega) W)
  have HRE := Lib.hid (fun W => rGetMail_any s (by omega) W)
  have HPS := Lib.hid (fun W => Cd.GetItem_any s (by omega) W)
  have HRS := Lib.hid (fun W => rGetItem_any s (by omega) W)
  have hvok := getV_vok s
  have hmok := getM_mok s
  have hiok := getI_ok s
  obtain ⟨⟨D, gd⟩, hgd⟩ : ∃ d, getV s = d := ⟨_, rfl⟩
  obtain ⟨⟨Y, ge⟩, hge⟩ : ∃ d, getM s = d := ⟨_, rfl⟩
  obtain ⟨⟨Z, gs⟩, hgs⟩ : ∃ d, getI s = d := ⟨_, rfl⟩
  rw [hgd] at HPD HRD hvok
  rw [hge] at HPE HRE hmok
  rw [hgs] at HPS HRS hiok
  simp only at hvok hmok hiok
  have HIOK := Lib.hid hiok
  generalize S s = TT at *
  have HG0 := Lib.hid (Cd.Good.refl w)
  clear hgd hge hgs hs hiok
  go_enter Try.func3, Try.ntmps3
  go_wp2_with fail
  refine (HAW.out w _ HG0.out).mono ?_
  rintro e w1 ⟨rfl, b1⟩
  have G1 := Lib.hid b1
  clear b1
  go_wp2_with fail
  refine (HPD.out _).mono ?_
  rintro e v1 ⟨q1, u1, rfl, b9, n1, _⟩
  (try unfold valC)
  (try simp only at n1)
  obtain ⟨V1, hV⟩ : ∃ V, V = v1.alloc (.cells #[.int .i64 D.kind, .int .i64 D.num, .string (S D.text), .slice q1 D.list.length u1] 25) := ⟨_, rfl⟩
  have kk := (Below.refl v1.heap.size v1).alloc (Nat.le_refl _) (.cells #[.int .i64 D.kind, .int .i64 D.num, .string (S D.text), .slice q1 D.list.length u1] 25)
  have hz := heap_alloc_new v1 (.cells #[.int .i64 D.kind, .int .i64 D.num, .string (S D.text), .slice q1 D.list.length u1] 25)
  have kg := Cd.Good.alloc (show Cd.Good w1 v1 from b9) (.cells #[.int .i64 D.kind, .int .i64 D.num, .string (S D.text), .slice q1 D.list.length u1] 25)
  have N10 := Lib.hid (n1.below kk)
  rw [← hV] at hz kg N10
  have Z1 := Lib.hid hz
  have K1 := Lib.hid kg
  have HV1 := Lib.hid hV
  clear b9 kk hz kg hV n1
  go_wp2_with fail
  rw [← HV1.out]
  refine (HRD.out _).mono ?_
  rintro e v2 ⟨q2, u2, rfl, b9, n1⟩
  (try unfold valC)
  (try simp only at n1)
  obtain ⟨V2, hV⟩ : ∃ V, V = v2.alloc (.cells #[.int .i64 D.kind, .int .i64 D.num, .string (S D.text), .slice q2 D.list.length u2] 25) := ⟨_, rfl⟩
  have kk := (Below.refl v2.heap.size v2).alloc (Nat.le_refl _) (.cells #[.int .i64 D.kind, .int .i64 D.num, .string (S D.text), .slice q2 D.list.length u2] 25)
  have hz := heap_alloc_new v2 (.cells #[.int .i64 D.kind, .int .i64 D.num, .string (S D.text), .slice q2 D.list.length u2] 25)
  have kg := Cd.Good.alloc (show Cd.Good V1 v2 from b9) (.cells #[.int .i64 D.kind, .int .i64 D.num, .string (S D.text), .slice q2 D.list.length u2] 25)
  have N20 := Lib.hid (n1.below kk)
  rw [← hV] at hz kg N20
  have Z2 := Lib.hid hz
  have K2 := Lib.hid kg
  have HV2 := Lib.hid hV
  clear b9 kk hz kg hV n1
  go_wp2_with fail
  rw [← HV2.out]
  refine (HPE.out _).mono ?_
  rintro e v3 ⟨ka1, kc1, fa1, fc1, rfl, b9, n1, n2⟩
  (try unfold valC)
  (try simp only at n1 n2)
  obtain ⟨V3, hV⟩ : ∃ V, V = v3.alloc (.cells #[.int .i64 Y.id, .string (S Y.chan), .slice ka1 Y.key.length kc1, .slice fa1 Y.fields.length fc1] 33) := ⟨_, rfl⟩
  have kk := (Below.refl v3.heap.size v3).alloc (Nat.le_refl _) (.cells #[.int .i64 Y.id, .string (S Y.chan), .slice ka1 Y.key.length kc1, .slice fa1 Y.fields.length fc1] 33)
  have hz := heap_alloc_new v3 (.cells #[.int .i64 Y.id, .string (S Y.chan), .slice ka1 Y.key.length kc1, .slice fa1 Y.fields.length fc1] 33)
  have kg := Cd.Good.alloc (show Cd.Good V2 v3 from b9) (.cells #[.int .i64 Y.id, .string (S Y.chan), .slice ka1 Y.key.length kc1, .slice fa1 Y.fields.length fc1] 33)
  have N30 := Lib.hid (n1.below kk)
  have N31 := Lib.hid (n2.below kk)
  rw [← hV] at hz kg N30 N31
  have Z3 := Lib.hid hz
  have K3 := Lib.hid kg
  have HV3 := Lib.hid hV
  clear b9 kk hz kg hV n1 n2
  go_wp2_with fail
  rw [← HV3.out]
  refine (HRE.out _).mono ?_
  rintro e v4 ⟨ka2, kc2, fa2, fc2, rfl, b9, n1, n2⟩
  (try unfold valC)
  (try simp only at n1 n2)
  obtain ⟨V4, hV⟩ : ∃ V, V = v4.alloc (.cells #[.int .i64 Y.id, .string (S Y.chan), .slice ka2 Y.key.length kc2, .slice fa2 Y.fields.length fc2] 33) := ⟨_, rfl⟩
  have kk := (Below.refl v4.heap.size v4).alloc (Nat.le_refl _) (.cells #[.int .i64 Y.id, .string (S Y.chan), .slice ka2 Y.key.length kc2, .slice fa2 Y.fields.length fc2] 33)
  have hz := heap_alloc_new v4 (.cells #[.int .i64 Y.id, .string (S Y.chan), .slice ka2 Y.key.length kc2, .slice fa2 Y.fields.length fc2] 33)
  have kg := Cd.Good.alloc (show Cd.Good V3 v4 from b9) (.cells #[.int .i64 Y.id, .string (S Y.chan), .slice ka2 Y.key.length kc2, .slice fa2 Y.fields.length fc2] 33)
  have N40 := Lib.hid (n1.below kk)
  have N41 := Lib.hid (n2.below kk)
  rw [← hV] at hz kg N40 N41
  have Z4 := Lib.hid hz
  have K4 := Lib.hid kg
  have HV4 := Lib.hid hV
  clear b9 kk hz kg hV n1 n2
  go_wp2_with fail
  rw [← HV4.out]
  refine (HPS.out _).mono ?_
  rintro e v5 ⟨aa1, ac1, ca1, cc1, ba1, bc1, rfl, b9, n1, n2, n3⟩
  (try unfold valC)
  (try simp only at n1 n2 n3)
  obtain ⟨V5, hV⟩ : ∃ V, V = v5.alloc (.cells #[.int .i64 Z.id, .string (S Z.typ), .string (S Z.state), .int .i64 Z.since, .slice aa1 Z.attrs.length ac1, .slice ca1 Z.counts.length cc1, .slice ba1 Z.box.length bc1] 41) := ⟨_, rfl⟩
  have kk := (Below.refl v5.heap.size v5).alloc (Nat.le_refl _) (.cells #[.int .i64 Z.id, .string (S Z.typ), .string (S Z.state), .int .i64 Z.since, .slice aa1 Z.attrs.length ac1, .slice ca1 Z.counts.length cc1, .slice ba1 Z.box.length bc1] 41)
  have hz := heap_alloc_new v5 (.cells #[.int .i64 Z.id, .string (S Z.typ), .string (S Z.state), .int .i64 Z.since, .slice aa1 Z.attrs.length ac1, .slice ca1 Z.counts.length cc1, .slice ba1 Z.box.length bc1] 41)
  have kg := Cd.Good.alloc (show Cd.Good V4 v5 from b9) (.cells #[.int .i64 Z.id, .string (S Z.typ), .string (S Z.state), .int .i64 Z.since, .slice aa1 Z.attrs.length ac1, .slice ca1 Z.counts.length cc1, .slice ba1 Z.box.length bc1] 41)
  have N50 := Lib.hid (n1.below kk)
  have N51 := Lib.hid (n2.below kk)
  have N52 := Lib.hid (n3.below kk)
  rw [← hV] at hz kg N50 N51 N52
  have Z5 := Lib.hid hz
  have K5 := Lib.hid kg
  have HV5 := Lib.hid hV
  clear b9 kk hz kg hV n1 n2 n3
  go_wp2_with fail
  rw [← HV5.out]
  refine (HRS.out _).mono ?_
  rintro e v6 ⟨aa2, ac2, ca2, cc2, ba2, bc2, rfl, b9, n1, n2, n3⟩
  (try unfold valC)
  (try simp only at n1 n2 n3)
  obtain ⟨V6, hV⟩ : ∃ V, V = v6.alloc (.cells #[.int .i64 Z.id, .string (S Z.typ), .string (S Z.state), .int .i64 Z.since, .slice aa2 Z.attrs.length ac2, .slice ca2 Z.counts.length cc2, .slice ba2 Z.box.length bc2] 41) := ⟨_, rfl⟩
  have kk := (Below.refl v6.heap.size v6).alloc (Nat.le_refl _) (.cells #[.int .i64 Z.id, .string (S Z.typ), .string (S Z.state), .int .i64 Z.since, .slice aa2 Z.attrs.length ac2, .slice ca2 Z.counts.length cc2, .slice ba2 Z.box.length bc2] 41)
  have hz := heap_alloc_new v6 (.cells #[.int .i64 Z.id, .string (S Z.typ), .string (S Z.state), .int .i64 Z.since, .slice aa2 Z.attrs.length ac2, .slice ca2 Z.counts.length cc2, .slice ba2 Z.box.length bc2] 41)
  have kg := Cd.Good.alloc (show Cd.Good V5 v6 from b9) (.cells #[.int .i64 Z.id, .string (S Z.typ), .string (S Z.state), .int .i64 Z.since, .slice aa2 Z.attrs.length ac2, .slice ca2 Z.counts.length cc2, .slice ba2 Z.box.length bc2] 41)
  have N60 := Lib.hid (n1.below kk)
  have N61 := Lib.hid (n2.below kk)
  have N62 := Lib.hid (n3.below kk)
  rw [← hV] at hz kg N60 N61 N62
  have Z6 := Lib.hid hz
  have K6 := Lib.hid kg
  have HV6 := Lib.hid hV
  clear b9 kk hz kg hV n1 n2 n3
  go_wp2_with fail
  rw [← HV6.out]
  have C6 := Lib.hid (Cd.Good.refl V6)
  have C5 := Lib.hid (K6.out.step C6.out)
  have C4 := Lib.hid (K5.out.step C5.out)
  have C3 := Lib.hid (K4.out.step C4.out)
  have C2 := Lib.hid (K3.out.step C3.out)
  have C1 := Lib.hid (K2.out.step C2.out)
  have G6 := Lib.hid (G1.out.step (K1.out.step C1.out))
  have HKP := Lib.hid (fun W (k : Cd.Good V6 W) => show (W.cell? ⟨v1.heap.size, 0, none⟩ = some (.int .i64 D.kind) ∧ W.cell? ⟨v1.heap.size, 1, none⟩ = some (.int .i64 D.num) ∧ W.cell? ⟨v1.heap.size, 2, none⟩ = some (.string (S D.text)) ∧ W.cell? ⟨v1.heap.size, 3, none⟩ = some (.slice q1 D.list.length u1)) ∧ (W.cell? ⟨v2.heap.size, 0, none⟩ = some (.int .i64 D.kind) ∧ W.cell? ⟨v2.heap.size, 1, none⟩ = some (.int .i64 D.num) ∧ W.cell? ⟨v2.heap.size, 2, none⟩ = some (.string (S D.text)) ∧ W.cell? ⟨v2.heap.size, 3, none⟩ = some (.slice q2 D.list.length u2)) ∧ (W.cell? ⟨v3.heap.size, 0, none⟩ = some (.int .i64 Y.id) ∧ W.cell? ⟨v3.heap.size, 1, none⟩ = some (.string (S Y.chan)) ∧ W.cell? ⟨v3.heap.size, 2, none⟩ = some (.slice ka1 Y.key.length kc1) ∧ W.cell? ⟨v3.heap.size, 3, none⟩ = some (.slice fa1 Y.fields.length fc1)) ∧ (W.cell? ⟨v4.heap.size, 0, none⟩ = some (.int .i64 Y.id) ∧ W.cell? ⟨v4.heap.size, 1, none⟩ = some (.string (S Y.chan)) ∧ W.cell? ⟨v4.heap.size, 2, none⟩ = some (.slice ka2 Y.key.length kc2) ∧ W.cell? ⟨v4.heap.size, 3, none⟩ = some (.slice fa2 Y.fields.length fc2)) ∧ (W.cell? ⟨v5.heap.size, 0, none⟩ = some (.int .i64 Z.id) ∧ W.cell? ⟨v5.heap.size, 1, none⟩ = some (.string (S Z.typ)) ∧ W.cell? ⟨v5.heap.size, 2, none⟩ = some (.string (S Z.state)) ∧ W.cell? ⟨v5.heap.size, 3, none⟩ = some (.int .i64 Z.since) ∧ W.cell? ⟨v5.heap.size, 4, none⟩ = some (.slice aa1 Z.attrs.length ac1) ∧ W.cell? ⟨v5.heap.size, 5, none⟩ = some (.slice ca1 Z.counts.length cc1) ∧ W.cell? ⟨v5.heap.size, 6, none⟩ = some (.slice ba1 Z.box.length bc1)) ∧ (W.cell? ⟨v6.heap.size, 0, none⟩ = some (.int .i64 Z.id) ∧ W.cell? ⟨v6.heap.size, 1, none⟩ = some (.string (S Z.typ)) ∧ W.cell? ⟨v6.heap.size, 2, none⟩ = some (.string (S Z.state)) ∧ W.cell? ⟨v6.heap.size, 3, none⟩ = some (.int .i64 Z.since) ∧ W.cell? ⟨v6.heap.size, 4, none⟩ = some (.slice aa2 Z.attrs.length ac2) ∧ W.cell? ⟨v6.heap.size, 5, none⟩ = some (.slice ca2 Z.counts.length cc2) ∧ W.cell? ⟨v6.heap.size, 6, none⟩ = some (.slice ba2 Z.box.length bc2)) from
    ⟨⟨cell_of_row W v1.heap.size 0 _ _ (0, 0) (((C1.out.step k).block _ (lt_of_heapV Z1.out)).trans Z1.out), cell_of_row W v1.heap.size 1 _ _ (0, 0) (((C1.out.step k).block _ (lt_of_heapV Z1.out)).trans Z1.out), cell_of_row W v1.heap.size 2 _ _ (0, 0) (((C1.out.step k).block _ (lt_of_heapV Z1.out)).trans Z1.out), cell_of_row W v1.heap.size 3 _ _ (0, 0) (((C1.out.step k).block _ (lt_of_heapV Z1.out)).trans Z1.out)⟩, ⟨cell_of_row W v2.heap.size 0 _ _ (0, 0) (((C2.out.step k).block _ (lt_of_heapV Z2.out)).trans Z2.out), cell_of_row W v2.heap.size 1 _ _ (0, 0) (((C2.out.step k).block _ (lt_of_heapV Z2.out)).trans Z2.out), cell_of_row W v2.heap.size 2 _ _ (0, 0) (((C2.out.step k).block _ (lt_of_heapV Z2.out)).trans Z2.out), cell_of_row W v2.heap.size 3 _ _ (0, 0) (((C2.out.step k).block _ (lt_of_heapV Z2.out)).trans Z2.out)⟩, ⟨cell_of_row W v3.heap.size 0 _ _ (0, 0) (((C3.out.step k).block _ (lt_of_heapV Z3.out)).trans Z3.out), cell_of_row W v3.heap.size 1 _ _ (0, 0) (((C3.out.step k).block _ (lt_of_heapV Z3.out)).trans Z3.out), cell_of_row W v3.heap.size 2 _ _ (0, 0) (((C3.out.step k).block _ (lt_of_heapV Z3.out)).trans Z3.out), cell_of_row W v3.heap.size 3 _ _ (0, 0) (((C3.out.step k).block _ (lt_of_heapV Z3.out)).trans Z3.out)⟩, ⟨cell_of_row W v4.heap.size 0 _ _ (0, 0) (((C4.out.step k).block _ (lt_of_heapV Z4.out)).trans Z4.out), cell_of_row W v4.heap.size 1 _ _ (0, 0) (((C4.out.step k).block _ (lt_of_heapV Z4.out)).trans Z4.out), cell_of_row W v4.heap.size 2 _ _ (0, 0) (((C4.out.step k).block _ (lt_of_heapV Z4.out)).trans Z4.out), cell_of_row W v4.heap.size 3 _ _ (0, 0) (((C4.out.step k).block _ (lt_of_heapV Z4.out)).trans Z4.out)⟩, ⟨cell_of_row W v5.heap.size 0 _ _ (0, 0) (((C5.out.step k).block _ (lt_of_heapV Z5.out)).trans Z5.out), cell_of_row W v5.heap.size 1 _ _ (0, 0) (((C5.out.step k).block _ (lt_of_heapV Z5.out)).trans Z5.out), cell_of_row W v5.heap.size 2 _ _ (0, 0) (((C5.out.step k).block _ (lt_of_heapV Z5.out)).trans Z5.out), cell_of_row W v5.heap.size 3 _ _ (0, 0) (((C5.out.step k).block _ (lt_of_heapV Z5.out)).trans Z5.out), cell_of_row W v5.heap.size 4 _ _ (0, 0) (((C5.out.step k).block _ (lt_of_heapV Z5.out)).trans Z5.out), cell_of_row W v5.heap.size 5 _ _ (0, 0) (((C5.out.step k).block _ (lt_of_heapV Z5.out)).trans Z5.out), cell_of_row W v5.heap.size 6 _ _ (0, 0) (((C5.out.step k).block _ (lt_of_heapV Z5.out)).trans Z5.out)⟩, ⟨cell_of_row W v6.heap.size 0 _ _ (0, 0) (((C6.out.step k).block _ (lt_of_heapV Z6.out)).trans Z6.out), cell_of_row W v6.heap.size 1 _ _ (0, 0) (((C6.out.step k).block _ (lt_of_heapV Z6.out)).trans Z6.out), cell_of_row W v6.heap.size 2 _ _ (0, 0) (((C6.out.step k).block _ (lt_of_heapV Z6.out)).trans Z6.out), cell_of_row W v6.heap.size 3 _ _ (0, 0) (((C6.out.step k).block _ (lt_of_heapV Z6.out)).trans Z6.out), cell_of_row W v6.heap.size 4 _ _ (0, 0) (((C6.out.step k).block _ (lt_of_heapV Z6.out)).trans Z6.out), cell_of_row W v6.heap.size 5 _ _ (0, 0) (((C6.out.step k).block _ (lt_of_heapV Z6.out)).trans Z6.out), cell_of_row W v6.heap.size 6 _ _ (0, 0) (((C6.out.step k).block _ (lt_of_heapV Z6.out)).trans Z6.out)⟩⟩)
  have R0 := Lib.hid (Cd.Good.refl V6)
  refine (HAW.out V6 _ R0.out).mono ?_
  rintro e r1 ⟨rfl, b9⟩
  have R1 := Lib.hid b9
  clear b9
  obtain ⟨⟨p10, p11, p12, p13⟩, ⟨p20, p21, p22, p23⟩, ⟨p30, p31, p32, p33⟩, ⟨p40, p41, p42, p43⟩, ⟨p50, p51, p52, p53, p54, p55, p56⟩, ⟨p60, p61, p62, p63, p64, p65, p66⟩⟩ := HKP.out _ R1.out
  go_wp2_with fail
  refine (good_call (R := fun e => e = .returned (.bool true)) R1.out (refSame_self D hvok q1 u1 q2 u2 _ (N10.out.below (C1.out.step R1.out)) (N20.out.below (C2.out.step R1.out)))).mono ?_
  rintro e r2 ⟨rfl, b9⟩
  have R2 := Lib.hid b9
  clear b9 p10 p11 p12 p13 p20 p21 p22 p23 p30 p31 p32 p33 p40 p41 p42 p43 p50 p51 p52 p53 p54 p55 p56 p60 p61 p62 p63 p64 p65 p66
  obtain ⟨⟨p10, p11, p12, p13⟩, ⟨p20, p21, p22, p23⟩, ⟨p30, p31, p32, p33⟩, ⟨p40, p41, p42, p43⟩, ⟨p50, p51, p52, p53, p54, p55, p56⟩, ⟨p60, p61, p62, p63, p64, p65, p66⟩⟩ := HKP.out _ R2.out
  go_wp2_with fail
  refine (good_call (R := fun e => e = .returned (.bool true)) R2.out (Cd.sameMail_refl Y hmok.1 hmok.2 ka1 kc1 fa1 fc1 ka2 kc2 fa2 fc2 _ (N30.out.below (C3.out.step R2.out)) (N31.out.below (C3.out.step R2.out)) (N40.out.below (C4.out.step R2.out)) (N41.out.below (C4.out.step R2.out)))).mono ?_
  rintro e r3 ⟨rfl, b9⟩
  have R3 := Lib.hid b9
  clear b9 p10 p11 p12 p13 p20 p21 p22 p23 p30 p31 p32 p33 p40 p41 p42 p43 p50 p51 p52 p53 p54 p55 p56 p60 p61 p62 p63 p64 p65 p66
  obtain ⟨⟨p10, p11, p12, p13⟩, ⟨p20, p21, p22, p23⟩, ⟨p30, p31, p32, p33⟩, ⟨p40, p41, p42, p43⟩, ⟨p50, p51, p52, p53, p54, p55, p56⟩, ⟨p60, p61, p62, p63, p64, p65, p66⟩⟩ := HKP.out _ R3.out
  go_wp2_with fail
  refine (good_call (R := fun e => e = .returned (.bool true)) R3.out (Cd.sameItem_refl Z HIOK.out.1 HIOK.out.2.1 HIOK.out.2.2.1 HIOK.out.2.2.2 aa1 ac1 ca1 cc1 ba1 bc1 aa2 ac2 ca2 cc2 ba2 bc2 _ (N50.out.below (C5.out.step R3.out)) (N51.out.below (C5.out.step R3.out)) (N52.out.below (C5.out.step R3.out)) (N60.out.below R3.out) (N61.out.below R3.out) (N62.out.below R3.out))).mono ?_
  rintro e r4 ⟨rfl, b9⟩
  have R4 := Lib.hid b9
  clear b9 p10 p11 p12 p13 p20 p21 p22 p23 p30 p31 p32 p33 p40 p41 p42 p43 p50 p51 p52 p53 p54 p55 p56 p60 p61 p62 p63 p64 p65 p66
  obtain ⟨⟨p10, p11, p12, p13⟩, ⟨p20, p21, p22, p23⟩, ⟨p30, p31, p32, p33⟩, ⟨p40, p41, p42, p43⟩, ⟨p50, p51, p52, p53, p54, p55, p56⟩, ⟨p60, p61, p62, p63, p64, p65, p66⟩⟩ := HKP.out _ R4.out
  go_wp2_with fail
  go_ret
  exact ⟨rfl, G6.out.step R4.out⟩

set_option maxRecDepth 100000 in
theorem CodeGets_door (s : ByteArray) (w : World) (hs : s.size ≤ 140737488355328) :
    Calls Try.prog 3 #[.string s] w fun e w' => e = .returned (.bool true) ∧ Below w.heap.size w w' := by
  by_cases h : s.size ≤ 5000
  · have e : s = S s.data.toList := by apply ByteArray.ext; simp [S]
    rw [e]
    exact CodeGets_small _ (by simpa using h) w
  · have hsz : (5000 : Int) < (s.size : Int) := by omega
    have HAW := Lib.hid (fun W (k : Cd.Good w W) => good_call (R := fun e => e = .returned (.bool true)) k (Cd.awake_any W))
    have HG0 := Lib.hid (Cd.Good.refl w)
    clear h hs
    go_enter Try.func3, Try.ntmps3
    go_wp2_with fail
    refine (HAW.out _ HG0.out).mono ?_
    rintro e w1 ⟨rfl, b1⟩
    have HG1 := Lib.hid b1
    clear b1
    go_wp2_with fail
    refine (HAW.out _ HG1.out).mono ?_
    rintro e w9 ⟨rfl, b9⟩
    have HG9 := Lib.hid b9
    clear b9
    go_wp2_with fail
    go_ret
    exact ⟨rfl, HG9.out⟩
end Go.Proofs.Ytkdhchdhgmaolaa.Dd
