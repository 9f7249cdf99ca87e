/-
  Code's reader: a value.
-/
import Derived.Test.YtkdhchdhgmaolaaZCdRdC
namespace Go.Proofs.Ytkdhchdhgmaolaa.Cd
open Go.RowKit
open Pk Va
set_option linter.unusedVariables false
set_option linter.unusedSimpArgs false
set_option linter.unnecessarySimpa false

/-- A variable of a value. -/
def BV (w : World) (H : Nat) (a b c d : Value) : Prop := w.heap[H]? = some (.cells #[a, b, c, d] 25 (0, 0))
section
variable {w w' : World} {H : Nat} {a b c d : Value}
theorem BV.c0 (h : BV w H a b c d) : w.cell? ⟨H, 0, none⟩ = some a := cell_of_row w H 0 _ _ (0, 0) h
theorem BV.c1 (h : BV w H a b c d) : w.cell? ⟨H, 1, none⟩ = some b := cell_of_row w H 1 _ _ (0, 0) h
theorem BV.c2 (h : BV w H a b c d) : w.cell? ⟨H, 2, none⟩ = some c := cell_of_row w H 2 _ _ (0, 0) h
theorem BV.c3 (h : BV w H a b c d) : w.cell? ⟨H, 3, none⟩ = some d := cell_of_row w H 3 _ _ (0, 0) h
theorem BV.fz (h : BV w H a b c d) (j : Nat) : w.frozen? ⟨H, j, none⟩ = false := frozen_of_row w H j _ _ h
theorem BV.lt (h : BV w H a b c d) : H < w.heap.size := lt_of_heapV h
theorem BV.set1 (h : BV w H a b c d) (x : Value) : BV (w.setCell ⟨H, 1, none⟩ x) H a x c d := heap_setCell_same w H 1 _ _ _ h
theorem BV.set2 (h : BV w H a b c d) (x : Value) : BV (w.setCell ⟨H, 2, none⟩ x) H a b x d := heap_setCell_same w H 2 _ _ _ h
theorem BV.set3 (h : BV w H a b c d) (x : Value) : BV (w.setCell ⟨H, 3, none⟩ x) H a b c x := heap_setCell_same w H 3 _ _ _ h
theorem BV.other (h : BV w H a b c d) (g j : Nat) (hg : H ≠ g) (x : Value) : BV (w.setCell ⟨g, j, none⟩ x) H a b c d := (heap_setCell_other w ⟨g, j, none⟩ H x hg).trans h
end
def bput (w : World) (H : Nat) (x y z u : Value) : World := (((w.setCell ⟨H, 0, none⟩ x).setCell ⟨H, 1, none⟩ y).setCell ⟨H, 2, none⟩ z).setCell ⟨H, 3, none⟩ u
theorem BV.put {w : World} {H : Nat} {a b c d : Value} (h : BV w H a b c d) (x y z u : Value) : BV (bput w H x y z u) H x y z u :=
  heap_setCell_same _ H 3 _ _ _ (heap_setCell_same _ H 2 _ _ _ (heap_setCell_same _ H 1 _ _ _ (heap_setCell_same w H 0 _ _ _ h)))
theorem RdTo.bv {H r g : Nat} {l : List UInt8} {bad : Nat} {w w' : World} {a b c d : Value} (t : RdTo H r l bad w w') (h : BV w g a b c d) (f : OffR r g w) : BV w' g a b c d ∧ OffR r g w' := t.box h f
/-- A store into a block that was not there. -/
theorem RdTo.set {H r g : Nat} {l : List UInt8} {bad : Nat} {w wr : World} (t : RdTo H r l bad w wr) (hH : H ≤ w.heap.size) (hg : w.heap.size ≤ g) (ho : OffR r g wr) (j : Nat) (v : Value) : RdTo H r l bad w (wr.setCell ⟨g, j, none⟩ v) :=
  t.grown hH (row := some g) ⟨rfl, rfl, rfl, by simp [World.setCell], fun k _ hk => heap_setCell_other wr ⟨g, j, none⟩ k v (fun e => hk (by rw [e]))⟩ (fun g' e => by injection e with e; subst e; exact ⟨hg, ho⟩)
theorem OffR.set {r g g2 j : Nat} {w : World} (h : OffR r g w) (hne : g2 ≠ r) (v : Value) : OffR r g (w.setCell ⟨g2, j, none⟩ v) := by
  obtain ⟨a, b, R, c, d⟩ := h
  exact ⟨a, by simpa [World.setCell] using b, R, (heap_setCell_other w ⟨g2, j, none⟩ r v (fun e => hne e.symm)).trans c, d⟩
theorem RdTo.bput {H r g : Nat} {l : List UInt8} {bad : Nat} {w wr : World} (t : RdTo H r l bad w wr) (hH : H ≤ w.heap.size) (hg : w.heap.size ≤ g) (ho : OffR r g wr) (x y z u : Value) : RdTo H r l bad w (bput wr g x y z u) := by
  have h1 := ho.set (j := 0) ho.1 x
  have h2 := h1.set (j := 1) ho.1 y
  have h3 := h2.set (j := 2) ho.1 z
  exact (((t.set hH hg ho 0 x).set hH hg h1 1 y).set hH hg h2 2 z).set hH hg h3 3 u
theorem OffR.bput {r g g2 : Nat} {w : World} (h : OffR r g w) (hne : g2 ≠ r) (x y z u : Value) : OffR r g (bput w g2 x y z u) :=
  (((h.set (j := 0) hne x).set (j := 1) hne y).set (j := 2) hne z).set (j := 3) hne u
theorem NumsAt.set {w : World} {q : Option Addr} {l : List Int} (h : NumsAt w q l) (g : Nat) (hne : ∀ b off, q = some ⟨b, off, none⟩ → l ≠ [] → b ≠ g) (j : Nat) (v : Value) : NumsAt (w.setCell ⟨g, j, none⟩ v) q l := fun i hi => by
  obtain ⟨b, off, e, hc, hb⟩ := h i hi
  refine ⟨b, off, e, ?_, by simpa [World.setCell] using hb⟩
  have hbg := hne b off e (by intro e2; rw [e2] at hi; simp at hi)
  rw [World.cell?_setCell_other (w := w) (a := ⟨g, j, none⟩) (b := ⟨b, off + i, none⟩) (h := by intro e2; injection e2 with e2 _ _; exact hbg e2.symm)]
  exact hc
theorem NumsAt.bput {w : World} {q : Option Addr} {l : List Int} (h : NumsAt w q l) (g : Nat) (hne : ∀ b off, q = some ⟨b, off, none⟩ → l ≠ [] → b ≠ g) (x y z u : Value) : NumsAt (bput w g x y z u) q l :=
  NumsAt.set (NumsAt.set (NumsAt.set (NumsAt.set h g hne 0 x) g hne 1 y) g hne 2 z) g hne 3 u
/-- What is read out of a result's own variable. -/
theorem res_bv {fn : Func} {p : Tmp} (h : fn.results = #[.cell p 25]) (tmps : Array Value) (w : World) (g : Nat) (a b c d : Value)
    (hp : tmps.getD p undef = .pointer (some ⟨g, 0, none⟩)) (hg : BV w g a b c d) : (results fn tmps).run Try.prog w = .ok (.agg #[a, b, c, d]) w :=
  results_cell_row h tmps w g _ _ _ _ hp hg Try.underlying25 rfl (by kernel_rfl)
/-- What a read value leaves. -/
def ValR (H r : Nat) (X : Rs V) (w : World) (e : Ending) (w' : World) : Prop :=
  ∃ q cap, e = .returned (valC X.1 q cap) ∧ RdTo H r X.2.1 X.2.2 w w' ∧ NumsAt w' q X.1.list ∧ ∀ g off, q = some ⟨g, off, none⟩ → X.1.list ≠ [] → w.heap.size ≤ g ∧ OffR r g w'

set_option maxRecDepth 100000 in
set_option maxHeartbeats 4000000 in
theorem value_r0 (H r R : Nat) (l : List UInt8) (hl : l.length ≤ 2000000) (bad : Nat) (w : World) (h : RdrR H r R l bad w) (k : Nat) (l1 : List UInt8) (b1 : Nat) (hy : pByte l bad = (k, l1, b1)) (hk : k = 0) :
    Calls Try.prog 33 #[.pointer (some ⟨r, 0, none⟩)] w fun e w' => ValR H r (pVal l bad) w e w' := by
  have hX : pVal l bad = (⟨0, 0, [], []⟩, l1, b1) := by
    unfold pVal
    simp only [hy]
    rw [if_pos hk]
  subst hk
  rw [hX]
  have kk := (Below.refl w.heap.size w).alloc (Nat.le_refl _) (.cells #[.int .i64 0, .int .i64 0, .string ⟨#[]⟩, .slice none 0 0] 25)
  have hR0 := h.below kk
  have hz0 : BV (w.alloc (.cells #[.int .i64 0, .int .i64 0, .string ⟨#[]⟩, .slice none 0 0] 25)) w.heap.size (.int .i64 0) (.int .i64 0) (.string ⟨#[]⟩) (.slice none 0 0) := heap_alloc_new w _
  have HFZ := Lib.hid (h.off_new (.cells #[.int .i64 0, .int .i64 0, .string ⟨#[]⟩, .slice none 0 0] 25))
  have c0 := hR0.c0
  have HC := Lib.hid (rByte_k R l hl bad _ hR0.2.2.2.2)
  have hsh : (pByte l bad).2.1.length ≤ 2000000 := Nat.le_trans (rdG_short _ _ _ _) hl
  unfold pByte at hy hsh
  rw [hy] at HC hsh
  simp only at HC hsh
  have HT0 := Lib.hid (RdTo.of_below h kk)
  have HR0 := Lib.hid hR0
  have HZ0 := Lib.hid hz0
  have HH := Lib.hid h.size
  have HSH := Lib.hid hsh
  clear h kk hR0 hz0 hX hsh hy
  go_enter Try.func33, Try.ntmps33
  go_wp2_with fail
  refine HC.out.mono ?_
  rintro e w1 ⟨rfl, r1, o1⟩
  obtain ⟨hR1, t1⟩ := HR0.out.step r1 o1
  have ka := (Below.refl w1.heap.size w1).alloc (Nat.le_refl _) (.cells #[.int .i64 0, .int .i64 0, .string ⟨#[]⟩, .slice none 0 0] 25)
  have hR2 := hR1.below ka
  have c0 := hR2.c0
  obtain ⟨hz1, fz1⟩ := t1.bv HZ0.out HFZ.out
  have hz2 : BV (w1.alloc (.cells #[.int .i64 0, .int .i64 0, .string ⟨#[]⟩, .slice none 0 0] 25)) w.heap.size (.int .i64 0) (.int .i64 0) (.string ⟨#[]⟩) (.slice none 0 0) := (ka.block _ hz1.lt).trans hz1
  have HFZ2 := Lib.hid (fz1.below ka)
  have HFV2 := Lib.hid (hR1.off_new (.cells #[.int .i64 0, .int .i64 0, .string ⟨#[]⟩, .slice none 0 0] 25))
  have hv2 : BV (w1.alloc (.cells #[.int .i64 0, .int .i64 0, .string ⟨#[]⟩, .slice none 0 0] 25)) w1.heap.size (.int .i64 0) (.int .i64 0) (.string ⟨#[]⟩) (.slice none 0 0) := heap_alloc_new w1 _
  have HZV := Lib.hid (show w.heap.size < w1.heap.size from hz1.lt)
  have HT2 := Lib.hid ((HT0.out.trans t1).trans (RdTo.of_below hR1 ka))
  have HR2 := Lib.hid hR2
  have HZ2 := Lib.hid hz2
  have HV2 := Lib.hid hv2
  clear r1 o1 hR1 t1 ka hR2 hz1 fz1 hz2 hv2
  have hzE := HZ2.out
  have hvE := HV2.out
  have HTE := Lib.hid (HT2.out.bput HH.out (Nat.le_refl _) HFZ2.out (.int .i64 0) (.int .i64 0) (.string ⟨#[]⟩) (.slice none 0 0))
  have z0 := hzE.c0
  have z1 := hzE.c1
  have z2 := hzE.c2
  have z3 := hzE.c3
  have fz := hzE.fz
  have v0 := hvE.c0
  have v1 := hvE.c1
  have v2 := hvE.c2
  have v3 := hvE.c3
  have HP := Lib.hid (hzE.put (.int .i64 0) (.int .i64 0) (.string ⟨#[]⟩) (.slice none 0 0))
  clear hzE hvE
  go_wp2_with fail
  exact bodyPost_ret (res_bv rfl _ _ w.heap.size _ _ _ _ rfl HP.out) rfl ⟨none, 0, rfl, HTE.out, fun i hi => absurd hi (by simp), fun _ _ _ h => absurd rfl h⟩

set_option maxRecDepth 100000 in
set_option maxHeartbeats 4000000 in
theorem value_r1 (H r R : Nat) (l : List UInt8) (hl : l.length ≤ 2000000) (bad : Nat) (w : World) (h : RdrR H r R l bad w) (k : Nat) (l1 : List UInt8) (b1 : Nat) (hy : pByte l bad = (k, l1, b1)) (hk : k = 1) :
    Calls Try.prog 33 #[.pointer (some ⟨r, 0, none⟩)] w fun e w' => ValR H r (pVal l bad) w e w' := by
  have hX : pVal l bad = (⟨1, (pNum l1 b1).1, [], []⟩, (pNum l1 b1).2) := by
    unfold pVal
    simp only [hy]
    rw [if_neg (by omega), if_pos hk]
  subst hk
  rw [hX]
  obtain ⟨⟨n, l2, b2⟩, hY⟩ : ∃ y, y = pNum l1 b1 := ⟨_, rfl⟩
  rw [← hY]
  have HY := Lib.hid hY
  clear hY
  have kk := (Below.refl w.heap.size w).alloc (Nat.le_refl _) (.cells #[.int .i64 0, .int .i64 0, .string ⟨#[]⟩, .slice none 0 0] 25)
  have hR0 := h.below kk
  have hz0 : BV (w.alloc (.cells #[.int .i64 0, .int .i64 0, .string ⟨#[]⟩, .slice none 0 0] 25)) w.heap.size (.int .i64 0) (.int .i64 0) (.string ⟨#[]⟩) (.slice none 0 0) := heap_alloc_new w _
  have HFZ := Lib.hid (h.off_new (.cells #[.int .i64 0, .int .i64 0, .string ⟨#[]⟩, .slice none 0 0] 25))
  have c0 := hR0.c0
  have HC := Lib.hid (rByte_k R l hl bad _ hR0.2.2.2.2)
  have hsh : (pByte l bad).2.1.length ≤ 2000000 := Nat.le_trans (rdG_short _ _ _ _) hl
  unfold pByte at hy hsh
  rw [hy] at HC hsh
  simp only at HC hsh
  have HT0 := Lib.hid (RdTo.of_below h kk)
  have HR0 := Lib.hid hR0
  have HZ0 := Lib.hid hz0
  have HH := Lib.hid h.size
  have HSH := Lib.hid hsh
  clear h kk hR0 hz0 hX hsh hy
  go_enter Try.func33, Try.ntmps33
  go_wp2_with fail
  refine HC.out.mono ?_
  rintro e w1 ⟨rfl, r1, o1⟩
  obtain ⟨hR1, t1⟩ := HR0.out.step r1 o1
  have ka := (Below.refl w1.heap.size w1).alloc (Nat.le_refl _) (.cells #[.int .i64 1, .int .i64 0, .string ⟨#[]⟩, .slice none 0 0] 25)
  have hR2 := hR1.below ka
  have c0 := hR2.c0
  obtain ⟨hz1, fz1⟩ := t1.bv HZ0.out HFZ.out
  have hz2 : BV (w1.alloc (.cells #[.int .i64 1, .int .i64 0, .string ⟨#[]⟩, .slice none 0 0] 25)) w.heap.size (.int .i64 0) (.int .i64 0) (.string ⟨#[]⟩) (.slice none 0 0) := (ka.block _ hz1.lt).trans hz1
  have HFZ2 := Lib.hid (fz1.below ka)
  have HFV2 := Lib.hid (hR1.off_new (.cells #[.int .i64 1, .int .i64 0, .string ⟨#[]⟩, .slice none 0 0] 25))
  have hv2 : BV (w1.alloc (.cells #[.int .i64 1, .int .i64 0, .string ⟨#[]⟩, .slice none 0 0] 25)) w1.heap.size (.int .i64 1) (.int .i64 0) (.string ⟨#[]⟩) (.slice none 0 0) := heap_alloc_new w1 _
  have HZV := Lib.hid (show w.heap.size < w1.heap.size from hz1.lt)
  have HT2 := Lib.hid ((HT0.out.trans t1).trans (RdTo.of_below hR1 ka))
  have HR2 := Lib.hid hR2
  have HZ2 := Lib.hid hz2
  have HV2 := Lib.hid hv2
  clear r1 o1 hR1 t1 ka hR2 hz1 fz1 hz2 hv2
  have HC2 := Lib.hid (rNumber_k R l1 HSH.out b1 _ HR2.out.2.2.2.2)
  rw [show rdG 0 (decN l1) l1 b1 = (n, l2, b2) from HY.out.symm] at HC2
  go_wp2_with fail
  refine HC2.out.mono ?_
  rintro e w3 ⟨rfl, r3, o3⟩
  obtain ⟨hR3, t3⟩ := HR2.out.step r3 o3
  obtain ⟨hz3, fz3⟩ := t3.bv HZ2.out HFZ2.out
  obtain ⟨hv3, fv3⟩ := t3.bv HV2.out HFV2.out
  have g1 := hv3.fz
  have g2 := hv3.c1
  have HT4 := Lib.hid ((HT2.out.trans t3).set HH.out (Nat.le_of_lt HZV.out) fv3 1 (.int .i64 n))
  have hzE := hz3.other w1.heap.size 1 (by have := HZV.out; omega) (.int .i64 n)
  have hvE := hv3.set1 (.int .i64 n)
  have HTE := Lib.hid (HT4.out.bput HH.out (Nat.le_refl _) (fz3.set (j := 1) fv3.1 (.int .i64 n)) (.int .i64 1) (.int .i64 n) (.string ⟨#[]⟩) (.slice none 0 0))
  clear r3 o3 hR3 t3 hz3 fz3 hv3 fv3
  have z0 := hzE.c0
  have z1 := hzE.c1
  have z2 := hzE.c2
  have z3 := hzE.c3
  have fz := hzE.fz
  have v0 := hvE.c0
  have v1 := hvE.c1
  have v2 := hvE.c2
  have v3 := hvE.c3
  have HP := Lib.hid (hzE.put (.int .i64 1) (.int .i64 n) (.string ⟨#[]⟩) (.slice none 0 0))
  clear hzE hvE
  go_wp2_with fail
  exact bodyPost_ret (res_bv rfl _ _ w.heap.size _ _ _ _ rfl HP.out) rfl ⟨none, 0, rfl, HTE.out, fun i hi => absurd hi (by simp), fun _ _ _ h => absurd rfl h⟩

set_option maxRecDepth 100000 in
set_option maxHeartbeats 4000000 in
theorem value_r2 (H r R : Nat) (l : List UInt8) (hl : l.length ≤ 2000000) (bad : Nat) (w : World) (h : RdrR H r R l bad w) (k : Nat) (l1 : List UInt8) (b1 : Nat) (hy : pByte l bad = (k, l1, b1)) (hk : k = 2) :
    Calls Try.prog 33 #[.pointer (some ⟨r, 0, none⟩)] w fun e w' => ValR H r (pVal l bad) w e w' := by
  have hX : pVal l bad = (⟨2, if (pTruth l1 b1).1 = true then 1 else 0, [], []⟩, (pTruth l1 b1).2) := by
    unfold pVal
    simp only [hy]
    rw [if_neg (by omega), if_neg (by omega), if_pos hk]
  subst hk
  rw [hX]
  obtain ⟨⟨n, l2, b2⟩, hY⟩ : ∃ y, y = pTruth l1 b1 := ⟨_, rfl⟩
  rw [← hY]
  have HY := Lib.hid hY
  clear hY
  have kk := (Below.refl w.heap.size w).alloc (Nat.le_refl _) (.cells #[.int .i64 0, .int .i64 0, .string ⟨#[]⟩, .slice none 0 0] 25)
  have hR0 := h.below kk
  have hz0 : BV (w.alloc (.cells #[.int .i64 0, .int .i64 0, .string ⟨#[]⟩, .slice none 0 0] 25)) w.heap.size (.int .i64 0) (.int .i64 0) (.string ⟨#[]⟩) (.slice none 0 0) := heap_alloc_new w _
  have HFZ := Lib.hid (h.off_new (.cells #[.int .i64 0, .int .i64 0, .string ⟨#[]⟩, .slice none 0 0] 25))
  have c0 := hR0.c0
  have HC := Lib.hid (rByte_k R l hl bad _ hR0.2.2.2.2)
  have hsh : (pByte l bad).2.1.length ≤ 2000000 := Nat.le_trans (rdG_short _ _ _ _) hl
  unfold pByte at hy hsh
  rw [hy] at HC hsh
  simp only at HC hsh
  have HT0 := Lib.hid (RdTo.of_below h kk)
  have HR0 := Lib.hid hR0
  have HZ0 := Lib.hid hz0
  have HH := Lib.hid h.size
  have HSH := Lib.hid hsh
  clear h kk hR0 hz0 hX hsh hy
  go_enter Try.func33, Try.ntmps33
  go_wp2_with fail
  refine HC.out.mono ?_
  rintro e w1 ⟨rfl, r1, o1⟩
  obtain ⟨hR1, t1⟩ := HR0.out.step r1 o1
  have ka := (Below.refl w1.heap.size w1).alloc (Nat.le_refl _) (.cells #[.int .i64 2, .int .i64 0, .string ⟨#[]⟩, .slice none 0 0] 25)
  have hR2 := hR1.below ka
  have c0 := hR2.c0
  obtain ⟨hz1, fz1⟩ := t1.bv HZ0.out HFZ.out
  have hz2 : BV (w1.alloc (.cells #[.int .i64 2, .int .i64 0, .string ⟨#[]⟩, .slice none 0 0] 25)) w.heap.size (.int .i64 0) (.int .i64 0) (.string ⟨#[]⟩) (.slice none 0 0) := (ka.block _ hz1.lt).trans hz1
  have HFZ2 := Lib.hid (fz1.below ka)
  have HFV2 := Lib.hid (hR1.off_new (.cells #[.int .i64 2, .int .i64 0, .string ⟨#[]⟩, .slice none 0 0] 25))
  have hv2 : BV (w1.alloc (.cells #[.int .i64 2, .int .i64 0, .string ⟨#[]⟩, .slice none 0 0] 25)) w1.heap.size (.int .i64 2) (.int .i64 0) (.string ⟨#[]⟩) (.slice none 0 0) := heap_alloc_new w1 _
  have HZV := Lib.hid (show w.heap.size < w1.heap.size from hz1.lt)
  have HT2 := Lib.hid ((HT0.out.trans t1).trans (RdTo.of_below hR1 ka))
  have HR2 := Lib.hid hR2
  have HZ2 := Lib.hid hz2
  have HV2 := Lib.hid hv2
  clear r1 o1 hR1 t1 ka hR2 hz1 fz1 hz2 hv2
  have HC2 := Lib.hid (rTruth_k R l1 HSH.out b1 _ HR2.out.2.2.2.2)
  rw [show rdG false (decT l1) l1 b1 = (n, l2, b2) from HY.out.symm] at HC2
  cases n with
  | true =>
    simp only [if_true]
    go_wp2_with fail
    refine HC2.out.mono ?_
    rintro e w3 ⟨rfl, r3, o3⟩
    obtain ⟨hR3, t3⟩ := HR2.out.step r3 o3
    obtain ⟨hz3, fz3⟩ := t3.bv HZ2.out HFZ2.out
    obtain ⟨hv3, fv3⟩ := t3.bv HV2.out HFV2.out
    have g1 := hv3.fz
    have g2 := hv3.c1
    have HT4 := Lib.hid ((HT2.out.trans t3).set HH.out (Nat.le_of_lt HZV.out) fv3 1 (.int .i64 1))
    have hzE := hz3.other w1.heap.size 1 (by have := HZV.out; omega) (.int .i64 1)
    have hvE := hv3.set1 (.int .i64 1)
    have HTE := Lib.hid (HT4.out.bput HH.out (Nat.le_refl _) (fz3.set (j := 1) fv3.1 (.int .i64 1)) (.int .i64 2) (.int .i64 1) (.string ⟨#[]⟩) (.slice none 0 0))
    clear r3 o3 hR3 t3 hz3 fz3 hv3 fv3
    have z0 := hzE.c0
    have z1 := hzE.c1
    have z2 := hzE.c2
    have z3 := hzE.c3
    have fz := hzE.fz
    have v0 := hvE.c0
    have v1 := hvE.c1
    have v2 := hvE.c2
    have v3 := hvE.c3
    have HP := Lib.hid (hzE.put (.int .i64 2) (.int .i64 1) (.string ⟨#[]⟩) (.slice none 0 0))
    clear hzE hvE
    go_wp2_with fail
    exact bodyPost_ret (res_bv rfl _ _ w.heap.size _ _ _ _ rfl HP.out) rfl ⟨none, 0, rfl, HTE.out, fun i hi => absurd hi (by simp), fun _ _ _ h => absurd rfl h⟩
  | false =>
    simp only [Bool.false_eq_true, if_false]
    go_wp2_with fail
    refine HC2.out.mono ?_
    rintro e w3 ⟨rfl, r3, o3⟩
    obtain ⟨hR3, t3⟩ := HR2.out.step r3 o3
    obtain ⟨hz3, fz3⟩ := t3.bv HZ2.out HFZ2.out
    obtain ⟨hv3, fv3⟩ := t3.bv HV2.out HFV2.out
    have hzE := hz3
    have hvE := hv3
    have HTE := Lib.hid ((HT2.out.trans t3).bput HH.out (Nat.le_refl _) fz3 (.int .i64 2) (.int .i64 0) (.string ⟨#[]⟩) (.slice none 0 0))
    clear r3 o3 hR3 t3 hz3 fz3 hv3 fv3
    have z0 := hzE.c0
    have z1 := hzE.c1
    have z2 := hzE.c2
    have z3 := hzE.c3
    have fz := hzE.fz
    have v0 := hvE.c0
    have v1 := hvE.c1
    have v2 := hvE.c2
    have v3 := hvE.c3
    have HP := Lib.hid (hzE.put (.int .i64 2) (.int .i64 0) (.string ⟨#[]⟩) (.slice none 0 0))
    clear hzE hvE
    go_wp2_with fail
    exact bodyPost_ret (res_bv rfl _ _ w.heap.size _ _ _ _ rfl HP.out) rfl ⟨none, 0, rfl, HTE.out, fun i hi => absurd hi (by simp), fun _ _ _ h => absurd rfl h⟩

set_option maxRecDepth 100000 in
set_option maxHeartbeats 4000000 in
theorem value_r3 (H r R : Nat) (l : List UInt8) (hl : l.length ≤ 2000000) (bad : Nat) (w : World) (h : RdrR H r R l bad w) (k : Nat) (l1 : List UInt8) (b1 : Nat) (hy : pByte l bad = (k, l1, b1)) (hk : k = 3) :
    Calls Try.prog 33 #[.pointer (some ⟨r, 0, none⟩)] w fun e w' => ValR H r (pVal l bad) w e w' := by
  have hX : pVal l bad = (⟨3, 0, (pText 64 l1 b1).1, []⟩, (pText 64 l1 b1).2) := by
    unfold pVal
    simp only [hy]
    rw [if_neg (by omega), if_neg (by omega), if_neg (by omega), if_pos hk]
  subst hk
  rw [hX]
  obtain ⟨⟨n, l2, b2⟩, hY⟩ : ∃ y, y = pText 64 l1 b1 := ⟨_, rfl⟩
  rw [← hY]
  have HY := Lib.hid hY
  clear hY
  have kk := (Below.refl w.heap.size w).alloc (Nat.le_refl _) (.cells #[.int .i64 0, .int .i64 0, .string ⟨#[]⟩, .slice none 0 0] 25)
  have hR0 := h.below kk
  have hz0 : BV (w.alloc (.cells #[.int .i64 0, .int .i64 0, .string ⟨#[]⟩, .slice none 0 0] 25)) w.heap.size (.int .i64 0) (.int .i64 0) (.string ⟨#[]⟩) (.slice none 0 0) := heap_alloc_new w _
  have HFZ := Lib.hid (h.off_new (.cells #[.int .i64 0, .int .i64 0, .string ⟨#[]⟩, .slice none 0 0] 25))
  have c0 := hR0.c0
  have HC := Lib.hid (rByte_k R l hl bad _ hR0.2.2.2.2)
  have hsh : (pByte l bad).2.1.length ≤ 2000000 := Nat.le_trans (rdG_short _ _ _ _) hl
  unfold pByte at hy hsh
  rw [hy] at HC hsh
  simp only at HC hsh
  have HT0 := Lib.hid (RdTo.of_below h kk)
  have HR0 := Lib.hid hR0
  have HZ0 := Lib.hid hz0
  have HH := Lib.hid h.size
  have HSH := Lib.hid hsh
  clear h kk hR0 hz0 hX hsh hy
  go_enter Try.func33, Try.ntmps33
  go_wp2_with fail
  refine HC.out.mono ?_
  rintro e w1 ⟨rfl, r1, o1⟩
  obtain ⟨hR1, t1⟩ := HR0.out.step r1 o1
  have ka := (Below.refl w1.heap.size w1).alloc (Nat.le_refl _) (.cells #[.int .i64 3, .int .i64 0, .string ⟨#[]⟩, .slice none 0 0] 25)
  have hR2 := hR1.below ka
  have c0 := hR2.c0
  obtain ⟨hz1, fz1⟩ := t1.bv HZ0.out HFZ.out
  have hz2 : BV (w1.alloc (.cells #[.int .i64 3, .int .i64 0, .string ⟨#[]⟩, .slice none 0 0] 25)) w.heap.size (.int .i64 0) (.int .i64 0) (.string ⟨#[]⟩) (.slice none 0 0) := (ka.block _ hz1.lt).trans hz1
  have HFZ2 := Lib.hid (fz1.below ka)
  have HFV2 := Lib.hid (hR1.off_new (.cells #[.int .i64 3, .int .i64 0, .string ⟨#[]⟩, .slice none 0 0] 25))
  have hv2 : BV (w1.alloc (.cells #[.int .i64 3, .int .i64 0, .string ⟨#[]⟩, .slice none 0 0] 25)) w1.heap.size (.int .i64 3) (.int .i64 0) (.string ⟨#[]⟩) (.slice none 0 0) := heap_alloc_new w1 _
  have HZV := Lib.hid (show w.heap.size < w1.heap.size from hz1.lt)
  have HT2 := Lib.hid ((HT0.out.trans t1).trans (RdTo.of_below hR1 ka))
  have HR2 := Lib.hid hR2
  have HZ2 := Lib.hid hz2
  have HV2 := Lib.hid hv2
  clear r1 o1 hR1 t1 ka hR2 hz1 fz1 hz2 hv2
  have HC2 := Lib.hid (rText_k R l1 HSH.out b1 64 (by omega) (by omega) _ HR2.out.2.2.2.2)
  rw [show rdG [] (decX l1 64) l1 b1 = (n, l2, b2) from HY.out.symm] at HC2
  go_wp2_with fail
  refine HC2.out.mono ?_
  rintro e w3 ⟨rfl, r3, o3⟩
  obtain ⟨hR3, t3⟩ := HR2.out.step r3 o3
  clear r3 o3 hR3
  obtain ⟨hz3, fz3⟩ := t3.bv HZ2.out HFZ2.out
  obtain ⟨hv3, fv3⟩ := t3.bv HV2.out HFV2.out
  have g1 := hv3.fz
  have g2 := hv3.c2
  have HT4 := Lib.hid ((HT2.out.trans t3).set HH.out (Nat.le_of_lt HZV.out) fv3 2 (.string (S n)))
  have hzE := hz3.other w1.heap.size 2 (by have := HZV.out; omega) (.string (S n))
  have hvE := hv3.set2 (.string (S n))
  have HTE := Lib.hid (HT4.out.bput HH.out (Nat.le_refl _) (fz3.set (j := 2) fv3.1 (.string (S n))) (.int .i64 3) (.int .i64 0) (.string (S n)) (.slice none 0 0))
  clear t3 hz3 fz3 hv3 fv3
  have z0 := hzE.c0
  have z1 := hzE.c1
  have z2 := hzE.c2
  have z3 := hzE.c3
  have fz := hzE.fz
  have v0 := hvE.c0
  have v1 := hvE.c1
  have v2 := hvE.c2
  have v3 := hvE.c3
  have HP := Lib.hid (hzE.put (.int .i64 3) (.int .i64 0) (.string (S n)) (.slice none 0 0))
  clear hzE hvE
  go_wp2_with fail
  exact bodyPost_ret (res_bv rfl _ _ w.heap.size _ _ _ _ rfl HP.out) rfl ⟨none, 0, rfl, HTE.out, fun i hi => absurd hi (by simp), fun _ _ _ h => absurd rfl h⟩

set_option maxRecDepth 100000 in
set_option maxHeartbeats 4000000 in
theorem value_r4 (H r R : Nat) (l : List UInt8) (hl : l.length ≤ 2000000) (bad : Nat) (w : World) (h : RdrR H r R l bad w) (k : Nat) (l1 : List UInt8) (b1 : Nat) (hy : pByte l bad = (k, l1, b1)) (hk : k = 4) :
    Calls Try.prog 33 #[.pointer (some ⟨r, 0, none⟩)] w fun e w' => ValR H r (pVal l bad) w e w' := by
  have hX : pVal l bad = (⟨4, 0, (pSym l1 b1).1, []⟩, (pSym l1 b1).2) := by
    unfold pVal
    simp only [hy]
    rw [if_neg (by omega), if_neg (by omega), if_neg (by omega), if_neg (by omega), if_pos hk]
  subst hk
  rw [hX]
  obtain ⟨⟨n, l2, b2⟩, hY⟩ : ∃ y, y = pSym l1 b1 := ⟨_, rfl⟩
  rw [← hY]
  have HY := Lib.hid hY
  clear hY
  have kk := (Below.refl w.heap.size w).alloc (Nat.le_refl _) (.cells #[.int .i64 0, .int .i64 0, .string ⟨#[]⟩, .slice none 0 0] 25)
  have hR0 := h.below kk
  have hz0 : BV (w.alloc (.cells #[.int .i64 0, .int .i64 0, .string ⟨#[]⟩, .slice none 0 0] 25)) w.heap.size (.int .i64 0) (.int .i64 0) (.string ⟨#[]⟩) (.slice none 0 0) := heap_alloc_new w _
  have HFZ := Lib.hid (h.off_new (.cells #[.int .i64 0, .int .i64 0, .string ⟨#[]⟩, .slice none 0 0] 25))
  have c0 := hR0.c0
  have HC := Lib.hid (rByte_k R l hl bad _ hR0.2.2.2.2)
  have hsh : (pByte l bad).2.1.length ≤ 2000000 := Nat.le_trans (rdG_short _ _ _ _) hl
  unfold pByte at hy hsh
  rw [hy] at HC hsh
  simp only at HC hsh
  have HT0 := Lib.hid (RdTo.of_below h kk)
  have HR0 := Lib.hid hR0
  have HZ0 := Lib.hid hz0
  have HH := Lib.hid h.size
  have HSH := Lib.hid hsh
  clear h kk hR0 hz0 hX hsh hy
  go_enter Try.func33, Try.ntmps33
  go_wp2_with fail
  refine HC.out.mono ?_
  rintro e w1 ⟨rfl, r1, o1⟩
  obtain ⟨hR1, t1⟩ := HR0.out.step r1 o1
  have ka := (Below.refl w1.heap.size w1).alloc (Nat.le_refl _) (.cells #[.int .i64 4, .int .i64 0, .string ⟨#[]⟩, .slice none 0 0] 25)
  have hR2 := hR1.below ka
  have c0 := hR2.c0
  obtain ⟨hz1, fz1⟩ := t1.bv HZ0.out HFZ.out
  have hz2 : BV (w1.alloc (.cells #[.int .i64 4, .int .i64 0, .string ⟨#[]⟩, .slice none 0 0] 25)) w.heap.size (.int .i64 0) (.int .i64 0) (.string ⟨#[]⟩) (.slice none 0 0) := (ka.block _ hz1.lt).trans hz1
  have HFZ2 := Lib.hid (fz1.below ka)
  have HFV2 := Lib.hid (hR1.off_new (.cells #[.int .i64 4, .int .i64 0, .string ⟨#[]⟩, .slice none 0 0] 25))
  have hv2 : BV (w1.alloc (.cells #[.int .i64 4, .int .i64 0, .string ⟨#[]⟩, .slice none 0 0] 25)) w1.heap.size (.int .i64 4) (.int .i64 0) (.string ⟨#[]⟩) (.slice none 0 0) := heap_alloc_new w1 _
  have HZV := Lib.hid (show w.heap.size < w1.heap.size from hz1.lt)
  have HT2 := Lib.hid ((HT0.out.trans t1).trans (RdTo.of_below hR1 ka))
  have HR2 := Lib.hid hR2
  have HZ2 := Lib.hid hz2
  have HV2 := Lib.hid hv2
  clear r1 o1 hR1 t1 ka hR2 hz1 fz1 hz2 hv2
  have HC2 := Lib.hid (sym_r H r R l1 HSH.out b1 _ HR2.out)
  rw [show pSym l1 b1 = (n, l2, b2) from HY.out.symm] at HC2
  go_wp2_with fail
  refine HC2.out.mono ?_
  rintro e w3 ⟨rfl, t3⟩
  obtain ⟨hz3, fz3⟩ := t3.bv HZ2.out HFZ2.out
  obtain ⟨hv3, fv3⟩ := t3.bv HV2.out HFV2.out
  have g1 := hv3.fz
  have g2 := hv3.c2
  have HT4 := Lib.hid ((HT2.out.trans t3).set HH.out (Nat.le_of_lt HZV.out) fv3 2 (.string (S n)))
  have hzE := hz3.other w1.heap.size 2 (by have := HZV.out; omega) (.string (S n))
  have hvE := hv3.set2 (.string (S n))
  have HTE := Lib.hid (HT4.out.bput HH.out (Nat.le_refl _) (fz3.set (j := 2) fv3.1 (.string (S n))) (.int .i64 4) (.int .i64 0) (.string (S n)) (.slice none 0 0))
  clear t3 hz3 fz3 hv3 fv3
  have z0 := hzE.c0
  have z1 := hzE.c1
  have z2 := hzE.c2
  have z3 := hzE.c3
  have fz := hzE.fz
  have v0 := hvE.c0
  have v1 := hvE.c1
  have v2 := hvE.c2
  have v3 := hvE.c3
  have HP := Lib.hid (hzE.put (.int .i64 4) (.int .i64 0) (.string (S n)) (.slice none 0 0))
  clear hzE hvE
  go_wp2_with fail
  exact bodyPost_ret (res_bv rfl _ _ w.heap.size _ _ _ _ rfl HP.out) rfl ⟨none, 0, rfl, HTE.out, fun i hi => absurd hi (by simp), fun _ _ _ h => absurd rfl h⟩

set_option maxRecDepth 100000 in
set_option maxHeartbeats 4000000 in
theorem value_r5 (H r R : Nat) (l : List UInt8) (hl : l.length ≤ 2000000) (bad : Nat) (w : World) (h : RdrR H r R l bad w) (k : Nat) (l1 : List UInt8) (b1 : Nat) (hy : pByte l bad = (k, l1, b1)) (hk : k = 5) :
    Calls Try.prog 33 #[.pointer (some ⟨r, 0, none⟩)] w fun e w' => ValR H r (pVal l bad) w e w' := by
  have hX : pVal l bad = (⟨5, 0, [], (pAll pNum 16 l1 b1).1⟩, (pAll pNum 16 l1 b1).2) := by
    unfold pVal
    simp only [hy]
    rw [if_neg (by omega), if_neg (by omega), if_neg (by omega), if_neg (by omega), if_neg (by omega), if_pos hk]
  subst hk
  rw [hX]
  obtain ⟨⟨n, l2, b2⟩, hY⟩ : ∃ y, y = pAll pNum 16 l1 b1 := ⟨_, rfl⟩
  rw [← hY]
  have HY := Lib.hid hY
  clear hY
  have kk := (Below.refl w.heap.size w).alloc (Nat.le_refl _) (.cells #[.int .i64 0, .int .i64 0, .string ⟨#[]⟩, .slice none 0 0] 25)
  have hR0 := h.below kk
  have hz0 : BV (w.alloc (.cells #[.int .i64 0, .int .i64 0, .string ⟨#[]⟩, .slice none 0 0] 25)) w.heap.size (.int .i64 0) (.int .i64 0) (.string ⟨#[]⟩) (.slice none 0 0) := heap_alloc_new w _
  have HFZ := Lib.hid (h.off_new (.cells #[.int .i64 0, .int .i64 0, .string ⟨#[]⟩, .slice none 0 0] 25))
  have c0 := hR0.c0
  have HC := Lib.hid (rByte_k R l hl bad _ hR0.2.2.2.2)
  have hsh : (pByte l bad).2.1.length ≤ 2000000 := Nat.le_trans (rdG_short _ _ _ _) hl
  unfold pByte at hy hsh
  rw [hy] at HC hsh
  simp only at HC hsh
  have HT0 := Lib.hid (RdTo.of_below h kk)
  have HR0 := Lib.hid hR0
  have HZ0 := Lib.hid hz0
  have HH := Lib.hid h.size
  have HSH := Lib.hid hsh
  clear h kk hR0 hz0 hX hsh hy
  go_enter Try.func33, Try.ntmps33
  go_wp2_with fail
  refine HC.out.mono ?_
  rintro e w1 ⟨rfl, r1, o1⟩
  obtain ⟨hR1, t1⟩ := HR0.out.step r1 o1
  have ka := (Below.refl w1.heap.size w1).alloc (Nat.le_refl _) (.cells #[.int .i64 5, .int .i64 0, .string ⟨#[]⟩, .slice none 0 0] 25)
  have hR2 := hR1.below ka
  have c0 := hR2.c0
  obtain ⟨hz1, fz1⟩ := t1.bv HZ0.out HFZ.out
  have hz2 : BV (w1.alloc (.cells #[.int .i64 5, .int .i64 0, .string ⟨#[]⟩, .slice none 0 0] 25)) w.heap.size (.int .i64 0) (.int .i64 0) (.string ⟨#[]⟩) (.slice none 0 0) := (ka.block _ hz1.lt).trans hz1
  have HFZ2 := Lib.hid (fz1.below ka)
  have HFV2 := Lib.hid (hR1.off_new (.cells #[.int .i64 5, .int .i64 0, .string ⟨#[]⟩, .slice none 0 0] 25))
  have hv2 : BV (w1.alloc (.cells #[.int .i64 5, .int .i64 0, .string ⟨#[]⟩, .slice none 0 0] 25)) w1.heap.size (.int .i64 5) (.int .i64 0) (.string ⟨#[]⟩) (.slice none 0 0) := heap_alloc_new w1 _
  have HZV := Lib.hid (show w.heap.size < w1.heap.size from hz1.lt)
  have HT2 := Lib.hid ((HT0.out.trans t1).trans (RdTo.of_below hR1 ka))
  have HR2 := Lib.hid hR2
  have HZ2 := Lib.hid hz2
  have HV2 := Lib.hid hv2
  clear r1 o1 hR1 t1 ka hR2 hz1 fz1 hz2 hv2
  have HC2 := Lib.hid (allN_r H r R l1 HSH.out b1 _ HR2.out)
  rw [show pAll pNum 16 l1 b1 = (n, l2, b2) from HY.out.symm] at HC2
  go_wp2_with fail
  refine HC2.out.mono ?_
  rintro e w3 ⟨q, cap, rfl, t3, hn3, hf3⟩
  obtain ⟨hz3, fz3⟩ := t3.bv HZ2.out HFZ2.out
  obtain ⟨hv3, fv3⟩ := t3.bv HV2.out HFV2.out
  have g1 := hv3.fz
  have g2 := hv3.c3
  have hne1 : ∀ b off, q = some ⟨b, off, none⟩ → n ≠ [] → b ≠ w1.heap.size := fun b off e hn => by have := (hf3 b off e hn).1; simp at this; omega
  have hne2 : ∀ b off, q = some ⟨b, off, none⟩ → n ≠ [] → b ≠ w.heap.size := fun b off e hn => by have := (hf3 b off e hn).1; have := HZV.out; simp at *; omega
  have HT4 := Lib.hid ((HT2.out.trans t3).set HH.out (Nat.le_of_lt HZV.out) fv3 3 (.slice q n.length cap))
  have hzE := hz3.other w1.heap.size 3 (by have := HZV.out; omega) (.slice q n.length cap)
  have hvE := hv3.set3 (.slice q n.length cap)
  have hfz4 := fz3.set (j := 3) fv3.1 (.slice q n.length cap)
  have HTE := Lib.hid (HT4.out.bput HH.out (Nat.le_refl _) hfz4 (.int .i64 5) (.int .i64 0) (.string ⟨#[]⟩) (.slice q n.length cap))
  have HNE := Lib.hid (NumsAt.bput (NumsAt.set hn3 w1.heap.size hne1 3 (.slice q n.length cap)) w.heap.size hne2 (.int .i64 5) (.int .i64 0) (.string ⟨#[]⟩) (.slice q n.length cap))
  have HFE := Lib.hid (fun g off (e : q = some ⟨g, off, none⟩) (hn : n ≠ []) => show w.heap.size ≤ g ∧ OffR r g (bput (w3.setCell ⟨w1.heap.size, 3, none⟩ (.slice q n.length cap)) w.heap.size (.int .i64 5) (.int .i64 0) (.string ⟨#[]⟩) (.slice q n.length cap)) from
    ⟨by have := (hf3 g off e hn).1; have := HZV.out; simp at *; omega, (((hf3 g off e hn).2.set (j := 3) fv3.1 (.slice q n.length cap)).bput hfz4.1 (.int .i64 5) (.int .i64 0) (.string ⟨#[]⟩) (.slice q n.length cap))⟩)
  clear t3 hz3 fz3 hv3 fv3 hn3 hf3 hne1 hne2 hfz4
  have z0 := hzE.c0
  have z1 := hzE.c1
  have z2 := hzE.c2
  have z3 := hzE.c3
  have fz := hzE.fz
  have v0 := hvE.c0
  have v1 := hvE.c1
  have v2 := hvE.c2
  have v3 := hvE.c3
  have HP := Lib.hid (hzE.put (.int .i64 5) (.int .i64 0) (.string ⟨#[]⟩) (.slice q n.length cap))
  clear hzE hvE
  go_wp2_with fail
  exact bodyPost_ret (res_bv rfl _ _ w.heap.size _ _ _ _ rfl HP.out) rfl ⟨q, cap, rfl, HTE.out, HNE.out, HFE.out⟩

set_option maxRecDepth 100000 in
set_option maxHeartbeats 4000000 in
theorem value_rx (H r R : Nat) (l : List UInt8) (hl : l.length ≤ 2000000) (bad : Nat) (w : World) (h : RdrR H r R l bad w) (k : Nat) (l1 : List UInt8) (b1 : Nat) (hy : pByte l bad = (k, l1, b1)) (hk : 5 < k) :
    Calls Try.prog 33 #[.pointer (some ⟨r, 0, none⟩)] w fun e w' => ValR H r (pVal l bad) w e w' := by
  have hX : pVal l bad = (⟨(k : Int), 0, [], []⟩, pRej l1 b1) := by
    unfold pVal
    simp only [hy]
    rw [if_neg (by omega), if_neg (by omega), if_neg (by omega), if_neg (by omega), if_neg (by omega), if_neg (by omega)]
  rw [hX]
  have e0 : ((k : Int) == 0) = false := by rw [beq_eq_false_iff_ne]; omega
  have e1 : ((k : Int) == 1) = false := by rw [beq_eq_false_iff_ne]; omega
  have e2 : ((k : Int) == 2) = false := by rw [beq_eq_false_iff_ne]; omega
  have e3 : ((k : Int) == 3) = false := by rw [beq_eq_false_iff_ne]; omega
  have e4 : ((k : Int) == 4) = false := by rw [beq_eq_false_iff_ne]; omega
  have e5 : ((k : Int) == 5) = false := by rw [beq_eq_false_iff_ne]; omega
  clear hk
  obtain ⟨⟨l2, b2⟩, hY⟩ : ∃ y, y = pRej l1 b1 := ⟨_, rfl⟩
  rw [← hY]
  have HY := Lib.hid hY
  clear hY
  have kk := (Below.refl w.heap.size w).alloc (Nat.le_refl _) (.cells #[.int .i64 0, .int .i64 0, .string ⟨#[]⟩, .slice none 0 0] 25)
  have hR0 := h.below kk
  have hz0 : BV (w.alloc (.cells #[.int .i64 0, .int .i64 0, .string ⟨#[]⟩, .slice none 0 0] 25)) w.heap.size (.int .i64 0) (.int .i64 0) (.string ⟨#[]⟩) (.slice none 0 0) := heap_alloc_new w _
  have HFZ := Lib.hid (h.off_new (.cells #[.int .i64 0, .int .i64 0, .string ⟨#[]⟩, .slice none 0 0] 25))
  have c0 := hR0.c0
  have HC := Lib.hid (rByte_k R l hl bad _ hR0.2.2.2.2)
  have hsh : (pByte l bad).2.1.length ≤ 2000000 := Nat.le_trans (rdG_short _ _ _ _) hl
  unfold pByte at hy hsh
  rw [hy] at HC hsh
  simp only at HC hsh
  have HT0 := Lib.hid (RdTo.of_below h kk)
  have HR0 := Lib.hid hR0
  have HZ0 := Lib.hid hz0
  have HH := Lib.hid h.size
  have HSH := Lib.hid hsh
  clear h kk hR0 hz0 hX hsh hy
  go_enter Try.func33, Try.ntmps33
  go_wp2_with fail
  refine HC.out.mono ?_
  rintro e w1 ⟨rfl, r1, o1⟩
  obtain ⟨hR1, t1⟩ := HR0.out.step r1 o1
  have ka := (Below.refl w1.heap.size w1).alloc (Nat.le_refl _) (.cells #[.int .i64 (k : Int), .int .i64 0, .string ⟨#[]⟩, .slice none 0 0] 25)
  have hR2 := hR1.below ka
  have c0 := hR2.c0
  obtain ⟨hz1, fz1⟩ := t1.bv HZ0.out HFZ.out
  have hz2 : BV (w1.alloc (.cells #[.int .i64 (k : Int), .int .i64 0, .string ⟨#[]⟩, .slice none 0 0] 25)) w.heap.size (.int .i64 0) (.int .i64 0) (.string ⟨#[]⟩) (.slice none 0 0) := (ka.block _ hz1.lt).trans hz1
  have HFZ2 := Lib.hid (fz1.below ka)
  have HFV2 := Lib.hid (hR1.off_new (.cells #[.int .i64 (k : Int), .int .i64 0, .string ⟨#[]⟩, .slice none 0 0] 25))
  have hv2 : BV (w1.alloc (.cells #[.int .i64 (k : Int), .int .i64 0, .string ⟨#[]⟩, .slice none 0 0] 25)) w1.heap.size (.int .i64 (k : Int)) (.int .i64 0) (.string ⟨#[]⟩) (.slice none 0 0) := heap_alloc_new w1 _
  have HZV := Lib.hid (show w.heap.size < w1.heap.size from hz1.lt)
  have HT2 := Lib.hid ((HT0.out.trans t1).trans (RdTo.of_below hR1 ka))
  have HR2 := Lib.hid hR2
  have HZ2 := Lib.hid hz2
  have HV2 := Lib.hid hv2
  clear r1 o1 hR1 t1 ka hR2 hz1 fz1 hz2 hv2
  have HC2 := Lib.hid (reject_r H r R l1 b1 _ HR2.out)
  rw [show pRej l1 b1 = (l2, b2) from HY.out.symm] at HC2
  go_wp2_with fail
  refine HC2.out.mono ?_
  rintro e w3 ⟨rfl, t3⟩
  obtain ⟨hz3, fz3⟩ := t3.bv HZ2.out HFZ2.out
  obtain ⟨hv3, fv3⟩ := t3.bv HV2.out HFV2.out
  have hzE := hz3
  have hvE := hv3
  have HTE := Lib.hid ((HT2.out.trans t3).bput HH.out (Nat.le_refl _) fz3 (.int .i64 (k : Int)) (.int .i64 0) (.string ⟨#[]⟩) (.slice none 0 0))
  clear t3 hz3 fz3 hv3 fv3
  have z0 := hzE.c0
  have z1 := hzE.c1
  have z2 := hzE.c2
  have z3 := hzE.c3
  have fz := hzE.fz
  have v0 := hvE.c0
  have v1 := hvE.c1
  have v2 := hvE.c2
  have v3 := hvE.c3
  have HP := Lib.hid (hzE.put (.int .i64 (k : Int)) (.int .i64 0) (.string ⟨#[]⟩) (.slice none 0 0))
  clear hzE hvE
  go_wp2_with fail
  exact bodyPost_ret (res_bv rfl _ _ w.heap.size _ _ _ _ rfl HP.out) rfl ⟨none, 0, rfl, HTE.out, fun i hi => absurd hi (by simp), fun _ _ _ h => absurd rfl h⟩

theorem value_r (H r R : Nat) (l : List UInt8) (hl : l.length ≤ 2000000) (bad : Nat) (w : World) (h : RdrR H r R l bad w) :
    Calls Try.prog 33 #[.pointer (some ⟨r, 0, none⟩)] w fun e w' => ValR H r (pVal l bad) w e w' := by
  obtain ⟨⟨k, l1, b1⟩, hy⟩ : ∃ y, pByte l bad = y := ⟨_, rfl⟩
  by_cases h0 : k = 0
  · exact value_r0 H r R l hl bad w h k l1 b1 hy h0
  by_cases h1 : k = 1
  · exact value_r1 H r R l hl bad w h k l1 b1 hy h1
  by_cases h2 : k = 2
  · exact value_r2 H r R l hl bad w h k l1 b1 hy h2
  by_cases h3 : k = 3
  · exact value_r3 H r R l hl bad w h k l1 b1 hy h3
  by_cases h4 : k = 4
  · exact value_r4 H r R l hl bad w h k l1 b1 hy h4
  by_cases h5 : k = 5
  · exact value_r5 H r R l hl bad w h k l1 b1 hy h5
  exact value_rx H r R l hl bad w h k l1 b1 hy (by omega)

end Go.Proofs.Ytkdhchdhgmaolaa.Cd
