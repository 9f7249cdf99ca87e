/-
  Code's reader in memory: reject, name, sym.
-/
import Derived.Test.YtkdhchdhgmaolaaZCdRdA
import Derived.Test.YtkdhchdhgmaolaaZTzC
import Derived.Test.YtkdhchdhgmaolaaZVlName
import Derived.Test.YtkdhchdhgmaolaaZVaOrder
import Derived.Lib.FrozenHead
namespace Go.Proofs.Ytkdhchdhgmaolaa.Cd
open Go.RowKit
open Pk Va
set_option linter.unusedVariables false
set_option linter.unusedSimpArgs false

/-- The reader in block r: what is left, and the error that is kept. -/
def RdrR (H r R : Nat) (l : List UInt8) (bad : Nat) (w : World) : Prop := H ≤ r ∧ H ≤ R ∧ R ≠ r ∧ w.heap[r]? = some (.cells #[.pointer (some ⟨R, 0, none⟩)] 133 (0, 0)) ∧ RdAt w R l bad
def Rdr (H r : Nat) (l : List UInt8) (bad : Nat) (w : World) : Prop := ∃ R, RdrR H r R l bad w
/-- Block g is neither of the reader's two. -/
def OffR (r g : Nat) (w : World) : Prop := g ≠ r ∧ g < w.heap.size ∧ ∃ R, w.heap[r]? = some (.cells #[.pointer (some ⟨R, 0, none⟩)] 133 (0, 0)) ∧ g ≠ R
def KeepR (r : Nat) (w w' : World) : Prop := ∀ g, OffR r g w → w'.heap[g]? = w.heap[g]? ∧ OffR r g w'
structure RdTo0 (H r : Nat) (l : List UInt8) (bad : Nat) (w w' : World) : Prop where
  rdr : Rdr H r l bad w'
  below : Below H w w'
  size : w.heap.size ≤ w'.heap.size
  keeps : KeepR r w w'
/-- A reader that was code's: it is still, or there is an error. -/
def OldTo (r R bad : Nat) (w' : World) : Prop := ∃ l2 b2, RdAt w' R l2 b2 ∧ l2.length ≤ 2000000 ∧ (w'.heap[r]? = some (.cells #[.pointer (some ⟨R, 0, none⟩)] 133 (0, 0)) ∨ bad ≠ 0 ∧ OffR r R w')
structure RdTo (H r : Nat) (l : List UInt8) (bad : Nat) (w w' : World) : Prop extends RdTo0 H r l bad w w' where
  errs : ∀ R l0 b0, RdrR H r R l0 b0 w → b0 ≠ 0 → bad ≠ 0
  old : ∀ R l0 b0, RdrR H r R l0 b0 w → l0.length ≤ 2000000 → OldTo r R bad w'
theorem rdat_inj {w : World} {R : Nat} {l l2 : List UInt8} {b b2 : Nat} (h : RdAt w R l b) (k : RdAt w R l2 b2) : l = l2 ∧ b = b2 := by
  have h1 := h.c0
  have h2 := h.c1
  rw [k.c0] at h1
  rw [k.c1] at h2
  injection h1 with h1
  injection h1 with h1
  injection h2 with h2
  injection h2 with _ h2
  exact ⟨S_inj h1.symm, by omega⟩
theorem RdrR.inj {H r R R2 : Nat} {l l2 : List UInt8} {b b2 : Nat} {w : World} (h : RdrR H r R l b w) (k : RdrR H r R2 l2 b2 w) : R2 = R ∧ l2 = l ∧ b2 = b := by
  have e := h.2.2.2.1
  rw [k.2.2.2.1] at e
  obtain rfl : R2 = R := by simpa using e
  obtain ⟨rfl, rfl⟩ := rdat_inj h.2.2.2.2 k.2.2.2.2
  exact ⟨rfl, rfl, rfl⟩
/-- What one of pack's calls leaves of its reader. -/
structure Kept (R : Nat) (w w' : World) : Prop where
  only : Only R w w'
  errs : ∀ l b l' b', RdAt w R l b → RdAt w' R l' b' → b ≠ 0 → b' ≠ 0
  short : ∀ l b l' b', RdAt w R l b → RdAt w' R l' b' → l.length ≤ 2000000 → l'.length ≤ 2000000
theorem Kept.of {α : Type} {z : α} {d : α × Nat × Nat} {R : Nat} {l : List UInt8} {b : Nat} {w w' : World} (h : RdAt w R l b) (h1 : RdAt w' R (rdG z d l b).2.1 (rdG z d l b).2.2) (o : Only R w w') : Kept R w w' := by
  refine ⟨o, fun l0 b0 l' b' k0 k1 hb => ?_, fun l0 b0 l' b' k0 k1 hl => ?_⟩
  · obtain ⟨rfl, rfl⟩ := rdat_inj h k0
    obtain ⟨_, rfl⟩ := rdat_inj h1 k1
    unfold rdG
    rw [if_pos hb]
    exact hb
  · obtain ⟨rfl, rfl⟩ := rdat_inj h k0
    obtain ⟨rfl, _⟩ := rdat_inj h1 k1
    exact Nat.le_trans (rdG_short _ _ _ _) hl
section
variable (b : Nat) (l : List UInt8) (hl : l.length ≤ 2000000) (bad : Nat)
include hl
theorem rNumber_k (w : World) (h : RdAt w b l bad) : Calls Try.prog 70 #[.pointer (some ⟨b, 0, none⟩)] w fun e w' =>
      e = .returned (.int .i64 (rdG 0 (decN l) l bad).1) ∧ RdAt w' b (rdG 0 (decN l) l bad).2.1 (rdG 0 (decN l) l bad).2.2 ∧ Kept b w w' := (rNumber_any b l hl bad w h).mono fun _ _ g => ⟨g.1, g.2.1, Kept.of h g.2.1 g.2.2⟩
theorem rTruth_k (w : World) (h : RdAt w b l bad) : Calls Try.prog 71 #[.pointer (some ⟨b, 0, none⟩)] w fun e w' =>
      e = .returned (.bool (rdG false (decT l) l bad).1) ∧ RdAt w' b (rdG false (decT l) l bad).2.1 (rdG false (decT l) l bad).2.2 ∧ Kept b w w' := (rTruth_any b l hl bad w h).mono fun _ _ g => ⟨g.1, g.2.1, Kept.of h g.2.1 g.2.2⟩
theorem rText_k (most : Int) (hm0 : -9223372036854775808 ≤ most) (hm1 : most < 9223372036854775808) (w : World) (h : RdAt w b l bad) : Calls Try.prog 72 #[.pointer (some ⟨b, 0, none⟩), .int .i64 most] w fun e w' =>
      e = .returned (.string (S (rdG [] (decX l most) l bad).1)) ∧ RdAt w' b (rdG [] (decX l most) l bad).2.1 (rdG [] (decX l most) l bad).2.2 ∧ Kept b w w' := (rText_any b l hl bad most hm0 hm1 w h).mono fun _ _ g => ⟨g.1, g.2.1, Kept.of h g.2.1 g.2.2⟩
theorem rByte_k (w : World) (h : RdAt w b l bad) : Calls Try.prog 69 #[.pointer (some ⟨b, 0, none⟩)] w fun e w' =>
      e = .returned (.int .i64 ((rdG 0 (decB l) l bad).1 : Nat)) ∧ RdAt w' b (rdG 0 (decB l) l bad).2.1 (rdG 0 (decB l) l bad).2.2 ∧ Kept b w w' := (rByte_any b l hl bad w h).mono fun _ _ g => ⟨g.1, g.2.1, Kept.of h g.2.1 g.2.2⟩
theorem rSmall_k (most : Int) (hm0 : -9223372036854775808 ≤ most) (hm1 : most < 9223372036854775808) (w : World) (h : RdAt w b l bad) : Calls Try.prog 85 #[.pointer (some ⟨b, 0, none⟩), .int .i64 most] w fun e w' =>
      e = .returned (.int .i64 ((rdG 0 (decS l most) l bad).1 : Nat)) ∧ RdAt w' b (rdG 0 (decS l most) l bad).2.1 (rdG 0 (decS l most) l bad).2.2 ∧ Kept b w w' := (rSmall_any b l hl bad most hm0 hm1 w h).mono fun _ _ g => ⟨g.1, g.2.1, Kept.of h g.2.1 g.2.2⟩
end
theorem KeepR.refl (r : Nat) (w : World) : KeepR r w w := fun _ h => ⟨rfl, h⟩
theorem KeepR.trans {r : Nat} {x y z : World} (h : KeepR r x y) (k : KeepR r y z) : KeepR r x z := fun g hg => by
  obtain ⟨e1, h1⟩ := h g hg
  obtain ⟨e2, h2⟩ := k g h1
  exact ⟨e2.trans e1, h2⟩
theorem RdTo0.trans {H r : Nat} {l l2 : List UInt8} {x y : Nat} {w w1 w2 : World} (h : RdTo0 H r l x w w1) (k : RdTo0 H r l2 y w1 w2) : RdTo0 H r l2 y w w2 :=
  ⟨k.rdr, h.below.trans k.below, Nat.le_trans h.size k.size, h.keeps.trans k.keeps⟩
theorem RdTo.trans {H r : Nat} {l l2 : List UInt8} {x y : Nat} {w w1 w2 : World} (h : RdTo H r l x w w1) (k : RdTo H r l2 y w1 w2) : RdTo H r l2 y w w2 := by
  obtain ⟨R1, h1⟩ := h.rdr
  refine ⟨h.toRdTo0.trans k.toRdTo0, fun R l0 b0 hR hb => k.errs R1 _ _ h1 (h.errs R l0 b0 hR hb), fun R l0 b0 hR hl => ?_⟩
  obtain ⟨la, ba, hat, hla, hc⟩ := h.old R l0 b0 hR hl
  rcases hc with hc | ⟨hx, ho⟩
  · have e := h1.2.2.2.1
    rw [hc] at e
    obtain rfl : R = R1 := by simpa using e
    obtain ⟨rfl, rfl⟩ := rdat_inj h1.2.2.2.2 hat
    exact k.old R _ _ h1 hla
  · obtain ⟨e, f⟩ := k.keeps R ho
    exact ⟨la, ba, e.trans hat, hla, .inr ⟨k.errs R1 _ _ h1 hx, f⟩⟩
section
variable {H r R : Nat} {l : List UInt8} {bad : Nat} {w w' : World}
theorem RdrR.lt (h : RdrR H r R l bad w) : r < w.heap.size := lt_of_heapV h.2.2.2.1
theorem RdrR.c0 (h : RdrR H r R l bad w) : w.cell? ⟨r, 0, none⟩ = some (.pointer (some ⟨R, 0, none⟩)) := (cell_of_row w r 0 _ _ (0, 0) h.2.2.2.1).trans rfl
theorem RdrR.fz (h : RdrR H r R l bad w) : w.frozen? ⟨r, 0, none⟩ = false := frozen_of_row w r 0 _ _ h.2.2.2.1
theorem RdrR.size (h : RdrR H r R l bad w) : H ≤ w.heap.size := Nat.le_trans h.1 (Nat.le_of_lt h.lt)
theorem RdrR.below (h : RdrR H r R l bad w) (k : Below w.heap.size w w') : RdrR H r R l bad w' := ⟨h.1, h.2.1, h.2.2.1, (k.block r h.lt).trans h.2.2.2.1, h.2.2.2.2.below k⟩
theorem OffR.below {g : Nat} (h : OffR r g w) (k : Below w.heap.size w w') : OffR r g w' := by
  obtain ⟨h1, h2, R, h3, h4⟩ := h
  exact ⟨h1, Nat.lt_of_lt_of_le h2 k.size, R, (k.block r (lt_of_heapV h3)).trans h3, h4⟩
theorem RdTo.of_below (h : RdrR H r R l bad w) (k : Below w.heap.size w w') : RdTo H r l bad w w' :=
  ⟨⟨⟨R, h.below k⟩, k.mono h.size, k.size, fun g hg => ⟨k.block g hg.2.1, hg.below k⟩⟩, fun R2 l0 b0 h2 hb => by obtain ⟨rfl, rfl, rfl⟩ := h.inj h2; exact hb, fun R2 l0 b0 h2 hl => by obtain ⟨rfl, rfl, rfl⟩ := h.inj h2; exact ⟨_, _, (h.below k).2.2.2.2, hl, .inl (h.below k).2.2.2.1⟩⟩
/-- One of pack's calls at the reader's own. -/
theorem RdrR.step {l' : List UInt8} {bad' : Nat} (h : RdrR H r R l bad w) (h1 : RdAt w' R l' bad') (ko : Kept R w w') : RdrR H r R l' bad' w' ∧ RdTo H r l' bad' w w' := by
  have o := ko.only
  have hr : w'.heap[r]? = w.heap[r]? := o.block r h.lt (by intro e; injection e with e; exact h.2.2.1 e.symm)
  have hR : RdrR H r R l' bad' w' := ⟨h.1, h.2.1, h.2.2.1, hr.trans h.2.2.2.1, h1⟩
  refine ⟨hR, ⟨⟨R, hR⟩, Only.below (Below.refl H w) o h.size h.2.1, o.size, ?_⟩, fun R2 l0 b0 h2 hb => by obtain ⟨rfl, rfl, rfl⟩ := h.inj h2; exact ko.errs _ _ _ _ h.2.2.2.2 h1 hb, fun R2 l0 b0 h2 hl => by obtain ⟨rfl, rfl, rfl⟩ := h.inj h2; exact ⟨_, _, h1, ko.short _ _ _ _ h.2.2.2.2 h1 hl, .inl hR.2.2.2.1⟩⟩
  rintro g ⟨g1, g2, R2, g3, g4⟩
  have e := h.2.2.2.1
  rw [g3] at e
  obtain rfl : R2 = R := by simpa using e
  exact ⟨o.block g g2 (by intro e; injection e with e; exact g4 e), g1, Nat.lt_of_lt_of_le g2 o.size, R2, hr.trans g3, g4⟩
theorem RdrR.off (h : RdrR H r R l bad w) {g : Nat} (hg : g < H) : OffR r g w := ⟨by have := h.1; omega, by have := h.size; omega, R, h.2.2.2.1, by have := h.2.1; omega⟩
theorem RdrR.off_new (h : RdrR H r R l bad w) (o : Obj) : OffR r w.heap.size (w.alloc o) := by
  have h1 := h.lt
  have h2 := h.2.2.2.2.lt
  exact ⟨by omega, by simp, R, (Lib.alloc_old w o r h1).trans h.2.2.2.1, by omega⟩
theorem RdTo.box {g : Nat} {o : Obj} (t : RdTo H r l bad w w') (h : w.heap[g]? = some o) (f : OffR r g w) : w'.heap[g]? = some o ∧ OffR r g w' := by
  obtain ⟨e, f'⟩ := t.keeps g f
  exact ⟨e.trans h, f'⟩
end

set_option maxRecDepth 100000 in
set_option maxHeartbeats 1000000 in
theorem reject_r (H r R : Nat) (l : List UInt8) (bad : Nat) (w : World) (h : RdrR H r R l bad w) :
    Calls Try.prog 75 #[.pointer (some ⟨r, 0, none⟩)] w fun e w' => e = .returned (.tuple #[]) ∧ RdTo H r (pRej l bad).1 (pRej l bad).2 w w' := by
  have c0 := h.c0
  have HB := Lib.hid (bad_any R l bad w h.2.2.2.2)
  have HH := Lib.hid h
  by_cases hb : bad = 0
  · subst hb
    have hp : pRej l 0 = ([2], 4) := rfl
    rw [hp]
    have HN := Lib.hid (new_any ⟨#[2]⟩ w)
    clear h hp
    go_enter Try.func75, Try.ntmps75
    go_wp2_with fail
    refine HB.out.mono ?_
    rintro e w1 ⟨rfl, rfl⟩
    go_wp2_with fail
    refine HN.out.mono ?_
    rintro e w2 ⟨rfl, r2, b2, s2⟩
    have hh := HH.out
    have hh2 := hh.below b2
    have c02 := hh2.c0
    have fz2 := hh2.fz
    have hlt := hh.lt
    have hrd : RdAt (w2.setCell ⟨r, 0, none⟩ (.pointer (some ⟨w.heap.size, 0, none⟩))) w.heap.size [2] 0 := by
      unfold RdAt
      rw [heap_setCell_other w2 ⟨r, 0, none⟩ _ _ (by intro e; have : w.heap.size = r := e; omega)]
      exact r2
    have hblk : (w2.setCell ⟨r, 0, none⟩ (.pointer (some ⟨w.heap.size, 0, none⟩))).heap[r]? = some (.cells #[.pointer (some ⟨w.heap.size, 0, none⟩)] 133 (0, 0)) := heap_setCell_same w2 r 0 _ _ _ hh2.2.2.2.1
    have h3 : RdrR H r w.heap.size [2] 0 (w2.setCell ⟨r, 0, none⟩ (.pointer (some ⟨w.heap.size, 0, none⟩))) := ⟨hh.1, hh.size, by omega, hblk, hrd⟩
    have c03 := h3.c0
    have t3 : RdTo0 H r [2] 0 w (w2.setCell ⟨r, 0, none⟩ (.pointer (some ⟨w.heap.size, 0, none⟩))) := by
      refine ⟨⟨_, h3⟩, (b2.mono hh.size).setCell (p := ⟨r, 0, none⟩) hh.1 _, by simp [World.setCell]; omega, ?_⟩
      rintro g ⟨g1, g2, R2, g3, g4⟩
      refine ⟨?_, g1, by simp [World.setCell]; omega, _, hblk, by omega⟩
      rw [heap_setCell_other w2 ⟨r, 0, none⟩ _ _ g1]
      exact b2.block g g2
    have HT := Lib.hid (rTruth_k w.heap.size [2] (by simp) 0 _ h3.2.2.2.2)
    rw [show rdG false (decT [2]) [2] 0 = (false, [2], 4) by decide] at HT
    have H3 := Lib.hid h3
    have T3 := Lib.hid t3
    have hRr : R ≠ r := hh.2.2.1
    have hRl := hh.2.2.2.2.lt
    have ho3 : OffR r R (w2.setCell ⟨r, 0, none⟩ (.pointer (some ⟨w.heap.size, 0, none⟩))) := ⟨hRr, by have := b2.size; simp [World.setCell]; omega, _, hblk, by omega⟩
    have hat3 : RdAt (w2.setCell ⟨r, 0, none⟩ (.pointer (some ⟨w.heap.size, 0, none⟩))) R l 0 := (heap_setCell_other w2 ⟨r, 0, none⟩ R _ hRr).trans (hh.2.2.2.2.below b2)
    have HO3 := Lib.hid ho3
    have HA3 := Lib.hid hat3
    clear ho3 hat3 hRr hRl b2 r2 s2 hh hh2 hrd hblk h3 t3 c0 hlt
    go_wp2_with fail
    refine HT.out.mono ?_
    rintro e w4 ⟨rfl, r4, o4⟩
    have t5 := (H3.out.step r4 o4).2
    obtain ⟨e4, f4⟩ := t5.keeps R HO3.out
    have T4 := Lib.hid (show RdTo H r [2] 4 w w4 from ⟨T3.out.trans t5.toRdTo0, fun _ _ _ _ _ => by decide, fun R2 l0 b0 h2 hl0 => by
      obtain ⟨rfl, rfl, rfl⟩ := HH.out.inj h2
      exact ⟨_, _, e4.trans HA3.out, hl0, .inr ⟨by decide, f4⟩⟩⟩)
    clear t5 e4 f4
    clear r4 o4
    go_wp2_with fail
    go_end0
    exact ⟨rfl, T4.out⟩
  · have hp : pRej l bad = (l, bad) := by unfold pRej; rw [if_pos hb]
    rw [hp]
    have h3 := (err_ne bad hb).1
    clear h hb hp
    go_enter Try.func75, Try.ntmps75
    go_wp2_with fail
    refine HB.out.mono ?_
    rintro e w1 ⟨rfl, rfl⟩
    go_wp2_with fail
    (try simp only [Exit.inBlock, Exit.then])
    refine bodyPost_ret (results_none rfl _ _ _) rfl ?_
    exact ⟨rfl, RdTo.of_below HH.out (Below.refl _ _)⟩

set_option maxRecDepth 100000 in
theorem name_r (H r R : Nat) (l : List UInt8) (hl : l.length ≤ 2000000) (bad : Nat) (w : World) (h : RdrR H r R l bad w) :
    Calls Try.prog 80 #[.pointer (some ⟨r, 0, none⟩)] w fun e w' => e = .returned (.string (S (pText 24 l bad).1)) ∧ RdTo H r (pText 24 l bad).2.1 (pText 24 l bad).2.2 w w' := by
  have c0 := h.c0
  have HT := Lib.hid (rText_k R l hl bad 24 (by omega) (by omega) w h.2.2.2.2)
  have HH := Lib.hid h
  unfold pText
  generalize rdG [] (decX l 24) l bad = x at *
  clear h
  go_enter Try.func80, Try.ntmps80
  go_wp2_with fail
  refine HT.out.mono ?_
  rintro e w1 ⟨rfl, r1, o1⟩
  have T1 := Lib.hid (HH.out.step r1 o1).2
  clear r1 o1
  go_wp2_with fail
  go_ret
  exact ⟨rfl, T1.out⟩

set_option maxRecDepth 100000 in
theorem sym_r (H r R : Nat) (l : List UInt8) (hl : l.length ≤ 2000000) (bad : Nat) (w : World) (h : RdrR H r R l bad w) :
    Calls Try.prog 73 #[.pointer (some ⟨r, 0, none⟩)] w fun e w' => e = .returned (.string (S (pSym l bad).1)) ∧ RdTo H r (pSym l bad).2.1 (pSym l bad).2.2 w w' := by
  have HN := Lib.hid (name_r H r R l hl bad w h)
  have hxl : (pText 24 l bad).1.length ≤ 2000000 := by
    unfold pText rdG
    split
    · simp
    · split
      · simp
      · unfold decX
        split
        · simp
        · split
          · simp
          · simp; omega
  unfold pSym
  simp only
  generalize pText 24 l bad = x at *
  obtain ⟨xs, xl, xb⟩ := x
  simp only at HN hxl ⊢
  have HM := Lib.hid (fun w => Name_any (S xs) (by rw [S_size]; omega) w)
  rw [S_toList] at HM
  clear h hxl
  cases hn : nameB xs with
  | true =>
    rw [hn] at HM
    go_enter Try.func73, Try.ntmps73
    go_wp2_with fail
    refine HN.out.mono ?_
    rintro e w1 ⟨rfl, t1⟩
    have T1 := Lib.hid t1
    clear t1
    go_wp2_with fail
    refine (HM.out _).mono ?_
    rintro e w2 ⟨rfl, b2⟩
    obtain ⟨R1, hR1⟩ := T1.out.rdr
    have T2 := Lib.hid (T1.out.trans (RdTo.of_below hR1 b2))
    clear b2 hR1
    go_wp2_with fail
    go_ret
    exact ⟨rfl, T2.out⟩
  | false =>
    rw [hn] at HM
    go_enter Try.func73, Try.ntmps73
    go_wp2_with fail
    refine HN.out.mono ?_
    rintro e w1 ⟨rfl, t1⟩
    have T1 := Lib.hid t1
    clear t1
    go_wp2_with fail
    refine (HM.out _).mono ?_
    rintro e w2 ⟨rfl, b2⟩
    obtain ⟨R1, hR1⟩ := T1.out.rdr
    have T2 := Lib.hid (T1.out.trans (RdTo.of_below hR1 b2))
    have HR2 := Lib.hid (hR1.below b2)
    clear b2 hR1
    go_wp2_with fail
    refine (reject_r H r R1 xl xb _ HR2.out).mono ?_
    rintro e w3 ⟨rfl, t3⟩
    have T3 := Lib.hid (T2.out.trans t3)
    clear t3
    go_wp2_with fail
    go_ret
    exact ⟨rfl, T3.out⟩

end Go.Proofs.Ytkdhchdhgmaolaa.Cd
