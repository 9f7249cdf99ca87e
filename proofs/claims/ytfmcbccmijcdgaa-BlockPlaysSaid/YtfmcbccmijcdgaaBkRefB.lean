/-
  The document's own device: stores into it.
-/
import Derived.Test.YtfmcbccmijcdgaaBkRefL
import Derived.Deep.AppendLies
import Derived.Deep.RegionHeld3
import Derived.OneCell
namespace Go.Proofs.Ytfmcbccmijcdgaa.Bk
open Go.RowKit

theorem strC_set (s : List (List UInt8)) (i : Nat) (l : List UInt8) : strC (s.set i l) = (strC s).set i (.string (S l)) := by simp [strC, List.map_set]
theorem strC_snoc (s : List (List UInt8)) (l : List UInt8) : strC (s ++ [l]) = strC s ++ [.string (S l)] := by simp [strC]
theorem waitC_snoc (p : List (Nat × List UInt8)) (i : Nat) (l : List UInt8) : waitC (p ++ [(i, l)]) = waitC p ++ [.int .i64 (i : Int), .string (S l)] := by simp [waitC]

/-- A row's block holds its own type: no block of another type is it. -/
theorem own_ne {w : World} {base e size n : Nat} {v : Value} {xs : List Value} (h : w.ownsRow base e size v n xs) {B : Nat} {cs : Array Value} {t : TypeId} (hB : w.heap[B]? = some (.cells cs t (0, 0))) (ne : t ≠ e) : v.ownBlock ≠ some B := by
  rcases h.2 with ⟨h1, _⟩ | ⟨g, cap, cur, h1, h2, h3, h4⟩
  · rw [h1]; simp [Value.ownBlock]
  · intro e1
    rw [h1] at e1
    simp only [Value.ownBlock, Option.some.injEq] at e1
    subst e1
    rw [hB] at h3
    simp only [Option.some.injEq, Obj.cells.injEq] at h3
    exact ne h3.2.1

/-- A store into the device's own cells, where its rows may be others. -/
theorem RefAt.store {w w1 : World} {B : Nat} {lv wv tv lv' wv' tv' : Value} {d d' : Dev} (h : RefAt w B lv wv tv d) (hB : w1.heap[B]? = w.heap[B]?) (j : Nat) (u : Value)
    (hc : (refC lv wv tv d).setIfInBounds j u = refC lv' wv' tv' d')
    (L : w1.ownsRow 0 9 1 lv' d'.dur.length (strC d'.dur)) (W : w1.ownsRow 0 71 2 wv' d'.pend.length (waitC d'.pend)) (T : ∃ n xs, w1.ownsRow 0 75 4 tv' n xs)
    (h3 : d'.calls ≤ 9223372036854775807) (h4 : d'.keep < 18446744073709551616) : RefAt (w1.setCell ⟨B, j, none⟩ u) B lv' wv' tv' d' := by
  have hd := hB.trans h.dev
  obtain ⟨n, xs, ht⟩ := T
  have nl := own_ne L hd (by decide)
  have nw := own_ne W hd (by decide)
  have nt := own_ne ht hd (by decide)
  exact ⟨(heap_setCell_same w1 B j _ _ u hd).trans (by rw [hc]), ownsRow_setCell_other L nl u, ownsRow_setCell_other W nw u, ⟨n, xs, ownsRow_setCell_other ht nt u⟩, nl, nw, nt, h3, h4⟩

/-- A sector is written. -/
theorem RefAt.setLast {w : World} {B g n c : Nat} {wv tv : Value} {d : Dev} (h : RefAt w B (.slice (some ⟨g, 0, none⟩) n c) wv tv d) (hn : n = d.dur.length) (i : Nat) (l : List UInt8) :
    RefAt (w.setCell ⟨g, i, none⟩ (.string (S l))) B (.slice (some ⟨g, 0, none⟩) n c) wv tv { d with dur := d.dur.set i l } := by
  subst hn
  have hs := (h.lasts.stored i (.string (S l))).1
  have hgB : B ≠ g := fun e => h.nl (by rw [e]; rfl)
  obtain ⟨n, xs, ht⟩ := h.tears
  have hg : ∃ cur, w.heap[g]? = some (.cells cur 9 (0, 0)) := by
    rcases h.lasts.2 with ⟨h1, _⟩ | ⟨g', cap, cur, h1, h2, h3, h4⟩
    · cases h1
    · simp only [Value.slice.injEq, Option.some.injEq, Addr.mk.injEq, and_true, true_and] at h1
      obtain ⟨rfl, rfl⟩ := h1
      exact ⟨cur, h3⟩
  obtain ⟨cur, hg⟩ := hg
  have nw := own_ne h.waits hg (by decide)
  have nt := own_ne ht hg (by decide)
  refine ⟨?_, ?_, ownsRow_setCell_other h.waits nw _, ⟨n, xs, ownsRow_setCell_other ht nt _⟩, h.nl, h.nw, h.nt, h.calls, h.keep⟩
  · rw [heap_setCell_other w ⟨g, i, none⟩ B _ (by simpa using hgB)]; exact h.dev
  · rw [strC_set, List.length_set]; exact hs
/-- A sector's cell. -/
theorem RefAt.last {w : World} {B g n c : Nat} {wv tv : Value} {d : Dev} (h : RefAt w B (.slice (some ⟨g, 0, none⟩) n c) wv tv d) (hn : n = d.dur.length) (i : Nat) (hi : i < d.dur.length) :
    w.cell? ⟨g, i, none⟩ = some (.string (S (d.dur.getD i []))) ∧ w.frozen? ⟨g, i, none⟩ = false ∧ g < w.heap.size ∧ g ≠ B := by
  subst hn
  refine ⟨?_, h.lasts.frozenAt i, (h.lasts.lt g rfl).2, fun e => h.nl (by rw [e]; rfl)⟩
  rw [h.lasts.cellAt i (by omega)]; simp [strC, List.getD, hi]
/-- A write's cells. -/
theorem RefAt.wait {w : World} {B g n c : Nat} {lv tv : Value} {d : Dev} (h : RefAt w B lv (.slice (some ⟨g, 0, none⟩) n c) tv d) (hn : n = d.pend.length) (k : Nat) (hk : k < d.pend.length) :
    w.cell? ⟨g, k * 2, none⟩ = some (.int .i64 ((d.pend.getD k (0, [])).1 : Int)) ∧ w.cell? ⟨g, k * 2 + 1, none⟩ = some (.string (S (d.pend.getD k (0, [])).2)) := by
  subst hn
  have := waitC_at d.pend k hk
  exact ⟨(h.waits.cellAt (k * 2) (by omega)).trans this.1, (h.waits.cellAt (k * 2 + 1) (by omega)).trans this.2⟩

theorem Onl.grown2 {B : List Nat} {a w w' : World} {row : Option Nat} (h : Onl B a w) (hg : w.grownBy w' row) (hr : ∀ k, row = some k → k ∈ B ∨ a.heap.size ≤ k) : Onl B a w' :=
  ⟨hg.os.trans h.os, hg.tape.trans h.tape, hg.output.trans h.output, Nat.le_trans h.size hg.size, fun k hk hn =>
    (hg.block k (Nat.lt_of_lt_of_le hk h.size) (fun e => by rcases hr k e.symm with h1 | h1; exact hn h1; omega)).trans (h.block k hk hn)⟩
theorem Onl.setCell2 {B : List Nat} {a w : World} (h : Onl B a w) {p : Addr} (hp : p.block ∈ B ∨ a.heap.size ≤ p.block) (u : Value) : Onl B a (w.setCell p u) :=
  ⟨h.os, h.tape, h.output, by simpa [World.setCell] using h.size, fun k hk hn => by
    rw [Below.heap_setCell _ _ _ _ (fun e => by rcases hp with h1 | h1; exact hn (by rw [e]; exact h1); omega)]; exact h.block k hk hn⟩

/-- The blocks of one list are those of another, or new. -/
def FreshL (w : World) (L L' : List Nat) : Prop := ∀ k, k ∈ L' → k ∈ L ∨ w.heap.size ≤ k
theorem FreshL.refl (w : World) (L : List Nat) : FreshL w L L := fun _ h => .inl h
theorem FreshL.trans {a b : World} {p q r : List Nat} (h : FreshL a p q) (k : FreshL b q r) (hs : a.heap.size ≤ b.heap.size) : FreshL a p r := fun x hx => by
  rcases k x hx with h1 | h1
  · exact h x h1
  · exact .inr (by omega)
theorem Onl.step {a b c : World} {L L' : List Nat} (h : Onl L a b) (f : FreshL a L L') (k : Onl L' b c) : Onl L a c :=
  ⟨k.os.trans h.os, k.tape.trans h.tape, k.output.trans h.output, Nat.le_trans h.size k.size, fun x hx hn => by
    refine (k.block x (Nat.lt_of_lt_of_le hx h.size) (fun e => ?_)).trans (h.block x hx hn)
    rcases f x e with e | e
    · exact hn e
    · omega⟩
theorem mem_rblocks {B : Nat} {lv wv tv : Value} {k : Nat} : k ∈ rblocks B lv wv tv ↔ k = B ∨ lv.ownBlock = some k ∨ wv.ownBlock = some k ∨ tv.ownBlock = some k := by
  simp [rblocks]
/-- How long a slice is. -/
def lenV : Value → Nat
  | .slice _ n _ => n
  | _ => 0
/-- What a call of the device leaves: it lies there still, in its own blocks and new ones; so many sectors have been torn at most. -/
def RefTo (m : Nat) (w : World) (B : Nat) (L : List Nat) (w' : World) (d : Dev) : Prop := ∃ lv wv tv, RefAt w' B lv wv tv d ∧ lenV tv ≤ m ∧ FreshL w L (rblocks B lv wv tv) ∧ Onl L w w'

end Go.Proofs.Ytfmcbccmijcdgaa.Bk
