/-
  The document's own device: where it lies.
-/
import Derived.Test.YtfmcbccmijcdgaaBkFill
namespace Go.Proofs.Ytfmcbccmijcdgaa.Bk
open Go.RowKit

def strC (s : List (List UInt8)) : List Value := s.map fun x => .string (S x)
def waitC (p : List (Nat × List UInt8)) : List Value := p.flatMap fun x => [.int .i64 (x.1 : Int), .string (S x.2)]
def refC (lv wv tv : Value) (d : Dev) : Array Value := #[lv, wv, .bool d.off, .int .i64 (d.calls : Int), .int .u64 (d.keep : Int), .int .i64 d.torn, .int .i64 d.at_, tv]
/-- The document's device in memory: d's plain data; what was torn so far is of no account. -/
structure RefAt (w : World) (B : Nat) (lv wv tv : Value) (d : Dev) : Prop where
  dev : w.heap[B]? = some (.cells (refC lv wv tv d) 50 (0, 0))
  lasts : w.ownsRow 0 9 1 lv d.dur.length (strC d.dur)
  waits : w.ownsRow 0 71 2 wv d.pend.length (waitC d.pend)
  tears : ∃ n xs, w.ownsRow 0 75 4 tv n xs
  nl : lv.ownBlock ≠ some B
  nw : wv.ownBlock ≠ some B
  nt : tv.ownBlock ≠ some B
  calls : d.calls ≤ 9223372036854775807
  keep : d.keep < 18446744073709551616
theorem RefAt.cells {w : World} {B : Nat} {lv wv tv : Value} {d : Dev} (h : RefAt w B lv wv tv d) :
    (w.cell? ⟨B, 0, none⟩ = some lv ∧ w.cell? ⟨B, 1, none⟩ = some wv ∧ w.cell? ⟨B, 2, none⟩ = some (.bool d.off) ∧ w.cell? ⟨B, 3, none⟩ = some (.int .i64 (d.calls : Int)) ∧
      w.cell? ⟨B, 4, none⟩ = some (.int .u64 (d.keep : Int)) ∧ w.cell? ⟨B, 5, none⟩ = some (.int .i64 d.torn) ∧ w.cell? ⟨B, 6, none⟩ = some (.int .i64 d.at_) ∧ w.cell? ⟨B, 7, none⟩ = some tv) ∧
    (∀ j, w.frozen? ⟨B, j, none⟩ = false) ∧ B < w.heap.size := by
  have hc : ∀ j, w.cell? ⟨B, j, none⟩ = (refC lv wv tv d)[j]? := fun j => cell_of_row w B j _ _ (0, 0) h.dev
  exact ⟨⟨(hc 0).trans rfl, (hc 1).trans rfl, (hc 2).trans rfl, (hc 3).trans rfl, (hc 4).trans rfl, (hc 5).trans rfl, (hc 6).trans rfl, (hc 7).trans rfl⟩, fun j => frozen_of_row w B j _ _ h.dev, lt_of_heap h.dev⟩

def rblocks (B : Nat) (lv wv tv : Value) : List Nat := B :: (lv.ownBlock.toList ++ wv.ownBlock.toList ++ tv.ownBlock.toList)
theorem own_kept {w w' : World} {base e size n : Nat} {v : Value} {xs : List Value} (h : w.ownsRow base e size v n xs) (o : ∀ k, v.ownBlock = some k → w'.heap[k]? = w.heap[k]?) : w'.ownsRow base e size v n xs := by
  refine ⟨h.1, ?_⟩
  rcases h.2 with h1 | ⟨g, cap, cur, h1, h2, h3, h4⟩
  · exact Or.inl h1
  · exact Or.inr ⟨g, cap, cur, h1, h2, (o g (by rw [h1]; rfl)).trans h3, h4⟩
theorem RefAt.lt {w : World} {B : Nat} {lv wv tv : Value} {d : Dev} (h : RefAt w B lv wv tv d) : ∀ k, k ∈ rblocks B lv wv tv → k < w.heap.size := by
  intro k hk
  obtain ⟨n, xs, ht⟩ := h.tears
  simp only [rblocks, List.mem_cons, List.mem_append, Option.mem_toList] at hk
  rcases hk with rfl | (hk | hk) | hk
  · exact lt_of_heap h.dev
  · exact (h.lasts.lt k hk).2
  · exact (h.waits.lt k hk).2
  · exact (ht.lt k hk).2
theorem RefAt.later {w w' : World} {B : Nat} {lv wv tv : Value} {d : Dev} {L : List Nat} (h : RefAt w B lv wv tv d) (o : Onl L w w') (hL : ∀ k, k ∈ rblocks B lv wv tv → k ∉ L) : RefAt w' B lv wv tv d := by
  have hb : ∀ k, k ∈ rblocks B lv wv tv → w'.heap[k]? = w.heap[k]? := fun k hk => o.block k (h.lt k hk) (hL k hk)
  obtain ⟨n, xs, ht⟩ := h.tears
  refine ⟨(hb B (by simp [rblocks])).trans h.dev, own_kept h.lasts fun k hk => hb k ?_, own_kept h.waits fun k hk => hb k ?_, ⟨n, xs, own_kept ht fun k hk => hb k ?_⟩, h.nl, h.nw, h.nt, h.calls, h.keep⟩ <;>
    simp [rblocks, hk]
/-- A store into the device's own block. -/
theorem RefAt.own_set {w : World} {B : Nat} {lv wv tv : Value} {d d' : Dev} (h : RefAt w B lv wv tv d) (j : Nat) (u : Value) (hd : (refC lv wv tv d).setIfInBounds j u = refC lv wv tv d')
    (h1 : d'.dur = d.dur) (h2 : d'.pend = d.pend) (h3 : d'.calls ≤ 9223372036854775807) (h4 : d'.keep < 18446744073709551616) : RefAt (w.setCell ⟨B, j, none⟩ u) B lv wv tv d' := by
  have ho : ∀ k, k ≠ B → (w.setCell ⟨B, j, none⟩ u).heap[k]? = w.heap[k]? := fun k hk => heap_setCell_other w ⟨B, j, none⟩ k _ (by simpa using hk)
  obtain ⟨n, xs, ht⟩ := h.tears
  refine ⟨(heap_setCell_same w B j _ _ u h.dev).trans (by rw [hd]), ?_, ?_, ⟨n, xs, own_kept ht fun k hk => ho k ?_⟩, h.nl, h.nw, h.nt, h3, h4⟩
  · rw [h1]; exact own_kept h.lasts fun k hk => ho k (fun e => h.nl (by rw [hk, e]))
  · rw [h2]; exact own_kept h.waits fun k hk => ho k (fun e => h.nw (by rw [hk, e]))
  · exact fun e => h.nt (by rw [hk, e])

theorem refUp_any {w : World} {B : Nat} {lv wv tv : Value} {d : Dev} (h : RefAt w B lv wv tv d) :
    Calls Try.prog 16 #[.pointer (some ⟨B, 0, none⟩)] w fun e w' => e = .returned (.tuple #[]) ∧ RefAt w' B lv wv tv { d with off := false, calls := 0 } ∧ Onl [B] w w' := by
  have HR := Lib.hid ((h.own_set (d' := { d with off := false }) 2 (.bool false) rfl rfl rfl h.calls h.keep).own_set (d' := { d with off := false, calls := 0 }) 3 (.int .i64 0) rfl rfl rfl (by simp) h.keep)
  have HO := Lib.hid (((Onl.refl [B] w).setCell (p := ⟨B, 2, none⟩) (by simp) (.bool false)).setCell (p := ⟨B, 3, none⟩) (by simp) (.int .i64 0))
  obtain ⟨⟨c0, c1, c2, c3, c4, c5, c6, c7⟩, hf, hlt⟩ := h.cells
  have f2 := hf 2
  have f3 := hf 3
  clear h hf c0 c1 c4 c5 c6 c7
  go_enter Try.func16, Try.ntmps16
  go_wp2_with fail
  go_end0
  exact ⟨rfl, HR.out, HO.out⟩

end Go.Proofs.Ytfmcbccmijcdgaa.Bk
