/-
  Rows of messages whose values' numbers are changed by their owner.
-/
import Derived.Test.YtfkmpegbidojoaaMdSmall
namespace Go.Proofs.Ytfkmpegbidojoaa.Md
open Go.RowKit
open Va
set_option linter.unusedVariables false
set_option linter.unusedSimpArgs false

/-- A row of values, whatever their numbers are. -/
def NumRow (B : Nat) (w : World) (a : Option Addr) (n : Nat) : Prop := n = 0 ∨ ∃ G, a = some ⟨G, 0, none⟩ ∧ B ≤ G ∧ Blk w G 64 ∧ ∀ i, i < n → ∃ z, w.cell? ⟨G, i * 4 + 1, none⟩ = some (.int .i64 z)
theorem TwR.nums {B : Nat} {w : World} {a : Option Addr} {vs : List V} (h : TwR B w a vs) : NumRow B w a vs.length := by
  rcases h with rfl | ⟨G, e, h⟩
  · exact .inl rfl
  · refine .inr ⟨G, e, h.ge, h.blk, fun i hi => ?_⟩
    obtain ⟨_, _, _, h1, _⟩ := h.cells i vs[i] (List.getElem?_eq_getElem hi)
    exact ⟨_, h1⟩
theorem NumRow.agree {B n : Nat} {w w' : World} {a : Option Addr} (h : NumRow B w a n) (ag : ∀ b, Blk w b 64 → w'.heap[b]? = w.heap[b]?) : NumRow B w' a n := by
  rcases h with h | ⟨G, e, hB, hb, hc⟩
  · exact .inl h
  · have hg := ag G hb
    obtain ⟨cs, hs⟩ := hb
    refine .inr ⟨G, e, hB, ⟨cs, hg.trans hs⟩, fun i hi => ?_⟩
    obtain ⟨z, hz⟩ := hc i hi
    exact ⟨z, by rw [← hz]; unfold World.cell?; simp only [hg]⟩
theorem NumRow.set {B n : Nat} {w : World} {a : Option Addr} (h : NumRow B w a n) (G i : Nat) (z : Int) (hz : ∃ z0, w.cell? ⟨G, i * 4 + 1, none⟩ = some (.int .i64 z0)) : NumRow B (w.setCell ⟨G, i * 4 + 1, none⟩ (.int .i64 z)) a n := by
  rcases h with h | ⟨G2, e, hB, hb, hc⟩
  · exact .inl h
  · refine .inr ⟨G2, e, hB, hb.set _ _ _, fun j hj => ?_⟩
    by_cases h2 : G2 = G ∧ j = i
    · obtain ⟨rfl, rfl⟩ := h2
      obtain ⟨z0, h0⟩ := hz
      exact ⟨z, World.cell?_setCell_same (w := w) (a := ⟨G2, j * 4 + 1, none⟩) (v := _) (h := h0)⟩
    · obtain ⟨z1, h1⟩ := hc j hj
      exact ⟨z1, (set_other (by by_cases e3 : G2 = G; exact .inr (fun e4 => h2 ⟨e3, by omega⟩); exact .inl e3)).trans h1⟩
structure MuAt (B : Nat) (w : World) (q : Option Addr) (d : List MK) (cap : Nat) : Prop where
  own : w.ownsRow B 30 4 (.slice q d.length cap) d.length (dM d)
  nums : ∀ y ∈ d, NumRow B w y.fa y.m.fields.length
theorem OutAt.mu {B cap : Nat} {w : World} {q : Option Addr} {d : List MK} (h : OutAt B w q d cap) : MuAt B w q d cap := ⟨h.own, fun y hy => TwR.nums (h.rows y hy).2⟩
theorem own_agree {B cap : Nat} {w w' : World} {q : Option Addr} {d : List MK} (h : w.ownsRow B 30 4 (.slice q d.length cap) d.length (dM d)) (ag : ∀ b, Blk w b 30 → w'.heap[b]? = w.heap[b]?) : w'.ownsRow B 30 4 (.slice q d.length cap) d.length (dM d) := by
  refine ⟨h.1, ?_⟩
  rcases h.2 with h0 | ⟨b, cap2, cur, e, hB, hc, rest⟩
  · exact .inl h0
  · exact .inr ⟨b, cap2, cur, e, hB, (ag b ⟨_, hc⟩).trans hc, rest⟩
theorem MuAt.below {B cap : Nat} {w w' : World} {q : Option Addr} {d : List MK} (h : MuAt B w q d cap) (k : Below w.heap.size w w') : MuAt B w' q d cap :=
  ⟨own_agree h.own fun b hb => k.block b hb.lt, fun y hy => (h.nums y hy).agree fun b hb => k.block b hb.lt⟩
theorem MuAt.set {B cap : Nat} {w : World} {q : Option Addr} {d : List MK} (h : MuAt B w q d cap) (G i : Nat) (z : Int) (hb : Blk w G 64) (hz : ∃ z0, w.cell? ⟨G, i * 4 + 1, none⟩ = some (.int .i64 z0)) : MuAt B (w.setCell ⟨G, i * 4 + 1, none⟩ (.int .i64 z)) q d cap :=
  ⟨own_agree h.own fun b hb2 => Below.heap_setCell _ _ _ _ (hb2.apart hb (by decide)), fun y hy => (h.nums y hy).set G i z hz⟩

end Go.Proofs.Ytfkmpegbidojoaa.Md
