/-
  What a caller does to twins' rows touches nobody else's.
-/
import Derived.Test.YtipabjefkbgjbaaDoorVlTwinR
import Derived.Test.YtipabjefkbgjbaaDoorVlOpen
namespace Go.Proofs.YtipabjefkbgjbaaDoor.Va
open Go.RowKit

theorem TwR.out {hi : Nat} {w w' : World} {a : Option Addr} {vs : List V} (h : TwR hi w a vs) (ho : ∀ b, hi ≤ b → w'.heap[b]? = w.heap[b]?) : TwR hi w' a vs := by
  rcases h with h | ⟨G, rfl, h⟩
  · exact .inl h
  · have hc : ∀ b j, hi ≤ b → w'.cell? ⟨b, j, none⟩ = w.cell? ⟨b, j, none⟩ := fun b j hb => by unfold World.cell?; simp only [ho b hb]
    have hk : ∀ b t, hi ≤ b → Blk w b t → Blk w' b t := fun b t hb ⟨cs, hs⟩ => ⟨cs, (ho b hb).trans hs⟩
    refine .inr ⟨G, rfl, h.ge, hk _ _ h.ge h.blk, fun i v hv => ?_⟩
    obtain ⟨a, c, h0, h1, h2, h3, h4⟩ := h.cells i v hv
    refine ⟨a, c, (hc _ _ h.ge).trans h0, (hc _ _ h.ge).trans h1, (hc _ _ h.ge).trans h2, (hc _ _ h.ge).trans h3, fun hi' j hj => ?_⟩
    obtain ⟨b, e, hs, hcc, hb⟩ := h4 hi' j hj
    exact ⟨b, e, hk _ _ hb hs, (hc _ _ hb).trans hcc, hb⟩
/-- The rows of twins that are changed, in blocks from lo to hi; all else is as in w5. -/
structure MutP (lo hi G : Nat) (vs : List V) (w5 w' : World) : Prop where
  blk : Blk w' G 26
  cells : ∀ i v, vs[i]? = some v → ∃ a c, w'.cell? ⟨G, i * 4 + 3, none⟩ = some (.slice a v.list.length c) ∧ ∀ j, j < v.list.length → ∃ (b : Nat) (z : Int), a = some ⟨b, 0, none⟩ ∧ Blk w' b 2 ∧ w'.cell? ⟨b, j, none⟩ = some (.int .i64 z) ∧ lo ≤ b ∧ b < hi
  out : ∀ b, (b < lo ∨ hi ≤ b) → w'.heap[b]? = w5.heap[b]?
  size : w'.heap.size = w5.heap.size
  os : w'.os = w5.os
  tape : w'.tape = w5.tape
  output : w'.output = w5.output
theorem MutP.start {lo G : Nat} {vs : List V} {w1 w5 : World} (h : TwP lo G vs vs.length w1) (hb : Below w1.heap.size w1 w5) : MutP lo w1.heap.size G vs w5 w5 := by
  refine ⟨h.blk.below hb, fun i v hv => ?_, fun _ _ => rfl, rfl, rfl, rfl, rfl⟩
  obtain ⟨a, c, h0, h1, h2, h3, h4⟩ := h.cells i v hv
  refine ⟨a, c, (hb.cell (p := ⟨G, i * 4 + 3, none⟩) h.blk.lt).trans h3, fun j hj => ?_⟩
  obtain ⟨b, e, hs, hc, hlo⟩ := h4 ((List.getElem?_eq_some_iff.1 hv).1) j hj
  exact ⟨b, _, e, hs.below hb, (hb.cell (p := ⟨b, j, none⟩) hs.lt).trans hc, hlo, hs.lt⟩
theorem MutP.set {lo hi G : Nat} {vs : List V} {w5 w' : World} (h : MutP lo hi G vs w5 w') (b o : Nat) (z0 z : Int) (hb : Blk w' b 2) (hc : w'.cell? ⟨b, o, none⟩ = some (.int .i64 z0)) (h1 : lo ≤ b) (h2 : b < hi) : MutP lo hi G vs w5 (w'.setCell ⟨b, o, none⟩ (.int .i64 z)) := by
  have hne : G ≠ b := h.blk.apart hb (by decide)
  refine ⟨h.blk.set _ _ _, fun i v hv => ?_, fun k hk => ?_, by simpa [World.setCell] using h.size, h.os, h.tape, h.output⟩
  · obtain ⟨a, c, q, hq⟩ := h.cells i v hv
    refine ⟨a, c, (set_other (.inl hne)).trans q, fun j hj => ?_⟩
    obtain ⟨b', z', e, hs, hcc, hlo, hhi⟩ := hq j hj
    by_cases e2 : b' = b ∧ j = o
    · obtain ⟨rfl, rfl⟩ := e2
      exact ⟨b', z, e, hs.set _ _ _, World.cell?_setCell_same (w := w') (a := ⟨b', j, none⟩) (v := _) (h := hc), hlo, hhi⟩
    · refine ⟨b', z', e, hs.set _ _ _, (set_other ?_).trans hcc, hlo, hhi⟩
      by_cases e3 : b' = b
      · exact .inr (fun e4 => e2 ⟨e3, e4⟩)
      · exact .inl e3
  · have : k ≠ b := by omega
    exact (Below.heap_setCell _ _ _ _ this).trans (h.out k hk)
theorem MutP.below {lo hi G B : Nat} {vs : List V} {w w5 w' : World} (h : MutP lo hi G vs w5 w') (hb : Below B w w5) (hB : B ≤ lo) : Below B w w' :=
  ⟨h.os.trans hb.os, h.tape.trans hb.tape, h.output.trans hb.output, by rw [h.size]; exact hb.size, fun k hk => (h.out k (.inl (by omega))).trans (hb.block k hk)⟩
theorem vin_arg {v : V} (h : VArg v) (hr : rightB v = true) : VIn v := by
  have hc := right_cases hr
  obtain ⟨⟨h1, h2⟩, h3, h4⟩ := h
  obtain ⟨k, n, t, l⟩ := v
  simp only at *
  refine ⟨h3, ?_, ?_, h4⟩ <;> simp only
  · rcases hc with ⟨rfl, rfl, rfl, rfl⟩ | ⟨rfl, rfl, rfl⟩ | ⟨rfl, hn, rfl, rfl⟩ | ⟨rfl, rfl, rfl⟩ | ⟨rfl, rfl, hnm, rfl⟩ | ⟨rfl, rfl, rfl⟩
    · simp
    · simp
    · simp
    · have : t.length ≤ 64 := by simpa [rightB] using hr
      omega
    · have := (nameB_ne hnm).2.1
      omega
    · simp
  · rcases hc with ⟨rfl, rfl, rfl, rfl⟩ | ⟨rfl, rfl, rfl⟩ | ⟨rfl, hn, rfl, rfl⟩ | ⟨rfl, rfl, rfl⟩ | ⟨rfl, rfl, hnm, rfl⟩ | ⟨rfl, rfl, rfl⟩
    · simp
    · simp
    · simp
    · simp
    · simp
    · have : l.length ≤ 16 := by simpa [rightB] using hr
      omega

end Go.Proofs.YtipabjefkbgjbaaDoor.Va
