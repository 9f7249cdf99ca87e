/-
  A row of values that is read, in memory.
-/
import Derived.Test.YtkdhchdhgmaolaaZCdRdD
import Derived.Maps.AppendAt
namespace Go.Proofs.Ytkdhchdhgmaolaa.Cd
open Go.RowKit
open Pk Va
set_option linter.unusedVariables false
set_option linter.unusedSimpArgs false

/-- The cells of values with their lists' rows. -/
def dV (d : List (V × Option Addr × Nat)) : List Value := d.flatMap fun y => [.int .i64 y.1.kind, .int .i64 y.1.num, .string (S y.1.text), .slice y.2.1 y.1.list.length y.2.2]
theorem dV_get : ∀ (l : List (V × Option Addr × Nat)) (i : Nat) (h : i < l.length), (dV l)[i * 4]? = some (.int .i64 l[i].1.kind) ∧ (dV l)[i * 4 + 1]? = some (.int .i64 l[i].1.num) ∧ (dV l)[i * 4 + 2]? = some (.string (S l[i].1.text)) ∧ (dV l)[i * 4 + 3]? = some (.slice l[i].2.1 l[i].1.list.length l[i].2.2)
  | a :: r, 0, _ => ⟨rfl, rfl, rfl, rfl⟩
  | a :: r, i + 1, h => by
    have e : dV (a :: r) = .int .i64 a.1.kind :: .int .i64 a.1.num :: .string (S a.1.text) :: .slice a.2.1 a.1.list.length a.2.2 :: dV r := rfl
    have := dV_get r i (by simpa using h)
    rw [e, show (i + 1) * 4 = i * 4 + 1 + 1 + 1 + 1 by omega]
    simpa using this
theorem NumsAt.of_block {w w' : World} {q : Option Addr} {l : List Int} (h : NumsAt w q l) (hs : w.heap.size ≤ w'.heap.size) (hk : ∀ g off, q = some ⟨g, off, none⟩ → l ≠ [] → w'.heap[g]? = w.heap[g]?) : NumsAt w' q l := fun i hi => by
  obtain ⟨g, off, e, hc, hl⟩ := h i hi
  have := hk g off e (by intro e2; rw [e2] at hi; simp at hi)
  exact ⟨g, off, e, (World.cell?_of_block (a := ⟨g, off + i, none⟩) this).trans hc, Nat.lt_of_lt_of_le hl hs⟩
structure VRow (B r : Nat) (w : World) (q : Option Addr) (d : List (V × Option Addr × Nat)) (cap : Nat) : Prop where
  own : w.ownsRow B 25 4 (.slice q d.length cap) d.length (dV d)
  nums : ∀ y ∈ d, NumsAt w y.2.1 y.1.list ∧ ∀ g off, y.2.1 = some ⟨g, off, none⟩ → y.1.list ≠ [] → OffR r g w ∧ some g ≠ (Value.slice q d.length cap).ownBlock ∧ B ≤ g
theorem ne_val : 25 ≠ 133 ∧ 25 ≠ 171 := by decide
theorem VRow.nil (B r : Nat) (w : World) : VRow B r w none [] 0 := ⟨World.ownsRow_nil _ _ _ _, fun y hy => by simp at hy⟩
theorem VRow.keep {B H r R cap : Nat} {l l' : List UInt8} {b b' : Nat} {w w' : World} {q : Option Addr} {d : List (V × Option Addr × Nat)} (h : VRow B r w q d cap) (hR : RdrR H r R l b w) (t : RdTo H r l' b' w w') : VRow B r w' q d cap := by
  refine ⟨own_keep t h.own (off_row hR h.own ne_val.1 ne_val.2), fun y hy => ?_⟩
  obtain ⟨h1, h2⟩ := h.nums y hy
  refine ⟨NumsAt.of_block h1 t.size (fun g off e hn => (t.keeps g (h2 g off e hn).1).1), fun g off e hn => ⟨(t.keeps g (h2 g off e hn).1).2, (h2 g off e hn).2⟩⟩
theorem VRow.below {B H r R cap : Nat} {l : List UInt8} {b : Nat} {w w' : World} {q : Option Addr} {d : List (V × Option Addr × Nat)} (h : VRow B r w q d cap) (hR : RdrR H r R l b w) (k : Below w.heap.size w w') : VRow B r w' q d cap := h.keep hR (RdTo.of_below hR k)
/-- The row's values. -/
theorem VRow.vals {B r cap : Nat} {w : World} {q : Option Addr} {d : List (V × Option Addr × Nat)} (h : VRow B r w q d cap) : ValsAt w q (d.map (·.1)) := fun i hi => by
  have hi2 : i < d.length := by simpa using hi
  rcases h.own.2 with ⟨_, h0⟩ | ⟨g, cap2, cur, e, hB, hg, r⟩
  · omega
  · injection e with e1 _ _
    subst e1
    have hadd : ∀ j, (⟨g, 0, none⟩ : Addr).add j = ⟨g, j, none⟩ := fun j => by unfold Addr.add; split <;> simp_all
    obtain ⟨h0, h1, h2, h3⟩ := dV_get d i hi2
    have c := fun j u (hu : (dV d)[j]? = some u) => World.ownsRow.cells h.own (g := g) rfl j u hu
    have hx : (d.map (·.1))[i] = d[i].1 := by simp
    refine ⟨g, 0, rfl, ?_, (Array.getElem?_eq_some_iff.1 hg).1⟩
    rw [hx]
    refine ⟨d[i].2.1, d[i].2.2, ?_, ?_, ?_, ?_, (h.nums _ (List.getElem_mem hi2)).1⟩
    · have := c _ _ h0; rw [hadd] at this; rw [Nat.zero_add]; exact this
    · have := c _ _ h1; rw [hadd] at this; rw [Nat.zero_add]; exact this
    · have := c _ _ h2; rw [hadd] at this; rw [Nat.zero_add]; exact this
    · have := c _ _ h3; rw [hadd] at this; rw [Nat.zero_add]; exact this
theorem info_pt {t : TypeId} {z : Value} {s b : Nat} (h : (Try.prog.info? t).map (fun i => (i.zero, i.size, i.bytes)) = some (some z, s, b)) : ∃ i, Try.prog.info? t = some i ∧ i.zero = some z ∧ i.size = s ∧ i.bytes = b := by
  obtain ⟨i, hi, h1⟩ := Option.map_eq_some_iff.1 h
  simp only [Prod.mk.injEq] at h1
  exact ⟨i, hi, h1.1, h1.2.1, h1.2.2⟩
theorem infoV : (Try.prog.info? 25).map (fun i => (i.zero, i.size, i.bytes)) = some (some (.agg #[.int .i64 0, .int .i64 0, .string ⟨#[]⟩, .slice none 0 0]), 4, 56) := by kernel_rfl
theorem VRow.app {B H r R cap : Nat} {l : List UInt8} {b : Nat} {w : World} {q : Option Addr} {d : List (V × Option Addr × Nat)} (h : VRow B r w q d cap) (hR : RdrR H r R l b w) (hB : B ≤ w.heap.size) (hn : d.length ≤ 100000) (v : V) (a : Option Addr) (c : Nat)
    (hv : NumsAt w a v.list) (hv2 : ∀ g off, a = some ⟨g, off, none⟩ → v.list ≠ [] → OffR r g w ∧ some g ≠ (Value.slice q d.length cap).ownBlock ∧ B ≤ g) (K : Nat) (hK : w.heap.size = K) :
    ∃ q' cap' w', (Builtin.append_ #[31, 31] 31 #[.slice q d.length cap, .slice (some ⟨K, 0, none⟩) 1 1]).run Try.prog (w.alloc (.cells #[.int .i64 v.kind, .int .i64 v.num, .string (S v.text), .slice a v.list.length c] 25)) = .ok (.slice q' (d.length + 1) cap') w' ∧
      VRow B r w' q' (d ++ [(v, a, c)]) cap' ∧ (w.alloc (.cells #[.int .i64 v.kind, .int .i64 v.num, .string (S v.text), .slice a v.list.length c] 25)).grownBy w' (Value.slice q d.length cap).ownBlock := by
  subst hK
  obtain ⟨i0, hi, hz0, hz1, hz2⟩ := info_pt infoV
  have kk := (Below.refl w.heap.size w).alloc (Nat.le_refl _) (.cells #[.int .i64 v.kind, .int .i64 v.num, .string (S v.text), .slice a v.list.length c] 25)
  have hnew := heap_alloc_new w (.cells #[.int .i64 v.kind, .int .i64 v.num, .string (S v.text), .slice a v.list.length c] 25)
  have hs1 : (w.alloc (.cells #[.int .i64 v.kind, .int .i64 v.num, .string (S v.text), .slice a v.list.length c] 25)).heap.size = w.heap.size + 1 := by simp
  have hR1 := hR.below kk
  have hA := h.below hR kk
  have hvA := hv.below kk
  have hv2A : ∀ g off, a = some ⟨g, off, none⟩ → v.list ≠ [] → OffR r g (w.alloc (.cells #[.int .i64 v.kind, .int .i64 v.num, .string (S v.text), .slice a v.list.length c] 25)) ∧ some g ≠ (Value.slice q d.length cap).ownBlock ∧ B ≤ g := fun g off e hn => ⟨(hv2 g off e hn).1.below kk, (hv2 g off e hn).2⟩
  generalize w.alloc (.cells #[.int .i64 v.kind, .int .i64 v.num, .string (S v.text), .slice a v.list.length c] 25) = w1 at *
  have hnews : ∀ j u, [Value.int .i64 v.kind, .int .i64 v.num, .string (S v.text), .slice a v.list.length c][j]? = some u → w1.cell? ((⟨w.heap.size, 0, none⟩ : Addr).add j) = some u := by
    intro j u hj
    have hadd : (⟨w.heap.size, 0, none⟩ : Addr).add j = ⟨w.heap.size, j, none⟩ := by unfold Addr.add; split <;> simp_all
    rw [hadd, cell_of_row _ w.heap.size j _ _ (0, 0) hnew]
    simpa using hj
  have h1 : ∀ u ∈ [Value.int .i64 v.kind, .int .i64 v.num, .string (S v.text), .slice a v.list.length c], u.oneCell' = true := by
    intro u hu
    simp only [List.mem_cons, List.not_mem_nil, or_false] at hu
    rcases hu with rfl | rfl | rfl | rfl <;> rfl
  obtain ⟨v', w', hr, h2, h3, _, h5⟩ := run_append_own_at (P := Try.prog) w1 B 31 31 25 i0 _ 4 56 Try.underlying31 hi hz0 hz1 hz2 rfl (by decide) (.slice q d.length cap) d.length (dV d) hA.own ⟨w.heap.size, 0, none⟩ 1 1 [Value.int .i64 v.kind, .int .i64 v.num, .string (S v.text), .slice a v.list.length c] rfl hnews h1 (by unfold maxLen; omega) (by omega) (by omega)
  have hlen : (d ++ [(v, a, c)]).length = d.length + 1 := by simp
  have hcs : dV (d ++ [(v, a, c)]) = dV d ++ [Value.int .i64 v.kind, .int .i64 v.num, .string (S v.text), .slice a v.list.length c] := by simp [dV]
  have hoff := off_row hR1 hA.own ne_val.1 ne_val.2
  have hrr : w'.heap[r]? = w1.heap[r]? := h3.block r hR1.lt (fun e => (hoff r e.symm).1 rfl)
  have hgo : ∀ g, OffR r g w1 → some g ≠ (Value.slice q d.length cap).ownBlock → w'.heap[g]? = w1.heap[g]? ∧ OffR r g w' ∧ some g ≠ v'.ownBlock := fun g ho hne => by
    obtain ⟨a1, a2, R2, a3, a4⟩ := ho
    refine ⟨h3.block g a2 hne, ⟨a1, Nat.lt_of_lt_of_le a2 h3.size, R2, hrr.trans a3, a4⟩, ?_⟩
    rcases h5 with h5 | h5
    · rw [h5]; exact hne
    · rw [h5]; intro e; injection e with e; omega
  rcases h2.2 with ⟨_, h0⟩ | ⟨g, cap2, cur, rfl, rr⟩
  · omega
  · refine ⟨_, _, w', hr, ⟨?_, fun y hy => ?_⟩, h3⟩
    · rw [hlen, hcs]; exact h2
    · rw [hlen]
      rcases List.mem_append.1 hy with hy | hy
      · obtain ⟨n1, n2⟩ := hA.nums y hy
        exact ⟨NumsAt.of_block n1 h3.size (fun g off e hn => (hgo g (n2 g off e hn).1 (n2 g off e hn).2.1).1), fun g off e hn => ⟨(hgo g (n2 g off e hn).1 (n2 g off e hn).2.1).2.1, (hgo g (n2 g off e hn).1 (n2 g off e hn).2.1).2.2, (n2 g off e hn).2.2⟩⟩
      · obtain rfl : y = (v, a, c) := by simpa using hy
        exact ⟨NumsAt.of_block hvA h3.size (fun g off e hn => (hgo g (hv2A g off e hn).1 (hv2A g off e hn).2.1).1), fun g off e hn => ⟨(hgo g (hv2A g off e hn).1 (hv2A g off e hn).2.1).2.1, (hgo g (hv2A g off e hn).1 (hv2A g off e hn).2.1).2.2, (hv2A g off e hn).2.2⟩⟩
theorem VRow.mono {B B' r cap : Nat} {w : World} {q : Option Addr} {d : List (V × Option Addr × Nat)} (h : VRow B r w q d cap) (hB : B' ≤ B) : VRow B' r w q d cap := by
  refine ⟨⟨h.own.1, ?_⟩, fun y hy => ⟨(h.nums y hy).1, fun g off e hn => ⟨((h.nums y hy).2 g off e hn).1, ((h.nums y hy).2 g off e hn).2.1, Nat.le_trans hB ((h.nums y hy).2 g off e hn).2.2⟩⟩⟩
  rcases h.own.2 with h0 | ⟨g, cap2, cur, e, hb, rest⟩
  · exact .inl h0
  · exact .inr ⟨g, cap2, cur, e, Nat.le_trans hB hb, rest⟩
/-- A row, behind what was written into an elder block that is not the reader's. -/
theorem VRow.set {B r cap g j : Nat} {w : World} {q : Option Addr} {d : List (V × Option Addr × Nat)} (h : VRow B r w q d cap) (hg : g < B) (hr : g ≠ r) (v : Value) : VRow B r (w.setCell ⟨g, j, none⟩ v) q d cap := by
  refine ⟨⟨h.own.1, ?_⟩, fun y hy => ⟨NumsAt.set (h.nums y hy).1 g (fun b off e hn => by have := ((h.nums y hy).2 b off e hn).2.2; omega) j v, fun g2 off e hn => ⟨((h.nums y hy).2 g2 off e hn).1.set hr v, ((h.nums y hy).2 g2 off e hn).2⟩⟩⟩
  rcases h.own.2 with h0 | ⟨g2, cap2, cur, e, hb, hc, rest⟩
  · exact .inl h0
  · exact .inr ⟨g2, cap2, cur, e, hb, (heap_setCell_other w ⟨g, j, none⟩ g2 v (show g2 ≠ g by omega)).trans hc, rest⟩
end Go.Proofs.Ytkdhchdhgmaolaa.Cd
