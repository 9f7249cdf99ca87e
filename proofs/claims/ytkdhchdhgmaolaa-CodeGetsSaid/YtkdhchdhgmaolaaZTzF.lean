/-
  Several texts in one: DdF, DdG, DdH, DdV, DdW, DdX.
-/
import Derived.Test.YtkdhchdhgmaolaaZTzB
import Derived.Test.YtkdhchdhgmaolaaZTzG
import Derived.Maps.AppendAt
import Derived.Test.YtkdhchdhgmaolaaZTzJ
namespace Go.Proofs.Ytkdhchdhgmaolaa.Dd
open Go.RowKit
open Pk Va
open Cd (pByte pNum pTruth pText pSmall pSym pVal pLoop pAll pRej Rs)
set_option linter.unusedVariables false
set_option linter.unusedSimpArgs false
set_option linter.unnecessarySimpa false

def RdrR (H r R : Nat) (l : List UInt8) (bad : Nat) (w : World) : Prop := H ≤ r ∧ R = r ∧ RdD w r l bad
def Rdr (H r : Nat) (l : List UInt8) (bad : Nat) (w : World) : Prop := RdrR H r r l bad w
/-- Block g is not the reader's. -/
def OffR (r g : Nat) (w : World) : Prop := g ≠ r ∧ g < w.heap.size
def KeepR (r : Nat) (w w' : World) : Prop := ∀ g, OffR r g w → w'.heap[g]? = w.heap[g]? ∧ OffR r g w'
structure RdTo (H r : Nat) (l : List UInt8) (bad : Nat) (w w' : World) : Prop where
  rdr : Rdr H r l bad w'
  below : Below H w w'
  size : w.heap.size ≤ w'.heap.size
  keeps : KeepR r w w'
theorem RdTo.trans {H r : Nat} {l l2 : List UInt8} {x y : Nat} {w w1 w2 : World} (h : RdTo H r l x w w1) (k : RdTo H r l2 y w1 w2) : RdTo H r l2 y w w2 :=
  ⟨k.rdr, h.below.trans k.below, Nat.le_trans h.size k.size, fun g hg => by
    obtain ⟨e1, h1⟩ := h.keeps g hg
    obtain ⟨e2, h2⟩ := k.keeps g h1
    exact ⟨e2.trans e1, h2⟩⟩
section
variable {H r R : Nat} {l : List UInt8} {bad : Nat} {w w' : World}
theorem RdrR.rd (h : RdrR H r R l bad w) : RdD w r l bad := h.2.2
theorem RdrR.lt (h : RdrR H r R l bad w) : r < w.heap.size := h.2.2.lt
theorem RdrR.size (h : RdrR H r R l bad w) : H ≤ w.heap.size := Nat.le_trans h.1 (Nat.le_of_lt h.lt)
theorem RdrR.below (h : RdrR H r R l bad w) (k : Below w.heap.size w w') : RdrR H r R l bad w' := ⟨h.1, h.2.1, h.2.2.below k⟩
theorem OffR.below {g : Nat} (h : OffR r g w) (k : Below w.heap.size w w') : OffR r g w' := ⟨h.1, Nat.lt_of_lt_of_le h.2 k.size⟩
theorem RdTo.of_below (h : RdrR H r R l bad w) (k : Below w.heap.size w w') : RdTo H r l bad w w' :=
  ⟨⟨h.1, rfl, h.2.2.below k⟩, k.mono h.size, k.size, fun g hg => ⟨k.block g hg.2, hg.below k⟩⟩
/-- One of pack's calls at the reader. -/
theorem RdrR.step {l' : List UInt8} {bad' : Nat} (h : RdrR H r R l bad w) (h1 : RdD w' r l' bad') (o : Only r w w') : RdrR H r r l' bad' w' ∧ RdTo H r l' bad' w w' := by
  have hR : RdrR H r r l' bad' w' := ⟨h.1, rfl, h1⟩
  refine ⟨hR, hR, Only.below (Below.refl H w) o h.size h.1, o.size, fun g hg => ?_⟩
  exact ⟨o.block g hg.2 (by intro e; injection e with e; exact hg.1 e), hg.1, Nat.lt_of_lt_of_le hg.2 o.size⟩
theorem RdrR.off (h : RdrR H r R l bad w) {g : Nat} (hg : g < H) : OffR r g w := ⟨by have := h.1; omega, by have := h.size; omega⟩
theorem RdrR.off_new (h : RdrR H r R l bad w) (o : Obj) : OffR r w.heap.size (w.alloc o) := ⟨by have := h.lt; omega, by simp⟩
theorem RdTo.box {g : Nat} {o : Obj} (t : RdTo H r l bad w w') (h : w.heap[g]? = some o) (f : OffR r g w) : w'.heap[g]? = some o ∧ OffR r g w' := by
  obtain ⟨e, f'⟩ := t.keeps g f
  exact ⟨e.trans h, f'⟩
end
theorem off_row {H r R B n s : Nat} {e : TypeId} {l : List UInt8} {bad : Nat} {w : World} {v : Value} {xs : List Value} (hR : RdrR H r R l bad w) (h : w.ownsRow B e s v n xs) (he1 : e ≠ 87) (he2 : True) : ∀ g, v.ownBlock = some g → OffR r g w := by
  intro g hg
  rcases h.2 with ⟨rfl, _⟩ | ⟨g', cap, cur, rfl, _, hb, _⟩
  · simp [Value.ownBlock] at hg
  · obtain rfl : g' = g := by simpa [Value.ownBlock] using hg
    refine ⟨?_, lt_of_heapV hb⟩
    rintro rfl
    obtain ⟨b, a, h1, _⟩ := hR.2.2.is
    unfold DrAt at h1
    rw [hb] at h1
    injection h1 with h1
    injection h1 with _ h2 _
    exact he1 h2
theorem RdTo.grown {H r : Nat} {l : List UInt8} {bad : Nat} {w wr w' : World} {row : Option Nat} (t : RdTo H r l bad w wr) (hH : H ≤ w.heap.size) (hg : wr.grownBy w' row) (ho : ∀ g, row = some g → w.heap.size ≤ g ∧ OffR r g wr) : RdTo H r l bad w w' := by
  have hr : w'.heap[r]? = wr.heap[r]? := hg.block r t.rdr.lt (by
    intro e
    exact (ho r e.symm).2.1 rfl)
  obtain ⟨b, a, h1, h2, h3, h4⟩ := t.rdr.2.2.is
  refine ⟨⟨t.rdr.1, rfl, rdd (hr.trans h1) h2 h3 h4 t.rdr.2.2.bnd⟩, t.below.grown hg (Nat.le_trans hH t.size) (fun k hk => Nat.le_trans hH (ho k hk).1), Nat.le_trans t.size hg.size, fun g hgo => ?_⟩
  obtain ⟨e1, o1⟩ := t.keeps g hgo
  have e2 : w'.heap[g]? = wr.heap[g]? := hg.block g o1.2 (by
    intro e
    have := (ho g e.symm).1
    have := hgo.2
    omega)
  exact ⟨e2.trans e1, o1.1, Nat.lt_of_lt_of_le o1.2 hg.size⟩
theorem own_keep {H r B n s : Nat} {e : TypeId} {l : List UInt8} {bad : Nat} {w w' : World} {v : Value} {xs : List Value} (t : RdTo H r l bad w w') (h : w.ownsRow B e s v n xs) (f : ∀ g, v.ownBlock = some g → OffR r g w) : w'.ownsRow B e s v n xs := by
  refine ⟨h.1, ?_⟩
  rcases h.2 with h0 | ⟨g, cap, cur, rfl, hB, hb, rest⟩
  · exact .inl h0
  · exact .inr ⟨g, cap, cur, rfl, hB, ((t.keeps g (f g rfl)).1).trans hb, rest⟩
theorem RdTo.set {H r g : Nat} {l : List UInt8} {bad : Nat} {w wr : World} (t : RdTo H r l bad w wr) (hH : H ≤ w.heap.size) (hg : w.heap.size ≤ g) (ho : OffR r g wr) (j : Nat) (v : Value) : RdTo H r l bad w (wr.setCell ⟨g, j, none⟩ v) :=
  t.grown hH (row := some g) ⟨rfl, rfl, rfl, by simp [World.setCell], fun k _ hk => heap_setCell_other wr ⟨g, j, none⟩ k v (fun e => hk (by rw [e]))⟩ (fun g' e => by injection e with e; subst e; exact ⟨hg, ho⟩)
theorem OffR.set {r g g2 j : Nat} {w : World} (h : OffR r g w) (hne : g2 ≠ r) (v : Value) : OffR r g (w.setCell ⟨g2, j, none⟩ v) := ⟨h.1, by simpa [World.setCell] using h.2⟩
theorem RdTo.bput {H r g : Nat} {l : List UInt8} {bad : Nat} {w wr : World} (t : RdTo H r l bad w wr) (hH : H ≤ w.heap.size) (hg : w.heap.size ≤ g) (ho : OffR r g wr) (x y z u : Value) : RdTo H r l bad w (Cd.bput wr g x y z u) := by
  have h1 := ho.set (j := 0) ho.1 x
  have h2 := h1.set (j := 1) ho.1 y
  have h3 := h2.set (j := 2) ho.1 z
  exact (((t.set hH hg ho 0 x).set hH hg h1 1 y).set hH hg h2 2 z).set hH hg h3 3 u
theorem OffR.bput {r g g2 : Nat} {w : World} (h : OffR r g w) (hne : g2 ≠ r) (x y z u : Value) : OffR r g (Cd.bput w g2 x y z u) :=
  (((h.set (j := 0) hne x).set (j := 1) hne y).set (j := 2) hne z).set (j := 3) hne u
theorem RdTo.bv {H r g : Nat} {l : List UInt8} {bad : Nat} {w w' : World} {a b c d : Value} (t : RdTo H r l bad w w') (h : Cd.BV w g a b c d) (f : OffR r g w) : Cd.BV w' g a b c d ∧ OffR r g w' := t.box h f

/-- What the document's reading comes to, beside the program's: the same error; and where there is none, the same. -/
def Sim {α : Type} (X : Rs α) (y : α) (l : List UInt8) (b : Nat) : Prop := b = X.2.2 ∧ (b = 0 → y = X.1 ∧ l = X.2.1)
theorem Sim.same {α : Type} (X : Rs α) : Sim X X.1 X.2.1 X.2.2 := ⟨rfl, fun _ => ⟨rfl, rfl⟩⟩
/-- An error stays. -/
def Keeps {α : Type} (p : List UInt8 → Nat → Rs α) : Prop := ∀ l b, b ≠ 0 → (p l b).2.2 = b
theorem rdG_keep {α : Type} (z : α) (d : α × Nat × Nat) (l : List UInt8) (b : Nat) (h : b ≠ 0) : rdG z d l b = (z, l, b) := by unfold rdG; rw [if_pos h]
theorem keeps_num : Keeps pNum := fun l b h => by unfold pNum; rw [rdG_keep _ _ _ _ h]
theorem keeps_text (m : Int) : Keeps (pText m) := fun l b h => by unfold pText; rw [rdG_keep _ _ _ _ h]
theorem keeps_small (m : Int) : Keeps (pSmall m) := fun l b h => by unfold pSmall; rw [rdG_keep _ _ _ _ h]
theorem keeps_val : Keeps pVal := fun l b h => by unfold pVal pByte; rw [rdG_keep _ _ _ _ h]; rfl
theorem keeps_all {α : Type} (f : List UInt8 → Nat → Rs α) (m : Int) : Keeps (pAll f m) := fun l b h => by
  unfold pAll pSmall
  rw [rdG_keep _ _ _ _ h]
  rfl
/-- The next reading, in step. -/
theorem Sim.next {α β : Type} {X : Rs α} {y : α} {l l2 : List UInt8} {b b2 : Nat} {p : List UInt8 → Nat → Rs β} {z : β} (h : Sim X y l b) (hk : Keeps p) (g : Sim (p l b) z l2 b2) : Sim (p X.2.1 X.2.2) z l2 b2 := by
  obtain ⟨h1, h2⟩ := h
  by_cases hb : b = 0
  · obtain ⟨_, rfl⟩ := h2 hb
    subst h1
    exact g
  · refine ⟨?_, fun h0 => ?_⟩
    · rw [g.1, hk l b hb, ← h1, hk _ b hb]
    · exact absurd (by rw [← hk l b hb, ← g.1]; exact h0) hb
end Go.Proofs.Ytkdhchdhgmaolaa.Dd

namespace Go.Proofs.Ytkdhchdhgmaolaa.Dd
open Go.RowKit
open Pk Va
open Cd (dV dV_get NumsAt.of_block NumsAt.set info_pt infoV)
set_option linter.unusedVariables false
set_option linter.unusedSimpArgs false

structure VRow (B r : Nat) (w : World) (q : Option Addr) (d : List (V × Option Addr × Nat)) (cap : Nat) : Prop where
  own : w.ownsRow B 25 4 (.slice q d.length cap) d.length (dV d)
  nums : ∀ y ∈ d, NumsAt w y.2.1 y.1.list ∧ ∀ g off, y.2.1 = some ⟨g, off, none⟩ → y.1.list ≠ [] → OffR r g w ∧ some g ≠ (Value.slice q d.length cap).ownBlock ∧ B ≤ g
theorem ne_val : 25 ≠ 87 ∧ True := by decide
theorem VRow.nil (B r : Nat) (w : World) : VRow B r w none [] 0 := ⟨World.ownsRow_nil _ _ _ _, fun y hy => by simp at hy⟩
theorem VRow.keep {B H r R cap : Nat} {l l' : List UInt8} {b b' : Nat} {w w' : World} {q : Option Addr} {d : List (V × Option Addr × Nat)} (h : VRow B r w q d cap) (hR : RdrR H r R l b w) (t : RdTo H r l' b' w w') : VRow B r w' q d cap := by
  refine ⟨own_keep t h.own (off_row hR h.own ne_val.1 ne_val.2), fun y hy => ?_⟩
  obtain ⟨h1, h2⟩ := h.nums y hy
  refine ⟨NumsAt.of_block h1 t.size (fun g off e hn => (t.keeps g (h2 g off e hn).1).1), fun g off e hn => ⟨(t.keeps g (h2 g off e hn).1).2, (h2 g off e hn).2⟩⟩
theorem VRow.below {B H r R cap : Nat} {l : List UInt8} {b : Nat} {w w' : World} {q : Option Addr} {d : List (V × Option Addr × Nat)} (h : VRow B r w q d cap) (hR : RdrR H r R l b w) (k : Below w.heap.size w w') : VRow B r w' q d cap := h.keep hR (RdTo.of_below hR k)
/-- The row's values. -/
theorem VRow.vals {B r cap : Nat} {w : World} {q : Option Addr} {d : List (V × Option Addr × Nat)} (h : VRow B r w q d cap) : ValsAt w q (d.map (·.1)) := fun i hi => by
  have hi2 : i < d.length := by simpa using hi
  rcases h.own.2 with ⟨_, h0⟩ | ⟨g, cap2, cur, e, hB, hg, r⟩
  · omega
  · injection e with e1 _ _
    subst e1
    have hadd : ∀ j, (⟨g, 0, none⟩ : Addr).add j = ⟨g, j, none⟩ := fun j => by unfold Addr.add; split <;> simp_all
    obtain ⟨h0, h1, h2, h3⟩ := dV_get d i hi2
    have c := fun j u (hu : (dV d)[j]? = some u) => World.ownsRow.cells h.own (g := g) rfl j u hu
    have hx : (d.map (·.1))[i] = d[i].1 := by simp
    refine ⟨g, 0, rfl, ?_, (Array.getElem?_eq_some_iff.1 hg).1⟩
    rw [hx]
    refine ⟨d[i].2.1, d[i].2.2, ?_, ?_, ?_, ?_, (h.nums _ (List.getElem_mem hi2)).1⟩
    · have := c _ _ h0; rw [hadd] at this; rw [Nat.zero_add]; exact this
    · have := c _ _ h1; rw [hadd] at this; rw [Nat.zero_add]; exact this
    · have := c _ _ h2; rw [hadd] at this; rw [Nat.zero_add]; exact this
    · have := c _ _ h3; rw [hadd] at this; rw [Nat.zero_add]; exact this
theorem VRow.app {B H r R cap : Nat} {l : List UInt8} {b : Nat} {w : World} {q : Option Addr} {d : List (V × Option Addr × Nat)} (h : VRow B r w q d cap) (hR : RdrR H r R l b w) (hB : B ≤ w.heap.size) (hn : d.length ≤ 100000) (v : V) (a : Option Addr) (c : Nat)
    (hv : NumsAt w a v.list) (hv2 : ∀ g off, a = some ⟨g, off, none⟩ → v.list ≠ [] → OffR r g w ∧ some g ≠ (Value.slice q d.length cap).ownBlock ∧ B ≤ g) (K : Nat) (hK : w.heap.size = K) :
    ∃ q' cap' w', (Builtin.append_ #[31, 31] 31 #[.slice q d.length cap, .slice (some ⟨K, 0, none⟩) 1 1]).run Try.prog (w.alloc (.cells #[.int .i64 v.kind, .int .i64 v.num, .string (S v.text), .slice a v.list.length c] 25)) = .ok (.slice q' (d.length + 1) cap') w' ∧
      VRow B r w' q' (d ++ [(v, a, c)]) cap' ∧ (w.alloc (.cells #[.int .i64 v.kind, .int .i64 v.num, .string (S v.text), .slice a v.list.length c] 25)).grownBy w' (Value.slice q d.length cap).ownBlock := by
  subst hK
  obtain ⟨i0, hi, hz0, hz1, hz2⟩ := info_pt infoV
  have kk := (Below.refl w.heap.size w).alloc (Nat.le_refl _) (.cells #[.int .i64 v.kind, .int .i64 v.num, .string (S v.text), .slice a v.list.length c] 25)
  have hnew := heap_alloc_new w (.cells #[.int .i64 v.kind, .int .i64 v.num, .string (S v.text), .slice a v.list.length c] 25)
  have hs1 : (w.alloc (.cells #[.int .i64 v.kind, .int .i64 v.num, .string (S v.text), .slice a v.list.length c] 25)).heap.size = w.heap.size + 1 := by simp
  have hR1 := hR.below kk
  have hA := h.below hR kk
  have hvA := hv.below kk
  have hv2A : ∀ g off, a = some ⟨g, off, none⟩ → v.list ≠ [] → OffR r g (w.alloc (.cells #[.int .i64 v.kind, .int .i64 v.num, .string (S v.text), .slice a v.list.length c] 25)) ∧ some g ≠ (Value.slice q d.length cap).ownBlock ∧ B ≤ g := fun g off e hn => ⟨(hv2 g off e hn).1.below kk, (hv2 g off e hn).2⟩
  generalize w.alloc (.cells #[.int .i64 v.kind, .int .i64 v.num, .string (S v.text), .slice a v.list.length c] 25) = w1 at *
  have hnews : ∀ j u, [Value.int .i64 v.kind, .int .i64 v.num, .string (S v.text), .slice a v.list.length c][j]? = some u → w1.cell? ((⟨w.heap.size, 0, none⟩ : Addr).add j) = some u := by
    intro j u hj
    have hadd : (⟨w.heap.size, 0, none⟩ : Addr).add j = ⟨w.heap.size, j, none⟩ := by unfold Addr.add; split <;> simp_all
    rw [hadd, cell_of_row _ w.heap.size j _ _ (0, 0) hnew]
    simpa using hj
  have h1 : ∀ u ∈ [Value.int .i64 v.kind, .int .i64 v.num, .string (S v.text), .slice a v.list.length c], u.oneCell' = true := by
    intro u hu
    simp only [List.mem_cons, List.not_mem_nil, or_false] at hu
    rcases hu with rfl | rfl | rfl | rfl <;> rfl
  obtain ⟨v', w', hr, h2, h3, _, h5⟩ := run_append_own_at (P := Try.prog) w1 B 31 31 25 i0 _ 4 56 Try.underlying31 hi hz0 hz1 hz2 rfl (by decide) (.slice q d.length cap) d.length (dV d) hA.own ⟨w.heap.size, 0, none⟩ 1 1 [Value.int .i64 v.kind, .int .i64 v.num, .string (S v.text), .slice a v.list.length c] rfl hnews h1 (by unfold maxLen; omega) (by omega) (by omega)
  have hlen : (d ++ [(v, a, c)]).length = d.length + 1 := by simp
  have hcs : dV (d ++ [(v, a, c)]) = dV d ++ [Value.int .i64 v.kind, .int .i64 v.num, .string (S v.text), .slice a v.list.length c] := by simp [dV]
  have hoff := off_row hR1 hA.own ne_val.1 ne_val.2
  have hrr : w'.heap[r]? = w1.heap[r]? := h3.block r hR1.lt (fun e => (hoff r e.symm).1 rfl)
  have hgo : ∀ g, OffR r g w1 → some g ≠ (Value.slice q d.length cap).ownBlock → w'.heap[g]? = w1.heap[g]? ∧ OffR r g w' ∧ some g ≠ v'.ownBlock := fun g ho hne => by
    obtain ⟨a1, a2⟩ := ho
    refine ⟨h3.block g a2 hne, ⟨a1, Nat.lt_of_lt_of_le a2 h3.size⟩, ?_⟩
    rcases h5 with h5 | h5
    · rw [h5]; exact hne
    · rw [h5]; intro e; injection e with e; omega
  rcases h2.2 with ⟨_, h0⟩ | ⟨g, cap2, cur, rfl, rr⟩
  · omega
  · refine ⟨_, _, w', hr, ⟨?_, fun y hy => ?_⟩, h3⟩
    · rw [hlen, hcs]; exact h2
    · rw [hlen]
      rcases List.mem_append.1 hy with hy | hy
      · obtain ⟨n1, n2⟩ := hA.nums y hy
        exact ⟨NumsAt.of_block n1 h3.size (fun g off e hn => (hgo g (n2 g off e hn).1 (n2 g off e hn).2.1).1), fun g off e hn => ⟨(hgo g (n2 g off e hn).1 (n2 g off e hn).2.1).2.1, (hgo g (n2 g off e hn).1 (n2 g off e hn).2.1).2.2, (n2 g off e hn).2.2⟩⟩
      · obtain rfl : y = (v, a, c) := by simpa using hy
        exact ⟨NumsAt.of_block hvA h3.size (fun g off e hn => (hgo g (hv2A g off e hn).1 (hv2A g off e hn).2.1).1), fun g off e hn => ⟨(hgo g (hv2A g off e hn).1 (hv2A g off e hn).2.1).2.1, (hgo g (hv2A g off e hn).1 (hv2A g off e hn).2.1).2.2, (hv2A g off e hn).2.2⟩⟩
theorem VRow.mono {B B' r cap : Nat} {w : World} {q : Option Addr} {d : List (V × Option Addr × Nat)} (h : VRow B r w q d cap) (hB : B' ≤ B) : VRow B' r w q d cap := by
  refine ⟨⟨h.own.1, ?_⟩, fun y hy => ⟨(h.nums y hy).1, fun g off e hn => ⟨((h.nums y hy).2 g off e hn).1, ((h.nums y hy).2 g off e hn).2.1, Nat.le_trans hB ((h.nums y hy).2 g off e hn).2.2⟩⟩⟩
  rcases h.own.2 with h0 | ⟨g, cap2, cur, e, hb, rest⟩
  · exact .inl h0
  · exact .inr ⟨g, cap2, cur, e, Nat.le_trans hB hb, rest⟩
/-- A row, behind what was written into an elder block that is not the reader's. -/
theorem VRow.set {B r cap g j : Nat} {w : World} {q : Option Addr} {d : List (V × Option Addr × Nat)} (h : VRow B r w q d cap) (hg : g < B) (hr : g ≠ r) (v : Value) : VRow B r (w.setCell ⟨g, j, none⟩ v) q d cap := by
  refine ⟨⟨h.own.1, ?_⟩, fun y hy => ⟨NumsAt.set (h.nums y hy).1 g (fun b off e hn => by have := ((h.nums y hy).2 b off e hn).2.2; omega) j v, fun g2 off e hn => ⟨((h.nums y hy).2 g2 off e hn).1.set hr v, ((h.nums y hy).2 g2 off e hn).2⟩⟩⟩
  rcases h.own.2 with h0 | ⟨g2, cap2, cur, e, hb, hc, rest⟩
  · exact .inl h0
  · exact .inr ⟨g2, cap2, cur, e, hb, (heap_setCell_other w ⟨g, j, none⟩ g2 v (show g2 ≠ g by omega)).trans hc, rest⟩
end Go.Proofs.Ytkdhchdhgmaolaa.Dd

namespace Go.Proofs.Ytkdhchdhgmaolaa.Dd
open Go.RowKit
open Pk Va
open Cd (dV dV_get NumsAt.of_block NumsAt.set info_pt infoV MK dM infoM Rs MailP)
set_option linter.unusedVariables false
set_option linter.unusedSimpArgs false

/-- Block g0 is none of a row's. -/
def NoBlk (g0 : Nat) (q : Option Addr) (d : List (V × Option Addr × Nat)) (cap : Nat) : Prop :=
  some g0 ≠ (Value.slice q d.length cap).ownBlock ∧ ∀ y ∈ d, ∀ g off, y.2.1 = some ⟨g, off, none⟩ → y.1.list ≠ [] → g ≠ g0
theorem NoBlk.lt {B r cap g0 : Nat} {w : World} {q : Option Addr} {d : List (V × Option Addr × Nat)} (h : VRow B r w q d cap) (hg : g0 < B) : NoBlk g0 q d cap :=
  ⟨fun e => by have := (World.ownsRow.lt h.own g0 e.symm).1; omega, fun y hy g off e hn => by have := ((h.nums y hy).2 g off e hn).2.2; omega⟩
theorem NoBlk.ge {B r cap g0 : Nat} {w : World} {q : Option Addr} {d : List (V × Option Addr × Nat)} (h : VRow B r w q d cap) (hg : w.heap.size ≤ g0) : NoBlk g0 q d cap :=
  ⟨fun e => by have := (World.ownsRow.lt h.own g0 e.symm).2; omega, fun y hy g off e hn => by have := ((h.nums y hy).2 g off e hn).1.2; omega⟩
theorem VRow.grown {B r cap : Nat} {w w' : World} {q : Option Addr} {d : List (V × Option Addr × Nat)} {row : Option Nat} (h : VRow B r w q d cap) (g : w.grownBy w' row) (hr : ∀ g0, row = some g0 → NoBlk g0 q d cap ∧ g0 ≠ r) (hlt : r < w.heap.size) : VRow B r w' q d cap := by
  have hrr : w'.heap[r]? = w.heap[r]? := g.block r hlt (fun e => (hr r e.symm).2 rfl)
  have hb : ∀ y ∈ d, ∀ b off, y.2.1 = some ⟨b, off, none⟩ → y.1.list ≠ [] → w'.heap[b]? = w.heap[b]? := fun y hy b off e hn => g.block b ((h.nums y hy).2 b off e hn).1.2 (fun e2 => (hr b e2.symm).1.2 y hy b off e hn rfl)
  refine ⟨⟨h.own.1, ?_⟩, fun y hy => ⟨NumsAt.of_block (h.nums y hy).1 g.size (hb y hy), fun b off e hn => ?_⟩⟩
  · rcases h.own.2 with h0 | ⟨b, cap2, cur, e, hB, hc, rest⟩
    · exact .inl h0
    · have hlt2 : b < w.heap.size := lt_of_heapV hc
      refine .inr ⟨b, cap2, cur, e, hB, (g.block b hlt2 (fun e2 => ?_)).trans hc, rest⟩
      have := (hr b e2.symm).1.1
      injection e with e3 _ _
      subst e3
      exact this rfl
  · obtain ⟨⟨a1, a2⟩, n2, n3⟩ := (h.nums y hy).2 b off e hn
    exact ⟨⟨a1, Nat.lt_of_lt_of_le a2 g.size⟩, n2, n3⟩
structure MRow (B r : Nat) (w : World) (q : Option Addr) (d : List MK) (cap : Nat) : Prop where
  own : w.ownsRow B 33 4 (.slice q d.length cap) d.length (dM d)
  rows : ∀ y ∈ d, VRow B r w y.ka y.dk y.kc ∧ VRow B r w y.fa y.df y.fc ∧ ∀ g0, (Value.slice q d.length cap).ownBlock = some g0 → NoBlk g0 y.ka y.dk y.kc ∧ NoBlk g0 y.fa y.df y.fc
theorem ne_mail : 33 ≠ 87 ∧ True := by decide
theorem MRow.nil (B r : Nat) (w : World) : MRow B r w none [] 0 := ⟨World.ownsRow_nil _ _ _ _, fun y hy => by simp at hy⟩
theorem MRow.keep {B H r R cap : Nat} {l l' : List UInt8} {b b' : Nat} {w w' : World} {q : Option Addr} {d : List MK} (h : MRow B r w q d cap) (hR : RdrR H r R l b w) (t : RdTo H r l' b' w w') : MRow B r w' q d cap :=
  ⟨own_keep t h.own (off_row hR h.own ne_mail.1 ne_mail.2), fun y hy => ⟨(h.rows y hy).1.keep hR t, (h.rows y hy).2.1.keep hR t, (h.rows y hy).2.2⟩⟩
theorem MRow.below {B H r R cap : Nat} {l : List UInt8} {b : Nat} {w w' : World} {q : Option Addr} {d : List MK} (h : MRow B r w q d cap) (hR : RdrR H r R l b w) (k : Below w.heap.size w w') : MRow B r w' q d cap := h.keep hR (RdTo.of_below hR k)
theorem MRow.mono {B B' r cap : Nat} {w : World} {q : Option Addr} {d : List MK} (h : MRow B r w q d cap) (hB : B' ≤ B) : MRow B' r w q d cap := by
  refine ⟨⟨h.own.1, ?_⟩, fun y hy => ⟨(h.rows y hy).1.mono hB, (h.rows y hy).2.1.mono hB, (h.rows y hy).2.2⟩⟩
  rcases h.own.2 with h0 | ⟨g, cap2, cur, e, hb, rest⟩
  · exact .inl h0
  · exact .inr ⟨g, cap2, cur, e, Nat.le_trans hB hb, rest⟩
theorem MRow.app {B H r R cap : Nat} {l : List UInt8} {b : Nat} {w : World} {q : Option Addr} {d : List MK} (h : MRow B r w q d cap) (hR : RdrR H r R l b w) (hB : B ≤ w.heap.size) (hn : d.length ≤ 100000) (y : MK)
    (hk : VRow B r w y.ka y.dk y.kc) (hf : VRow B r w y.fa y.df y.fc) (hno : ∀ g0, (Value.slice q d.length cap).ownBlock = some g0 → NoBlk g0 y.ka y.dk y.kc ∧ NoBlk g0 y.fa y.df y.fc) (K : Nat) (hK : w.heap.size = K) :
    ∃ q' cap' w', (Builtin.append_ #[39, 39] 39 #[.slice q d.length cap, .slice (some ⟨K, 0, none⟩) 1 1]).run Try.prog (w.alloc (.cells #[.int .i64 y.id, .string (S y.chan), .slice y.ka y.dk.length y.kc, .slice y.fa y.df.length y.fc] 33)) = .ok (.slice q' (d.length + 1) cap') w' ∧
      MRow B r w' q' (d ++ [y]) cap' ∧ (w.alloc (.cells #[.int .i64 y.id, .string (S y.chan), .slice y.ka y.dk.length y.kc, .slice y.fa y.df.length y.fc] 33)).grownBy w' (Value.slice q d.length cap).ownBlock := by
  subst hK
  obtain ⟨i0, hi, hz0, hz1, hz2⟩ := info_pt infoM
  have kk := (Below.refl w.heap.size w).alloc (Nat.le_refl _) (.cells #[.int .i64 y.id, .string (S y.chan), .slice y.ka y.dk.length y.kc, .slice y.fa y.df.length y.fc] 33)
  have hnew := heap_alloc_new w (.cells #[.int .i64 y.id, .string (S y.chan), .slice y.ka y.dk.length y.kc, .slice y.fa y.df.length y.fc] 33)
  have hs1 : (w.alloc (.cells #[.int .i64 y.id, .string (S y.chan), .slice y.ka y.dk.length y.kc, .slice y.fa y.df.length y.fc] 33)).heap.size = w.heap.size + 1 := by simp
  have hR1 := hR.below kk
  have hA := h.below hR kk
  have hk1 := hk.below hR kk
  have hf1 := hf.below hR kk
  generalize w.alloc (.cells #[.int .i64 y.id, .string (S y.chan), .slice y.ka y.dk.length y.kc, .slice y.fa y.df.length y.fc] 33) = w1 at *
  have hnews : ∀ j u, y.cells[j]? = some u → w1.cell? ((⟨w.heap.size, 0, none⟩ : Addr).add j) = some u := by
    intro j u hj
    have hadd : (⟨w.heap.size, 0, none⟩ : Addr).add j = ⟨w.heap.size, j, none⟩ := by unfold Addr.add; split <;> simp_all
    rw [hadd, cell_of_row _ w.heap.size j _ _ (0, 0) hnew]
    simpa [MK.cells] using hj
  have h1 : ∀ u ∈ y.cells, u.oneCell' = true := by
    intro u hu
    simp only [MK.cells, List.mem_cons, List.not_mem_nil, or_false] at hu
    rcases hu with rfl | rfl | rfl | rfl <;> rfl
  obtain ⟨v', w', hr, h2, h3, _, h5⟩ := run_append_own_at (P := Try.prog) w1 B 39 39 33 i0 _ 4 72 Try.underlying39 hi hz0 hz1 hz2 rfl (by decide) (.slice q d.length cap) d.length (dM d) hA.own ⟨w.heap.size, 0, none⟩ 1 1 y.cells rfl hnews h1 (by unfold maxLen; omega) (by omega) (by omega)
  have hlen : (d ++ [y]).length = d.length + 1 := by simp
  have hcs : dM (d ++ [y]) = dM d ++ y.cells := by simp [dM]
  have hoff := off_row hR1 hA.own ne_mail.1 ne_mail.2
  have hrow : ∀ (p : Option Addr) e c, VRow B r w1 p e c → (∀ g0, (Value.slice q d.length cap).ownBlock = some g0 → NoBlk g0 p e c) → VRow B r w' p e c ∧ ∀ g0, v'.ownBlock = some g0 → NoBlk g0 p e c := fun p e c hv hn => by
    refine ⟨hv.grown h3 (fun g0 e0 => ⟨hn g0 e0, (hoff g0 e0).1⟩) hR1.lt, fun g0 e0 => ?_⟩
    rcases h5 with h5 | h5
    · rw [h5] at e0; exact hn g0 e0
    · rw [h5] at e0; injection e0 with e0; exact NoBlk.ge hv (by omega)
  rcases h2.2 with ⟨_, h0⟩ | ⟨g, cap2, cur, rfl, rr⟩
  · omega
  · refine ⟨_, _, w', hr, ⟨?_, fun z hz => ?_⟩, h3⟩
    · rw [hlen, hcs]; exact h2
    · rw [hlen]
      rcases List.mem_append.1 hz with hz | hz
      · obtain ⟨n1, n2, n3⟩ := hA.rows z hz
        obtain ⟨k1, k2⟩ := hrow _ _ _ n1 (fun g0 e0 => (n3 g0 e0).1)
        obtain ⟨k3, k4⟩ := hrow _ _ _ n2 (fun g0 e0 => (n3 g0 e0).2)
        exact ⟨k1, k3, fun g0 e0 => ⟨k2 g0 e0, k4 g0 e0⟩⟩
      · obtain rfl : z = y := by simpa using hz
        obtain ⟨k1, k2⟩ := hrow _ _ _ hk1 (fun g0 e0 => (hno g0 e0).1)
        obtain ⟨k3, k4⟩ := hrow _ _ _ hf1 (fun g0 e0 => (hno g0 e0).2)
        exact ⟨k1, k3, fun g0 e0 => ⟨k2 g0 e0, k4 g0 e0⟩⟩
end Go.Proofs.Ytkdhchdhgmaolaa.Dd

namespace Go.Proofs.Ytkdhchdhgmaolaa.Dd
open Go.RowKit
open Pk Va
open Cd (pByte pNum pTruth pText pSmall pSym pVal pLoop pAll pRej Rs BV bput res_bv)
set_option linter.unusedVariables false
set_option linter.unusedSimpArgs false

theorem drAt_pos {w : World} {g : Nat} {l : List UInt8} {bad : Nat} (h : RdD w g l bad) : w.cell? ⟨g, 2, none⟩ = some (.int .i64 (bad : Int)) := by
  obtain ⟨b, a, h1, _⟩ := h.is
  exact h1.c2
theorem drAt_fz {w : World} {g : Nat} {l : List UInt8} {bad : Nat} (h : RdD w g l bad) (j : Nat) : w.frozen? ⟨g, j, none⟩ = false := by
  obtain ⟨b, a, h1, _⟩ := h.is
  exact h1.f0 j
def badF (b : Nat) : Nat := if b = 0 then 4 else b
set_option maxRecDepth 100000 in
theorem form_d (H r : Nat) (l : List UInt8) (bad : Nat) (w : World) (h : RdrR H r r l bad w) :
    Calls Try.prog 79 #[.pointer (some ⟨r, 0, none⟩)] w fun e w' => e = .returned (.tuple #[]) ∧ RdTo H r l (badF bad) w w' := by
  have c2 := drAt_pos h.rd
  have f2 := drAt_fz h.rd 2
  have HH := Lib.hid h
  by_cases hb : bad = 0
  · subst hb
    obtain ⟨b, a, h1, h2, h3, h4⟩ := h.rd.is
    have HT := Lib.hid (h.step (rdd (h1.set2 4) h2 h3 h4 (by omega)) (Only.set r w 2 (.int .i64 ((4 : Nat) : Int)))).2
    clear h h1
    go_enter Try.func79, Try.ntmps79
    go_wp2_with fail
    go_end0
    exact ⟨rfl, HT.out⟩
  · have h3 := (err_ne bad hb).1
    have h4 := (err_ne bad hb).2
    have hbf : badF bad = bad := by unfold badF; rw [if_neg hb]
    rw [hbf]
    clear h hb
    go_enter Try.func79, Try.ntmps79
    go_wp2_with fail
    go_end0
    exact ⟨rfl, RdTo.of_below HH.out (Below.refl _ _)⟩
theorem pText_len (m : Nat) (l : List UInt8) (b : Nat) : (pText m l b).1.length ≤ m := by
  unfold pText rdG
  split
  · simp
  · split
    · simp
    · rename_i h1 h2
      unfold decX at h2 ⊢
      split
      · simp
      · split
        · simp
        · simp only [List.length_take]
          unfold decS
          split
          · simp
          · split
            · simp
            · simp only; omega

/-- What a read value leaves. -/
def ValD (H r : Nat) (X : Rs V) (w : World) (e : Ending) (w' : World) : Prop :=
  ∃ q cap v l' b', e = .returned (valC v q cap) ∧ Sim X v l' b' ∧ RdTo H r l' b' w w' ∧ NumsAt w' q v.list ∧ ∀ g off, q = some ⟨g, off, none⟩ → v.list ≠ [] → w.heap.size ≤ g ∧ OffR r g w'

set_option maxRecDepth 100000 in
set_option maxHeartbeats 8000000 in
theorem value_de (H r : Nat) (l : List UInt8) (bad : Nat) (w : World) (h : RdrR H r r l bad w) (k : Nat) (l1 : List UInt8) (b1 : Nat) (hy : pByte l bad = (k, l1, b1)) (hb1 : b1 ≠ 0) :
    Calls Try.prog 34 #[.pointer (some ⟨r, 0, none⟩)] w fun e w' => ValD H r (pVal l bad) w e w' := by
  have hk : k = 0 := by
    unfold pByte rdG at hy
    split at hy
    · exact (Prod.mk.inj hy).1.symm
    · split at hy
      · exact (Prod.mk.inj hy).1.symm
      · exact absurd (Prod.mk.inj (Prod.mk.inj hy).2).2.symm hb1
  subst hk
  have hX : pVal l bad = (⟨0, 0, [], []⟩, l1, b1) := by unfold pVal; simp only [hy]; rfl
  rw [hX]
  have h3e := (err_ne b1 hb1).1
  clear hX hb1
  have kk := (Below.refl w.heap.size w).alloc (Nat.le_refl _) (.cells #[.int .i64 0, .int .i64 0, .string ⟨#[]⟩, .slice none 0 0] 25)
  have hR0 := h.below kk
  have hz0 : BV (w.alloc (.cells #[.int .i64 0, .int .i64 0, .string ⟨#[]⟩, .slice none 0 0] 25)) w.heap.size (.int .i64 0) (.int .i64 0) (.string ⟨#[]⟩) (.slice none 0 0) := heap_alloc_new w _
  have HFZ := Lib.hid (h.off_new (.cells #[.int .i64 0, .int .i64 0, .string ⟨#[]⟩, .slice none 0 0] 25))
  have HC := Lib.hid (dByte_any r l bad _ hR0.rd)
  unfold pByte at hy
  rw [hy] at HC
  simp only at HC
  have HT0 := Lib.hid (RdTo.of_below h kk)
  have HR0 := Lib.hid hR0
  have HZ0 := Lib.hid hz0
  have HH := Lib.hid h.size
  clear h kk hR0 hz0 hy
  go_enter Try.func34, Try.ntmps34
  go_wp2_with fail
  refine HC.out.mono ?_
  rintro e w1 ⟨rfl, r1, o1⟩
  obtain ⟨hR1, t1⟩ := HR0.out.step r1 o1
  have ka := (Below.refl w1.heap.size w1).alloc (Nat.le_refl _) (.cells #[.int .i64 0, .int .i64 0, .string ⟨#[]⟩, .slice none 0 0] 25)
  have hR2 := hR1.below ka
  have c2 := drAt_pos hR2.rd
  obtain ⟨hz1, fz1⟩ := t1.bv HZ0.out HFZ.out
  have hz2 : BV (w1.alloc (.cells #[.int .i64 0, .int .i64 0, .string ⟨#[]⟩, .slice none 0 0] 25)) w.heap.size (.int .i64 0) (.int .i64 0) (.string ⟨#[]⟩) (.slice none 0 0) := (ka.block _ hz1.lt).trans hz1
  have HFZ2 := Lib.hid (fz1.below ka)
  have HFV2 := Lib.hid (hR1.off_new (.cells #[.int .i64 0, .int .i64 0, .string ⟨#[]⟩, .slice none 0 0] 25))
  have hv2 : BV (w1.alloc (.cells #[.int .i64 0, .int .i64 0, .string ⟨#[]⟩, .slice none 0 0] 25)) w1.heap.size (.int .i64 0) (.int .i64 0) (.string ⟨#[]⟩) (.slice none 0 0) := heap_alloc_new w1 _
  have HZV := Lib.hid (show w.heap.size < w1.heap.size from hz1.lt)
  have HT2 := Lib.hid ((HT0.out.trans t1).trans (RdTo.of_below hR1 ka))
  have HR2 := Lib.hid hR2
  have HZ2 := Lib.hid hz2
  have HV2 := Lib.hid hv2
  clear r1 o1 hR1 t1 ka hR2 hz1 fz1 hz2 hv2
  have hzE := HZ2.out
  have hvE := HV2.out
  have HTE := Lib.hid (HT2.out.bput HH.out (Nat.le_refl _) HFZ2.out (.int .i64 0) (.int .i64 0) (.string ⟨#[]⟩) (.slice none 0 0))
  have z0 := hzE.c0
  have z1 := hzE.c1
  have z2 := hzE.c2
  have z3 := hzE.c3
  have fz := hzE.fz
  have v0 := hvE.c0
  have v1 := hvE.c1
  have v2 := hvE.c2
  have v3 := hvE.c3
  have HP := Lib.hid (hzE.put (.int .i64 0) (.int .i64 0) (.string ⟨#[]⟩) (.slice none 0 0))
  clear hzE hvE
  go_wp2_with fail
  exact bodyPost_ret (res_bv rfl _ _ w.heap.size _ _ _ _ rfl HP.out) rfl ⟨none, 0, ⟨0, 0, [], []⟩, _, _, rfl, Sim.same _, HTE.out, fun i hi => absurd hi (by simp), fun _ _ _ h => absurd rfl h⟩

set_option maxRecDepth 100000 in
set_option maxHeartbeats 8000000 in
theorem value_d0 (H r : Nat) (l : List UInt8) (bad : Nat) (w : World) (h : RdrR H r r l bad w) (k : Nat) (l1 : List UInt8) (b1 : Nat) (hy : pByte l bad = (k, l1, b1)) (hb1 : b1 = 0) (hk : k = 0) :
    Calls Try.prog 34 #[.pointer (some ⟨r, 0, none⟩)] w fun e w' => ValD H r (pVal l bad) w e w' := by
  subst hb1 hk
  have hX : pVal l bad = (⟨0, 0, [], []⟩, l1, 0) := by unfold pVal; simp only [hy]; rfl
  rw [hX]
  clear hX
  have kk := (Below.refl w.heap.size w).alloc (Nat.le_refl _) (.cells #[.int .i64 0, .int .i64 0, .string ⟨#[]⟩, .slice none 0 0] 25)
  have hR0 := h.below kk
  have hz0 : BV (w.alloc (.cells #[.int .i64 0, .int .i64 0, .string ⟨#[]⟩, .slice none 0 0] 25)) w.heap.size (.int .i64 0) (.int .i64 0) (.string ⟨#[]⟩) (.slice none 0 0) := heap_alloc_new w _
  have HFZ := Lib.hid (h.off_new (.cells #[.int .i64 0, .int .i64 0, .string ⟨#[]⟩, .slice none 0 0] 25))
  have HC := Lib.hid (dByte_any r l bad _ hR0.rd)
  unfold pByte at hy
  rw [hy] at HC
  simp only at HC
  have HT0 := Lib.hid (RdTo.of_below h kk)
  have HR0 := Lib.hid hR0
  have HZ0 := Lib.hid hz0
  have HH := Lib.hid h.size
  clear h kk hR0 hz0 hy
  go_enter Try.func34, Try.ntmps34
  go_wp2_with fail
  refine HC.out.mono ?_
  rintro e w1 ⟨rfl, r1, o1⟩
  obtain ⟨hR1, t1⟩ := HR0.out.step r1 o1
  have ka := (Below.refl w1.heap.size w1).alloc (Nat.le_refl _) (.cells #[.int .i64 0, .int .i64 0, .string ⟨#[]⟩, .slice none 0 0] 25)
  have hR2 := hR1.below ka
  have c2 := drAt_pos hR2.rd
  obtain ⟨hz1, fz1⟩ := t1.bv HZ0.out HFZ.out
  have hz2 : BV (w1.alloc (.cells #[.int .i64 0, .int .i64 0, .string ⟨#[]⟩, .slice none 0 0] 25)) w.heap.size (.int .i64 0) (.int .i64 0) (.string ⟨#[]⟩) (.slice none 0 0) := (ka.block _ hz1.lt).trans hz1
  have HFZ2 := Lib.hid (fz1.below ka)
  have HFV2 := Lib.hid (hR1.off_new (.cells #[.int .i64 0, .int .i64 0, .string ⟨#[]⟩, .slice none 0 0] 25))
  have hv2 : BV (w1.alloc (.cells #[.int .i64 0, .int .i64 0, .string ⟨#[]⟩, .slice none 0 0] 25)) w1.heap.size (.int .i64 0) (.int .i64 0) (.string ⟨#[]⟩) (.slice none 0 0) := heap_alloc_new w1 _
  have HZV := Lib.hid (show w.heap.size < w1.heap.size from hz1.lt)
  have HT2 := Lib.hid ((HT0.out.trans t1).trans (RdTo.of_below hR1 ka))
  have HR2 := Lib.hid hR2
  have HZ2 := Lib.hid hz2
  have HV2 := Lib.hid hv2
  clear r1 o1 hR1 t1 ka hR2 hz1 fz1 hz2 hv2
  have hzA := HZ2.out
  have hvA := HV2.out
  have HRT := Lib.hid (fun W => refRight_any ⟨0, 0, [], []⟩ ⟨by simp, by simp⟩ none 0 W)
  rw [show rightB ⟨0, 0, [], []⟩ = true from by simp [rightB]] at HRT
  unfold valC at HRT
  simp only [List.length_nil] at HRT
  have v0 := hvA.c0
  have v1 := hvA.c1
  have v2 := hvA.c2
  have v3 := hvA.c3
  go_wp2_with fail
  refine (HRT.out _).mono ?_
  rintro e w6 ⟨rfl, b6⟩
  have hzE := (b6.block _ hzA.lt).trans hzA
  have hvE := (b6.block _ hvA.lt).trans hvA
  have HT6 := Lib.hid (HT2.out.trans (RdTo.of_below (H := H) (R := r) HT2.out.rdr b6))
  have FZ6 := Lib.hid (HFZ2.out.below b6)
  have FV6 := Lib.hid (HFV2.out.below b6)
  clear v0 v1 v2 v3 b6
  change BV w6 w.heap.size _ _ _ _ at hzE
  change BV w6 w1.heap.size _ _ _ _ at hvE
  have HTE := Lib.hid (HT6.out.bput HH.out (Nat.le_refl _) FZ6.out (.int .i64 0) (.int .i64 0) (.string ⟨#[]⟩) (.slice none 0 0))
  have z0 := hzE.c0
  have z1 := hzE.c1
  have z2 := hzE.c2
  have z3 := hzE.c3
  have fz := hzE.fz
  have v0 := hvE.c0
  have v1 := hvE.c1
  have v2 := hvE.c2
  have v3 := hvE.c3
  have HP := Lib.hid (hzE.put (.int .i64 0) (.int .i64 0) (.string ⟨#[]⟩) (.slice none 0 0))
  clear hzE hvE
  go_wp2_with fail
  exact bodyPost_ret (res_bv rfl _ _ w.heap.size _ _ _ _ rfl HP.out) rfl ⟨none, 0, ⟨0, 0, [], []⟩, _, _, rfl, Sim.same (((⟨0, 0, [], []⟩ : V), l1, 0) : Rs V), HTE.out, fun i hi => absurd hi (by simp), fun _ _ _ h => absurd rfl h⟩

set_option maxRecDepth 100000 in
set_option maxHeartbeats 8000000 in
theorem value_d6 (H r : Nat) (l : List UInt8) (bad : Nat) (w : World) (h : RdrR H r r l bad w) (k : Nat) (l1 : List UInt8) (b1 : Nat) (hy : pByte l bad = (k, l1, b1)) (hb1 : b1 = 0) (hk : 6 ≤ k) :
    Calls Try.prog 34 #[.pointer (some ⟨r, 0, none⟩)] w fun e w' => ValD H r (pVal l bad) w e w' := by
  subst hb1
  have hX : pVal l bad = (⟨(k : Int), 0, [], []⟩, [2], 4) := by
    unfold pVal
    simp only [hy]
    rw [if_neg (by omega), if_neg (by omega), if_neg (by omega), if_neg (by omega), if_neg (by omega), if_neg (by omega)]
    rfl
  rw [hX]
  have hk1 : ((k : Int) == 1) = false := by simp; omega
  have hk2 : ((k : Int) == 2) = false := by simp; omega
  have hk3 : ((k : Int) == 3) = false := by simp; omega
  have hk4 : ((k : Int) == 4) = false := by simp; omega
  have hk5 : ((k : Int) == 5) = false := by simp; omega
  have hrk : rightB ⟨(k : Int), 0, [], []⟩ = false := by simp [rightB]; omega
  clear hX
  have kk := (Below.refl w.heap.size w).alloc (Nat.le_refl _) (.cells #[.int .i64 0, .int .i64 0, .string ⟨#[]⟩, .slice none 0 0] 25)
  have hR0 := h.below kk
  have hz0 : BV (w.alloc (.cells #[.int .i64 0, .int .i64 0, .string ⟨#[]⟩, .slice none 0 0] 25)) w.heap.size (.int .i64 0) (.int .i64 0) (.string ⟨#[]⟩) (.slice none 0 0) := heap_alloc_new w _
  have HFZ := Lib.hid (h.off_new (.cells #[.int .i64 0, .int .i64 0, .string ⟨#[]⟩, .slice none 0 0] 25))
  have HC := Lib.hid (dByte_any r l bad _ hR0.rd)
  unfold pByte at hy
  rw [hy] at HC
  simp only at HC
  have HT0 := Lib.hid (RdTo.of_below h kk)
  have HR0 := Lib.hid hR0
  have HZ0 := Lib.hid hz0
  have HH := Lib.hid h.size
  clear h kk hR0 hz0 hy
  go_enter Try.func34, Try.ntmps34
  go_wp2_with fail
  refine HC.out.mono ?_
  rintro e w1 ⟨rfl, r1, o1⟩
  obtain ⟨hR1, t1⟩ := HR0.out.step r1 o1
  have ka := (Below.refl w1.heap.size w1).alloc (Nat.le_refl _) (.cells #[.int .i64 (k : Int), .int .i64 0, .string ⟨#[]⟩, .slice none 0 0] 25)
  have hR2 := hR1.below ka
  have c2 := drAt_pos hR2.rd
  obtain ⟨hz1, fz1⟩ := t1.bv HZ0.out HFZ.out
  have hz2 : BV (w1.alloc (.cells #[.int .i64 (k : Int), .int .i64 0, .string ⟨#[]⟩, .slice none 0 0] 25)) w.heap.size (.int .i64 0) (.int .i64 0) (.string ⟨#[]⟩) (.slice none 0 0) := (ka.block _ hz1.lt).trans hz1
  have HFZ2 := Lib.hid (fz1.below ka)
  have HFV2 := Lib.hid (hR1.off_new (.cells #[.int .i64 (k : Int), .int .i64 0, .string ⟨#[]⟩, .slice none 0 0] 25))
  have hv2 : BV (w1.alloc (.cells #[.int .i64 (k : Int), .int .i64 0, .string ⟨#[]⟩, .slice none 0 0] 25)) w1.heap.size (.int .i64 (k : Int)) (.int .i64 0) (.string ⟨#[]⟩) (.slice none 0 0) := heap_alloc_new w1 _
  have HZV := Lib.hid (show w.heap.size < w1.heap.size from hz1.lt)
  have HT2 := Lib.hid ((HT0.out.trans t1).trans (RdTo.of_below hR1 ka))
  have HR2 := Lib.hid hR2
  have HZ2 := Lib.hid hz2
  have HV2 := Lib.hid hv2
  clear r1 o1 hR1 t1 ka hR2 hz1 fz1 hz2 hv2
  have hzA := HZ2.out
  have hvA := HV2.out
  have HRT := Lib.hid (fun W => refRight_any ⟨(k : Int), 0, [], []⟩ ⟨by simp, by simp⟩ none 0 W)
  rw [show rightB ⟨(k : Int), 0, [], []⟩ = false from hrk] at HRT
  unfold valC at HRT
  simp only [List.length_nil] at HRT
  have v0 := hvA.c0
  have v1 := hvA.c1
  have v2 := hvA.c2
  have v3 := hvA.c3
  go_wp2_with fail
  refine (HRT.out _).mono ?_
  rintro e w6 ⟨rfl, b6⟩
  have hzE := (b6.block _ hzA.lt).trans hzA
  have hvE := (b6.block _ hvA.lt).trans hvA
  have HT6 := Lib.hid (HT2.out.trans (RdTo.of_below (H := H) (R := r) HT2.out.rdr b6))
  have FZ6 := Lib.hid (HFZ2.out.below b6)
  have FV6 := Lib.hid (HFV2.out.below b6)
  clear v0 v1 v2 v3 b6
  change BV w6 w.heap.size _ _ _ _ at hzE
  change BV w6 w1.heap.size _ _ _ _ at hvE
  have HZ6 := Lib.hid hzE
  have HV6 := Lib.hid hvE
  clear hzE hvE
  go_wp2_with fail
  refine (form_d H r _ _ _ HT6.out.rdr).mono ?_
  rintro e w7 ⟨rfl, t7⟩
  obtain ⟨hzE, fz7⟩ := t7.bv HZ6.out FZ6.out
  obtain ⟨hvE, _⟩ := t7.bv HV6.out FV6.out
  have HT7 := Lib.hid (HT6.out.trans t7)
  have FZ7 := Lib.hid fz7
  clear t7 fz7
  have HTE := Lib.hid (HT7.out.bput HH.out (Nat.le_refl _) FZ7.out (.int .i64 (k : Int)) (.int .i64 0) (.string ⟨#[]⟩) (.slice none 0 0))
  have z0 := hzE.c0
  have z1 := hzE.c1
  have z2 := hzE.c2
  have z3 := hzE.c3
  have fz := hzE.fz
  have v0 := hvE.c0
  have v1 := hvE.c1
  have v2 := hvE.c2
  have v3 := hvE.c3
  have HP := Lib.hid (hzE.put (.int .i64 (k : Int)) (.int .i64 0) (.string ⟨#[]⟩) (.slice none 0 0))
  clear hzE hvE
  go_wp2_with fail
  exact bodyPost_ret (res_bv rfl _ _ w.heap.size _ _ _ _ rfl HP.out) rfl ⟨none, 0, ⟨(k : Int), 0, [], []⟩, _, _, rfl, ⟨rfl, fun h => absurd h (show ¬ ((4 : Nat) = 0) by decide)⟩, HTE.out, fun i hi => absurd hi (by simp), fun _ _ _ h => absurd rfl h⟩

set_option maxRecDepth 100000 in
set_option maxHeartbeats 8000000 in
theorem value_d1 (H r : Nat) (l : List UInt8) (bad : Nat) (w : World) (h : RdrR H r r l bad w) (k : Nat) (l1 : List UInt8) (b1 : Nat) (hy : pByte l bad = (k, l1, b1)) (hb1 : b1 = 0) (hk : k = 1) :
    Calls Try.prog 34 #[.pointer (some ⟨r, 0, none⟩)] w fun e w' => ValD H r (pVal l bad) w e w' := by
  subst hb1 hk
  obtain ⟨⟨n, l2, b2⟩, hY⟩ : ∃ y, y = pNum l1 0 := ⟨_, rfl⟩
  have hX : pVal l bad = (⟨1, n, [], []⟩, l2, b2) := by unfold pVal; simp only [hy, ← hY]; rfl
  rw [hX]
  have HC2 := Lib.hid (fun W (hW : RdrR H r r l1 0 W) => dNumber_any r l1 0 W hW.rd)
  rw [show rdG 0 (decN l1) l1 0 = (n, l2, b2) from hY.symm] at HC2
  simp only at HC2
  clear hX hY
  have kk := (Below.refl w.heap.size w).alloc (Nat.le_refl _) (.cells #[.int .i64 0, .int .i64 0, .string ⟨#[]⟩, .slice none 0 0] 25)
  have hR0 := h.below kk
  have hz0 : BV (w.alloc (.cells #[.int .i64 0, .int .i64 0, .string ⟨#[]⟩, .slice none 0 0] 25)) w.heap.size (.int .i64 0) (.int .i64 0) (.string ⟨#[]⟩) (.slice none 0 0) := heap_alloc_new w _
  have HFZ := Lib.hid (h.off_new (.cells #[.int .i64 0, .int .i64 0, .string ⟨#[]⟩, .slice none 0 0] 25))
  have HC := Lib.hid (dByte_any r l bad _ hR0.rd)
  unfold pByte at hy
  rw [hy] at HC
  simp only at HC
  have HT0 := Lib.hid (RdTo.of_below h kk)
  have HR0 := Lib.hid hR0
  have HZ0 := Lib.hid hz0
  have HH := Lib.hid h.size
  clear h kk hR0 hz0 hy
  go_enter Try.func34, Try.ntmps34
  go_wp2_with fail
  refine HC.out.mono ?_
  rintro e w1 ⟨rfl, r1, o1⟩
  obtain ⟨hR1, t1⟩ := HR0.out.step r1 o1
  have ka := (Below.refl w1.heap.size w1).alloc (Nat.le_refl _) (.cells #[.int .i64 1, .int .i64 0, .string ⟨#[]⟩, .slice none 0 0] 25)
  have hR2 := hR1.below ka
  have c2 := drAt_pos hR2.rd
  obtain ⟨hz1, fz1⟩ := t1.bv HZ0.out HFZ.out
  have hz2 : BV (w1.alloc (.cells #[.int .i64 1, .int .i64 0, .string ⟨#[]⟩, .slice none 0 0] 25)) w.heap.size (.int .i64 0) (.int .i64 0) (.string ⟨#[]⟩) (.slice none 0 0) := (ka.block _ hz1.lt).trans hz1
  have HFZ2 := Lib.hid (fz1.below ka)
  have HFV2 := Lib.hid (hR1.off_new (.cells #[.int .i64 1, .int .i64 0, .string ⟨#[]⟩, .slice none 0 0] 25))
  have hv2 : BV (w1.alloc (.cells #[.int .i64 1, .int .i64 0, .string ⟨#[]⟩, .slice none 0 0] 25)) w1.heap.size (.int .i64 1) (.int .i64 0) (.string ⟨#[]⟩) (.slice none 0 0) := heap_alloc_new w1 _
  have HZV := Lib.hid (show w.heap.size < w1.heap.size from hz1.lt)
  have HT2 := Lib.hid ((HT0.out.trans t1).trans (RdTo.of_below hR1 ka))
  have HR2 := Lib.hid hR2
  have HZ2 := Lib.hid hz2
  have HV2 := Lib.hid hv2
  clear r1 o1 hR1 t1 ka hR2 hz1 fz1 hz2 hv2
  go_wp2_with fail
  refine (HC2.out _ HR2.out).mono ?_
  rintro e w3 ⟨rfl, r3, o3⟩
  obtain ⟨hR3, t3⟩ := HR2.out.step r3 o3
  obtain ⟨hz3, fz3⟩ := t3.bv HZ2.out HFZ2.out
  obtain ⟨hv3, fv3⟩ := t3.bv HV2.out HFV2.out
  have g1 := hv3.fz
  have g2 := hv3.c1
  have g3 := hv3.c2
  have HT4 := Lib.hid ((HT2.out.trans t3).set HH.out (Nat.le_of_lt HZV.out) fv3 1 (.int .i64 n))
  have hzA := hz3.other w1.heap.size 1 (by have := HZV.out; omega) (.int .i64 n)
  have hvA := hv3.set1 (.int .i64 n)
  have HF4 := Lib.hid (fz3.set (j := 1) fv3.1 (.int .i64 n))
  have HG4 := Lib.hid (fv3.set (j := 1) fv3.1 (.int .i64 n))
  clear r3 o3 hR3 t3 hz3 fz3 hv3 fv3
  have HRT := Lib.hid (fun W => refRight_any ⟨1, n, [], []⟩ ⟨by simp, by simp⟩ none 0 W)
  rw [show rightB ⟨1, n, [], []⟩ = true from by simp [rightB]] at HRT
  unfold valC at HRT
  simp only [List.length_nil] at HRT
  have v0 := hvA.c0
  have v1 := hvA.c1
  have v2 := hvA.c2
  have v3 := hvA.c3
  go_wp2_with fail
  refine (HRT.out _).mono ?_
  rintro e w6 ⟨rfl, b6⟩
  have hzE := (b6.block _ hzA.lt).trans hzA
  have hvE := (b6.block _ hvA.lt).trans hvA
  have HT6 := Lib.hid (HT4.out.trans (RdTo.of_below (H := H) (R := r) HT4.out.rdr b6))
  have FZ6 := Lib.hid (HF4.out.below b6)
  have FV6 := Lib.hid (HG4.out.below b6)
  clear v0 v1 v2 v3 b6
  change BV w6 w.heap.size _ _ _ _ at hzE
  change BV w6 w1.heap.size _ _ _ _ at hvE
  have HTE := Lib.hid (HT6.out.bput HH.out (Nat.le_refl _) FZ6.out (.int .i64 1) (.int .i64 n) (.string ⟨#[]⟩) (.slice none 0 0))
  have z0 := hzE.c0
  have z1 := hzE.c1
  have z2 := hzE.c2
  have z3 := hzE.c3
  have fz := hzE.fz
  have v0 := hvE.c0
  have v1 := hvE.c1
  have v2 := hvE.c2
  have v3 := hvE.c3
  have HP := Lib.hid (hzE.put (.int .i64 1) (.int .i64 n) (.string ⟨#[]⟩) (.slice none 0 0))
  clear hzE hvE
  go_wp2_with fail
  exact bodyPost_ret (res_bv rfl _ _ w.heap.size _ _ _ _ rfl HP.out) rfl ⟨none, 0, ⟨1, n, [], []⟩, _, _, rfl, Sim.same (((⟨1, n, [], []⟩ : V), l2, b2) : Rs V), HTE.out, fun i hi => absurd hi (by simp), fun _ _ _ h => absurd rfl h⟩

set_option maxRecDepth 100000 in
set_option maxHeartbeats 8000000 in
theorem value_d2 (H r : Nat) (l : List UInt8) (bad : Nat) (w : World) (h : RdrR H r r l bad w) (k : Nat) (l1 : List UInt8) (b1 : Nat) (hy : pByte l bad = (k, l1, b1)) (hb1 : b1 = 0) (hk : k = 2) :
    Calls Try.prog 34 #[.pointer (some ⟨r, 0, none⟩)] w fun e w' => ValD H r (pVal l bad) w e w' := by
  subst hb1 hk
  obtain ⟨⟨n, l2, b2⟩, hY⟩ : ∃ y, y = pTruth l1 0 := ⟨_, rfl⟩
  have hX : pVal l bad = (⟨2, if n = true then 1 else 0, [], []⟩, l2, b2) := by unfold pVal; simp only [hy, ← hY]; rfl
  rw [hX]
  have HC2 := Lib.hid (fun W (hW : RdrR H r r l1 0 W) => dTruth_any r l1 0 W hW.rd)
  rw [show rdG false (decT l1) l1 0 = (n, l2, b2) from hY.symm] at HC2
  simp only at HC2
  clear hX hY
  have kk := (Below.refl w.heap.size w).alloc (Nat.le_refl _) (.cells #[.int .i64 0, .int .i64 0, .string ⟨#[]⟩, .slice none 0 0] 25)
  have hR0 := h.below kk
  have hz0 : BV (w.alloc (.cells #[.int .i64 0, .int .i64 0, .string ⟨#[]⟩, .slice none 0 0] 25)) w.heap.size (.int .i64 0) (.int .i64 0) (.string ⟨#[]⟩) (.slice none 0 0) := heap_alloc_new w _
  have HFZ := Lib.hid (h.off_new (.cells #[.int .i64 0, .int .i64 0, .string ⟨#[]⟩, .slice none 0 0] 25))
  have HC := Lib.hid (dByte_any r l bad _ hR0.rd)
  unfold pByte at hy
  rw [hy] at HC
  simp only at HC
  have HT0 := Lib.hid (RdTo.of_below h kk)
  have HR0 := Lib.hid hR0
  have HZ0 := Lib.hid hz0
  have HH := Lib.hid h.size
  clear h kk hR0 hz0 hy
  go_enter Try.func34, Try.ntmps34
  go_wp2_with fail
  refine HC.out.mono ?_
  rintro e w1 ⟨rfl, r1, o1⟩
  obtain ⟨hR1, t1⟩ := HR0.out.step r1 o1
  have ka := (Below.refl w1.heap.size w1).alloc (Nat.le_refl _) (.cells #[.int .i64 2, .int .i64 0, .string ⟨#[]⟩, .slice none 0 0] 25)
  have hR2 := hR1.below ka
  have c2 := drAt_pos hR2.rd
  obtain ⟨hz1, fz1⟩ := t1.bv HZ0.out HFZ.out
  have hz2 : BV (w1.alloc (.cells #[.int .i64 2, .int .i64 0, .string ⟨#[]⟩, .slice none 0 0] 25)) w.heap.size (.int .i64 0) (.int .i64 0) (.string ⟨#[]⟩) (.slice none 0 0) := (ka.block _ hz1.lt).trans hz1
  have HFZ2 := Lib.hid (fz1.below ka)
  have HFV2 := Lib.hid (hR1.off_new (.cells #[.int .i64 2, .int .i64 0, .string ⟨#[]⟩, .slice none 0 0] 25))
  have hv2 : BV (w1.alloc (.cells #[.int .i64 2, .int .i64 0, .string ⟨#[]⟩, .slice none 0 0] 25)) w1.heap.size (.int .i64 2) (.int .i64 0) (.string ⟨#[]⟩) (.slice none 0 0) := heap_alloc_new w1 _
  have HZV := Lib.hid (show w.heap.size < w1.heap.size from hz1.lt)
  have HT2 := Lib.hid ((HT0.out.trans t1).trans (RdTo.of_below hR1 ka))
  have HR2 := Lib.hid hR2
  have HZ2 := Lib.hid hz2
  have HV2 := Lib.hid hv2
  clear r1 o1 hR1 t1 ka hR2 hz1 fz1 hz2 hv2
  go_wp2_with fail
  refine (HC2.out _ HR2.out).mono ?_
  rintro e w3 ⟨rfl, r3, o3⟩
  obtain ⟨hR3, t3⟩ := HR2.out.step r3 o3
  obtain ⟨hz3, fz3⟩ := t3.bv HZ2.out HFZ2.out
  obtain ⟨hv3, fv3⟩ := t3.bv HV2.out HFV2.out
  have g1 := hv3.fz
  have g2 := hv3.c1
  have g3 := hv3.c2
  cases n with
  | true =>
    have HT4 := Lib.hid ((HT2.out.trans t3).set HH.out (Nat.le_of_lt HZV.out) fv3 1 (.int .i64 1))
    have hzA := hz3.other w1.heap.size 1 (by have := HZV.out; omega) (.int .i64 1)
    have hvA := hv3.set1 (.int .i64 1)
    have HF4 := Lib.hid (fz3.set (j := 1) fv3.1 (.int .i64 1))
    have HG4 := Lib.hid (fv3.set (j := 1) fv3.1 (.int .i64 1))
    clear r3 o3 hR3 t3 hz3 fz3 hv3 fv3
    have HRT := Lib.hid (fun W => refRight_any ⟨2, 1, [], []⟩ ⟨by simp, by simp⟩ none 0 W)
    rw [show rightB ⟨2, 1, [], []⟩ = true from by simp [rightB]] at HRT
    unfold valC at HRT
    simp only [List.length_nil] at HRT
    have v0 := hvA.c0
    have v1 := hvA.c1
    have v2 := hvA.c2
    have v3 := hvA.c3
    go_wp2_with fail
    refine (HRT.out _).mono ?_
    rintro e w6 ⟨rfl, b6⟩
    have hzE := (b6.block _ hzA.lt).trans hzA
    have hvE := (b6.block _ hvA.lt).trans hvA
    have HT6 := Lib.hid (HT4.out.trans (RdTo.of_below (H := H) (R := r) HT4.out.rdr b6))
    have FZ6 := Lib.hid (HF4.out.below b6)
    have FV6 := Lib.hid (HG4.out.below b6)
    clear v0 v1 v2 v3 b6
    change BV w6 w.heap.size _ _ _ _ at hzE
    change BV w6 w1.heap.size _ _ _ _ at hvE
    have HTE := Lib.hid (HT6.out.bput HH.out (Nat.le_refl _) FZ6.out (.int .i64 2) (.int .i64 1) (.string ⟨#[]⟩) (.slice none 0 0))
    have z0 := hzE.c0
    have z1 := hzE.c1
    have z2 := hzE.c2
    have z3 := hzE.c3
    have fz := hzE.fz
    have v0 := hvE.c0
    have v1 := hvE.c1
    have v2 := hvE.c2
    have v3 := hvE.c3
    have HP := Lib.hid (hzE.put (.int .i64 2) (.int .i64 1) (.string ⟨#[]⟩) (.slice none 0 0))
    clear hzE hvE
    go_wp2_with fail
    exact bodyPost_ret (res_bv rfl _ _ w.heap.size _ _ _ _ rfl HP.out) rfl ⟨none, 0, ⟨2, 1, [], []⟩, _, _, rfl, Sim.same (((⟨2, 1, [], []⟩ : V), l2, b2) : Rs V), HTE.out, fun i hi => absurd hi (by simp), fun _ _ _ h => absurd rfl h⟩
  | false =>
    have HT4 := Lib.hid (HT2.out.trans t3)
    have HF4 := Lib.hid fz3
    have HG4 := Lib.hid fv3
    have hzA := hz3
    have hvA := hv3
    clear r3 o3 hR3 t3 hz3 fz3 hv3 fv3 g1 g2 g3
    have HRT := Lib.hid (fun W => refRight_any ⟨2, 0, [], []⟩ ⟨by simp, by simp⟩ none 0 W)
    rw [show rightB ⟨2, 0, [], []⟩ = true from by simp [rightB]] at HRT
    unfold valC at HRT
    simp only [List.length_nil] at HRT
    have v0 := hvA.c0
    have v1 := hvA.c1
    have v2 := hvA.c2
    have v3 := hvA.c3
    go_wp2_with fail
    refine (HRT.out _).mono ?_
    rintro e w6 ⟨rfl, b6⟩
    have hzE := (b6.block _ hzA.lt).trans hzA
    have hvE := (b6.block _ hvA.lt).trans hvA
    have HT6 := Lib.hid (HT4.out.trans (RdTo.of_below (H := H) (R := r) HT4.out.rdr b6))
    have FZ6 := Lib.hid (HF4.out.below b6)
    have FV6 := Lib.hid (HG4.out.below b6)
    clear v0 v1 v2 v3 b6
    change BV w6 w.heap.size _ _ _ _ at hzE
    change BV w6 w1.heap.size _ _ _ _ at hvE
    have HTE := Lib.hid (HT6.out.bput HH.out (Nat.le_refl _) FZ6.out (.int .i64 2) (.int .i64 0) (.string ⟨#[]⟩) (.slice none 0 0))
    have z0 := hzE.c0
    have z1 := hzE.c1
    have z2 := hzE.c2
    have z3 := hzE.c3
    have fz := hzE.fz
    have v0 := hvE.c0
    have v1 := hvE.c1
    have v2 := hvE.c2
    have v3 := hvE.c3
    have HP := Lib.hid (hzE.put (.int .i64 2) (.int .i64 0) (.string ⟨#[]⟩) (.slice none 0 0))
    clear hzE hvE
    go_wp2_with fail
    exact bodyPost_ret (res_bv rfl _ _ w.heap.size _ _ _ _ rfl HP.out) rfl ⟨none, 0, ⟨2, 0, [], []⟩, _, _, rfl, Sim.same (((⟨2, 0, [], []⟩ : V), l2, b2) : Rs V), HTE.out, fun i hi => absurd hi (by simp), fun _ _ _ h => absurd rfl h⟩

set_option maxRecDepth 100000 in
set_option maxHeartbeats 8000000 in
theorem value_d3 (H r : Nat) (l : List UInt8) (bad : Nat) (w : World) (h : RdrR H r r l bad w) (k : Nat) (l1 : List UInt8) (b1 : Nat) (hy : pByte l bad = (k, l1, b1)) (hb1 : b1 = 0) (hk : k = 3) :
    Calls Try.prog 34 #[.pointer (some ⟨r, 0, none⟩)] w fun e w' => ValD H r (pVal l bad) w e w' := by
  subst hb1 hk
  obtain ⟨⟨n, l2, b2⟩, hY⟩ : ∃ y, y = pText 64 l1 0 := ⟨_, rfl⟩
  have hX : pVal l bad = (⟨3, 0, n, []⟩, l2, b2) := by unfold pVal; simp only [hy, ← hY]; rfl
  rw [hX]
  have hnl : n.length ≤ 64 := by have := pText_len 64 l1 0; rw [show (((64 : Nat)) : Int) = 64 from rfl, ← hY] at this; exact this
  have HC2 := Lib.hid (fun W (hW : RdrR H r r l1 0 W) => dText_any r l1 0 64 (by omega) W hW.rd)
  rw [show rdG [] (decX l1 ((64 : Nat) : Int)) l1 0 = (n, l2, b2) from hY.symm] at HC2
  simp only at HC2
  clear hX hY
  have kk := (Below.refl w.heap.size w).alloc (Nat.le_refl _) (.cells #[.int .i64 0, .int .i64 0, .string ⟨#[]⟩, .slice none 0 0] 25)
  have hR0 := h.below kk
  have hz0 : BV (w.alloc (.cells #[.int .i64 0, .int .i64 0, .string ⟨#[]⟩, .slice none 0 0] 25)) w.heap.size (.int .i64 0) (.int .i64 0) (.string ⟨#[]⟩) (.slice none 0 0) := heap_alloc_new w _
  have HFZ := Lib.hid (h.off_new (.cells #[.int .i64 0, .int .i64 0, .string ⟨#[]⟩, .slice none 0 0] 25))
  have HC := Lib.hid (dByte_any r l bad _ hR0.rd)
  unfold pByte at hy
  rw [hy] at HC
  simp only at HC
  have HT0 := Lib.hid (RdTo.of_below h kk)
  have HR0 := Lib.hid hR0
  have HZ0 := Lib.hid hz0
  have HH := Lib.hid h.size
  clear h kk hR0 hz0 hy
  go_enter Try.func34, Try.ntmps34
  go_wp2_with fail
  refine HC.out.mono ?_
  rintro e w1 ⟨rfl, r1, o1⟩
  obtain ⟨hR1, t1⟩ := HR0.out.step r1 o1
  have ka := (Below.refl w1.heap.size w1).alloc (Nat.le_refl _) (.cells #[.int .i64 3, .int .i64 0, .string ⟨#[]⟩, .slice none 0 0] 25)
  have hR2 := hR1.below ka
  have c2 := drAt_pos hR2.rd
  obtain ⟨hz1, fz1⟩ := t1.bv HZ0.out HFZ.out
  have hz2 : BV (w1.alloc (.cells #[.int .i64 3, .int .i64 0, .string ⟨#[]⟩, .slice none 0 0] 25)) w.heap.size (.int .i64 0) (.int .i64 0) (.string ⟨#[]⟩) (.slice none 0 0) := (ka.block _ hz1.lt).trans hz1
  have HFZ2 := Lib.hid (fz1.below ka)
  have HFV2 := Lib.hid (hR1.off_new (.cells #[.int .i64 3, .int .i64 0, .string ⟨#[]⟩, .slice none 0 0] 25))
  have hv2 : BV (w1.alloc (.cells #[.int .i64 3, .int .i64 0, .string ⟨#[]⟩, .slice none 0 0] 25)) w1.heap.size (.int .i64 3) (.int .i64 0) (.string ⟨#[]⟩) (.slice none 0 0) := heap_alloc_new w1 _
  have HZV := Lib.hid (show w.heap.size < w1.heap.size from hz1.lt)
  have HT2 := Lib.hid ((HT0.out.trans t1).trans (RdTo.of_below hR1 ka))
  have HR2 := Lib.hid hR2
  have HZ2 := Lib.hid hz2
  have HV2 := Lib.hid hv2
  clear r1 o1 hR1 t1 ka hR2 hz1 fz1 hz2 hv2
  go_wp2_with fail
  refine (HC2.out _ HR2.out).mono ?_
  rintro e w3 ⟨rfl, r3, o3⟩
  obtain ⟨hR3, t3⟩ := HR2.out.step r3 o3
  obtain ⟨hz3, fz3⟩ := t3.bv HZ2.out HFZ2.out
  obtain ⟨hv3, fv3⟩ := t3.bv HV2.out HFV2.out
  have g1 := hv3.fz
  have g2 := hv3.c1
  have g3 := hv3.c2
  have HT4 := Lib.hid ((HT2.out.trans t3).set HH.out (Nat.le_of_lt HZV.out) fv3 2 (.string (S n)))
  have hzA := hz3.other w1.heap.size 2 (by have := HZV.out; omega) (.string (S n))
  have hvA := hv3.set2 (.string (S n))
  have HF4 := Lib.hid (fz3.set (j := 2) fv3.1 (.string (S n)))
  have HG4 := Lib.hid (fv3.set (j := 2) fv3.1 (.string (S n)))
  clear r3 o3 hR3 t3 hz3 fz3 hv3 fv3
  have HRT := Lib.hid (fun W => refRight_any ⟨3, 0, n, []⟩ ⟨by show n.length ≤ _; omega, by simp⟩ none 0 W)
  rw [show rightB ⟨3, 0, n, []⟩ = true from by simp [rightB]; omega] at HRT
  unfold valC at HRT
  simp only [List.length_nil] at HRT
  have v0 := hvA.c0
  have v1 := hvA.c1
  have v2 := hvA.c2
  have v3 := hvA.c3
  go_wp2_with fail
  refine (HRT.out _).mono ?_
  rintro e w6 ⟨rfl, b6⟩
  have hzE := (b6.block _ hzA.lt).trans hzA
  have hvE := (b6.block _ hvA.lt).trans hvA
  have HT6 := Lib.hid (HT4.out.trans (RdTo.of_below (H := H) (R := r) HT4.out.rdr b6))
  have FZ6 := Lib.hid (HF4.out.below b6)
  have FV6 := Lib.hid (HG4.out.below b6)
  clear v0 v1 v2 v3 b6
  change BV w6 w.heap.size _ _ _ _ at hzE
  change BV w6 w1.heap.size _ _ _ _ at hvE
  have HTE := Lib.hid (HT6.out.bput HH.out (Nat.le_refl _) FZ6.out (.int .i64 3) (.int .i64 0) (.string (S n)) (.slice none 0 0))
  have z0 := hzE.c0
  have z1 := hzE.c1
  have z2 := hzE.c2
  have z3 := hzE.c3
  have fz := hzE.fz
  have v0 := hvE.c0
  have v1 := hvE.c1
  have v2 := hvE.c2
  have v3 := hvE.c3
  have HP := Lib.hid (hzE.put (.int .i64 3) (.int .i64 0) (.string (S n)) (.slice none 0 0))
  clear hzE hvE
  go_wp2_with fail
  exact bodyPost_ret (res_bv rfl _ _ w.heap.size _ _ _ _ rfl HP.out) rfl ⟨none, 0, ⟨3, 0, n, []⟩, _, _, rfl, Sim.same (((⟨3, 0, n, []⟩ : V), l2, b2) : Rs V), HTE.out, fun i hi => absurd hi (by simp), fun _ _ _ h => absurd rfl h⟩

set_option maxRecDepth 100000 in
set_option maxHeartbeats 8000000 in
theorem value_d4t (H r : Nat) (l : List UInt8) (bad : Nat) (w : World) (h : RdrR H r r l bad w) (k : Nat) (l1 : List UInt8) (b1 : Nat) (hy : pByte l bad = (k, l1, b1)) (hb1 : b1 = 0) (hk : k = 4) (hnm : nameB (pText 24 l1 0).1 = true) :
    Calls Try.prog 34 #[.pointer (some ⟨r, 0, none⟩)] w fun e w' => ValD H r (pVal l bad) w e w' := by
  subst hb1 hk
  obtain ⟨⟨n, l2, b2⟩, hY⟩ : ∃ y, y = pText 24 l1 0 := ⟨_, rfl⟩
  have hnm2 : nameB n = true := by rw [← hY] at hnm; exact hnm
  have hX : pVal l bad = (⟨4, 0, n, []⟩, l2, b2) := by
    have hS : pSym l1 0 = (n, l2, b2) := by unfold pSym; simp only [← hY, hnm2, if_true, Bool.false_eq_true, if_false]
    have hX0 : pVal l bad = (⟨4, 0, (pSym l1 0).1, []⟩, (pSym l1 0).2) := by unfold pVal; simp only [hy]; rfl
    rw [hX0, hS]
  rw [hX]
  have hnl : n.length ≤ 24 := by have := pText_len 24 l1 0; rw [show (((24 : Nat)) : Int) = 24 from rfl, ← hY] at this; exact this
  clear hnm
  have HC2 := Lib.hid (fun W (hW : RdrR H r r l1 0 W) => dText_any r l1 0 24 (by omega) W hW.rd)
  rw [show rdG [] (decX l1 ((24 : Nat) : Int)) l1 0 = (n, l2, b2) from hY.symm] at HC2
  simp only at HC2
  clear hX hY
  have kk := (Below.refl w.heap.size w).alloc (Nat.le_refl _) (.cells #[.int .i64 0, .int .i64 0, .string ⟨#[]⟩, .slice none 0 0] 25)
  have hR0 := h.below kk
  have hz0 : BV (w.alloc (.cells #[.int .i64 0, .int .i64 0, .string ⟨#[]⟩, .slice none 0 0] 25)) w.heap.size (.int .i64 0) (.int .i64 0) (.string ⟨#[]⟩) (.slice none 0 0) := heap_alloc_new w _
  have HFZ := Lib.hid (h.off_new (.cells #[.int .i64 0, .int .i64 0, .string ⟨#[]⟩, .slice none 0 0] 25))
  have HC := Lib.hid (dByte_any r l bad _ hR0.rd)
  unfold pByte at hy
  rw [hy] at HC
  simp only at HC
  have HT0 := Lib.hid (RdTo.of_below h kk)
  have HR0 := Lib.hid hR0
  have HZ0 := Lib.hid hz0
  have HH := Lib.hid h.size
  clear h kk hR0 hz0 hy
  go_enter Try.func34, Try.ntmps34
  go_wp2_with fail
  refine HC.out.mono ?_
  rintro e w1 ⟨rfl, r1, o1⟩
  obtain ⟨hR1, t1⟩ := HR0.out.step r1 o1
  have ka := (Below.refl w1.heap.size w1).alloc (Nat.le_refl _) (.cells #[.int .i64 4, .int .i64 0, .string ⟨#[]⟩, .slice none 0 0] 25)
  have hR2 := hR1.below ka
  have c2 := drAt_pos hR2.rd
  obtain ⟨hz1, fz1⟩ := t1.bv HZ0.out HFZ.out
  have hz2 : BV (w1.alloc (.cells #[.int .i64 4, .int .i64 0, .string ⟨#[]⟩, .slice none 0 0] 25)) w.heap.size (.int .i64 0) (.int .i64 0) (.string ⟨#[]⟩) (.slice none 0 0) := (ka.block _ hz1.lt).trans hz1
  have HFZ2 := Lib.hid (fz1.below ka)
  have HFV2 := Lib.hid (hR1.off_new (.cells #[.int .i64 4, .int .i64 0, .string ⟨#[]⟩, .slice none 0 0] 25))
  have hv2 : BV (w1.alloc (.cells #[.int .i64 4, .int .i64 0, .string ⟨#[]⟩, .slice none 0 0] 25)) w1.heap.size (.int .i64 4) (.int .i64 0) (.string ⟨#[]⟩) (.slice none 0 0) := heap_alloc_new w1 _
  have HZV := Lib.hid (show w.heap.size < w1.heap.size from hz1.lt)
  have HT2 := Lib.hid ((HT0.out.trans t1).trans (RdTo.of_below hR1 ka))
  have HR2 := Lib.hid hR2
  have HZ2 := Lib.hid hz2
  have HV2 := Lib.hid hv2
  clear r1 o1 hR1 t1 ka hR2 hz1 fz1 hz2 hv2
  go_wp2_with fail
  refine (HC2.out _ HR2.out).mono ?_
  rintro e w3 ⟨rfl, r3, o3⟩
  obtain ⟨hR3, t3⟩ := HR2.out.step r3 o3
  obtain ⟨hz3, fz3⟩ := t3.bv HZ2.out HFZ2.out
  obtain ⟨hv3, fv3⟩ := t3.bv HV2.out HFV2.out
  have g1 := hv3.fz
  have g2 := hv3.c1
  have g3 := hv3.c2
  have HT4 := Lib.hid ((HT2.out.trans t3).set HH.out (Nat.le_of_lt HZV.out) fv3 2 (.string (S n)))
  have hzA := hz3.other w1.heap.size 2 (by have := HZV.out; omega) (.string (S n))
  have hvA := hv3.set2 (.string (S n))
  have HF4 := Lib.hid (fz3.set (j := 2) fv3.1 (.string (S n)))
  have HG4 := Lib.hid (fv3.set (j := 2) fv3.1 (.string (S n)))
  clear r3 o3 hR3 t3 hz3 fz3 hv3 fv3
  have HRT := Lib.hid (fun W => refRight_any ⟨4, 0, n, []⟩ ⟨by show n.length ≤ _; omega, by simp⟩ none 0 W)
  rw [show rightB ⟨4, 0, n, []⟩ = true from by simp [rightB, hnm2]] at HRT
  unfold valC at HRT
  simp only [List.length_nil] at HRT
  have v0 := hvA.c0
  have v1 := hvA.c1
  have v2 := hvA.c2
  have v3 := hvA.c3
  go_wp2_with fail
  refine (HRT.out _).mono ?_
  rintro e w6 ⟨rfl, b6⟩
  have hzE := (b6.block _ hzA.lt).trans hzA
  have hvE := (b6.block _ hvA.lt).trans hvA
  have HT6 := Lib.hid (HT4.out.trans (RdTo.of_below (H := H) (R := r) HT4.out.rdr b6))
  have FZ6 := Lib.hid (HF4.out.below b6)
  have FV6 := Lib.hid (HG4.out.below b6)
  clear v0 v1 v2 v3 b6
  change BV w6 w.heap.size _ _ _ _ at hzE
  change BV w6 w1.heap.size _ _ _ _ at hvE
  have HTE := Lib.hid (HT6.out.bput HH.out (Nat.le_refl _) FZ6.out (.int .i64 4) (.int .i64 0) (.string (S n)) (.slice none 0 0))
  have z0 := hzE.c0
  have z1 := hzE.c1
  have z2 := hzE.c2
  have z3 := hzE.c3
  have fz := hzE.fz
  have v0 := hvE.c0
  have v1 := hvE.c1
  have v2 := hvE.c2
  have v3 := hvE.c3
  have HP := Lib.hid (hzE.put (.int .i64 4) (.int .i64 0) (.string (S n)) (.slice none 0 0))
  clear hzE hvE
  go_wp2_with fail
  exact bodyPost_ret (res_bv rfl _ _ w.heap.size _ _ _ _ rfl HP.out) rfl ⟨none, 0, ⟨4, 0, n, []⟩, _, _, rfl, Sim.same (((⟨4, 0, n, []⟩ : V), l2, b2) : Rs V), HTE.out, fun i hi => absurd hi (by simp), fun _ _ _ h => absurd rfl h⟩

set_option maxRecDepth 100000 in
set_option maxHeartbeats 8000000 in
theorem value_d4f (H r : Nat) (l : List UInt8) (bad : Nat) (w : World) (h : RdrR H r r l bad w) (k : Nat) (l1 : List UInt8) (b1 : Nat) (hy : pByte l bad = (k, l1, b1)) (hb1 : b1 = 0) (hk : k = 4) (hnm : nameB (pText 24 l1 0).1 = false) :
    Calls Try.prog 34 #[.pointer (some ⟨r, 0, none⟩)] w fun e w' => ValD H r (pVal l bad) w e w' := by
  subst hb1 hk
  obtain ⟨⟨n, l2, b2⟩, hY⟩ : ∃ y, y = pText 24 l1 0 := ⟨_, rfl⟩
  have hnm2 : nameB n = false := by rw [← hY] at hnm; exact hnm
  have hX : pVal l bad = (⟨4, 0, n, []⟩, pRej l2 b2) := by
    have hS : pSym l1 0 = (n, pRej l2 b2) := by unfold pSym; simp only [← hY, hnm2, if_true, Bool.false_eq_true, if_false]
    have hX0 : pVal l bad = (⟨4, 0, (pSym l1 0).1, []⟩, (pSym l1 0).2) := by unfold pVal; simp only [hy]; rfl
    rw [hX0, hS]
  rw [hX]
  have hnl : n.length ≤ 24 := by have := pText_len 24 l1 0; rw [show (((24 : Nat)) : Int) = 24 from rfl, ← hY] at this; exact this
  clear hnm
  have HC2 := Lib.hid (fun W (hW : RdrR H r r l1 0 W) => dText_any r l1 0 24 (by omega) W hW.rd)
  rw [show rdG [] (decX l1 ((24 : Nat) : Int)) l1 0 = (n, l2, b2) from hY.symm] at HC2
  simp only at HC2
  clear hX hY
  have kk := (Below.refl w.heap.size w).alloc (Nat.le_refl _) (.cells #[.int .i64 0, .int .i64 0, .string ⟨#[]⟩, .slice none 0 0] 25)
  have hR0 := h.below kk
  have hz0 : BV (w.alloc (.cells #[.int .i64 0, .int .i64 0, .string ⟨#[]⟩, .slice none 0 0] 25)) w.heap.size (.int .i64 0) (.int .i64 0) (.string ⟨#[]⟩) (.slice none 0 0) := heap_alloc_new w _
  have HFZ := Lib.hid (h.off_new (.cells #[.int .i64 0, .int .i64 0, .string ⟨#[]⟩, .slice none 0 0] 25))
  have HC := Lib.hid (dByte_any r l bad _ hR0.rd)
  unfold pByte at hy
  rw [hy] at HC
  simp only at HC
  have HT0 := Lib.hid (RdTo.of_below h kk)
  have HR0 := Lib.hid hR0
  have HZ0 := Lib.hid hz0
  have HH := Lib.hid h.size
  clear h kk hR0 hz0 hy
  go_enter Try.func34, Try.ntmps34
  go_wp2_with fail
  refine HC.out.mono ?_
  rintro e w1 ⟨rfl, r1, o1⟩
  obtain ⟨hR1, t1⟩ := HR0.out.step r1 o1
  have ka := (Below.refl w1.heap.size w1).alloc (Nat.le_refl _) (.cells #[.int .i64 4, .int .i64 0, .string ⟨#[]⟩, .slice none 0 0] 25)
  have hR2 := hR1.below ka
  have c2 := drAt_pos hR2.rd
  obtain ⟨hz1, fz1⟩ := t1.bv HZ0.out HFZ.out
  have hz2 : BV (w1.alloc (.cells #[.int .i64 4, .int .i64 0, .string ⟨#[]⟩, .slice none 0 0] 25)) w.heap.size (.int .i64 0) (.int .i64 0) (.string ⟨#[]⟩) (.slice none 0 0) := (ka.block _ hz1.lt).trans hz1
  have HFZ2 := Lib.hid (fz1.below ka)
  have HFV2 := Lib.hid (hR1.off_new (.cells #[.int .i64 4, .int .i64 0, .string ⟨#[]⟩, .slice none 0 0] 25))
  have hv2 : BV (w1.alloc (.cells #[.int .i64 4, .int .i64 0, .string ⟨#[]⟩, .slice none 0 0] 25)) w1.heap.size (.int .i64 4) (.int .i64 0) (.string ⟨#[]⟩) (.slice none 0 0) := heap_alloc_new w1 _
  have HZV := Lib.hid (show w.heap.size < w1.heap.size from hz1.lt)
  have HT2 := Lib.hid ((HT0.out.trans t1).trans (RdTo.of_below hR1 ka))
  have HR2 := Lib.hid hR2
  have HZ2 := Lib.hid hz2
  have HV2 := Lib.hid hv2
  clear r1 o1 hR1 t1 ka hR2 hz1 fz1 hz2 hv2
  go_wp2_with fail
  refine (HC2.out _ HR2.out).mono ?_
  rintro e w3 ⟨rfl, r3, o3⟩
  obtain ⟨hR3, t3⟩ := HR2.out.step r3 o3
  obtain ⟨hz3, fz3⟩ := t3.bv HZ2.out HFZ2.out
  obtain ⟨hv3, fv3⟩ := t3.bv HV2.out HFV2.out
  have g1 := hv3.fz
  have g2 := hv3.c1
  have g3 := hv3.c2
  have HT4 := Lib.hid ((HT2.out.trans t3).set HH.out (Nat.le_of_lt HZV.out) fv3 2 (.string (S n)))
  have hzA := hz3.other w1.heap.size 2 (by have := HZV.out; omega) (.string (S n))
  have hvA := hv3.set2 (.string (S n))
  have HF4 := Lib.hid (fz3.set (j := 2) fv3.1 (.string (S n)))
  have HG4 := Lib.hid (fv3.set (j := 2) fv3.1 (.string (S n)))
  clear r3 o3 hR3 t3 hz3 fz3 hv3 fv3
  have hsim : Sim ((⟨4, 0, n, []⟩, pRej l2 b2) : Rs V) ⟨4, 0, n, []⟩ l2 (badF b2) := by
    unfold Sim badF pRej
    by_cases hb2 : b2 = 0
    · subst hb2; exact ⟨rfl, fun h => absurd h (by decide)⟩
    · rw [if_neg hb2, if_pos hb2]; exact ⟨rfl, fun h => absurd h hb2⟩
  have HSIM := Lib.hid hsim
  clear hsim
  have HRT := Lib.hid (fun W => refRight_any ⟨4, 0, n, []⟩ ⟨by show n.length ≤ _; omega, by simp⟩ none 0 W)
  rw [show rightB ⟨4, 0, n, []⟩ = false from by simp [rightB, hnm2]] at HRT
  unfold valC at HRT
  simp only [List.length_nil] at HRT
  have v0 := hvA.c0
  have v1 := hvA.c1
  have v2 := hvA.c2
  have v3 := hvA.c3
  go_wp2_with fail
  refine (HRT.out _).mono ?_
  rintro e w6 ⟨rfl, b6⟩
  have hzE := (b6.block _ hzA.lt).trans hzA
  have hvE := (b6.block _ hvA.lt).trans hvA
  have HT6 := Lib.hid (HT4.out.trans (RdTo.of_below (H := H) (R := r) HT4.out.rdr b6))
  have FZ6 := Lib.hid (HF4.out.below b6)
  have FV6 := Lib.hid (HG4.out.below b6)
  clear v0 v1 v2 v3 b6
  change BV w6 w.heap.size _ _ _ _ at hzE
  change BV w6 w1.heap.size _ _ _ _ at hvE
  have HZ6 := Lib.hid hzE
  have HV6 := Lib.hid hvE
  clear hzE hvE
  go_wp2_with fail
  refine (form_d H r _ _ _ HT6.out.rdr).mono ?_
  rintro e w7 ⟨rfl, t7⟩
  obtain ⟨hzE, fz7⟩ := t7.bv HZ6.out FZ6.out
  obtain ⟨hvE, _⟩ := t7.bv HV6.out FV6.out
  have HT7 := Lib.hid (HT6.out.trans t7)
  have FZ7 := Lib.hid fz7
  clear t7 fz7
  have HTE := Lib.hid (HT7.out.bput HH.out (Nat.le_refl _) FZ7.out (.int .i64 4) (.int .i64 0) (.string (S n)) (.slice none 0 0))
  have z0 := hzE.c0
  have z1 := hzE.c1
  have z2 := hzE.c2
  have z3 := hzE.c3
  have fz := hzE.fz
  have v0 := hvE.c0
  have v1 := hvE.c1
  have v2 := hvE.c2
  have v3 := hvE.c3
  have HP := Lib.hid (hzE.put (.int .i64 4) (.int .i64 0) (.string (S n)) (.slice none 0 0))
  clear hzE hvE
  go_wp2_with fail
  exact bodyPost_ret (res_bv rfl _ _ w.heap.size _ _ _ _ rfl HP.out) rfl ⟨none, 0, ⟨4, 0, n, []⟩, _, _, rfl, HSIM.out, HTE.out, fun i hi => absurd hi (by simp), fun _ _ _ h => absurd rfl h⟩

end Go.Proofs.Ytkdhchdhgmaolaa.Dd

namespace Go.Proofs.Ytkdhchdhgmaolaa.Dd
open Go.RowKit
open Pk Va
open Cd (pByte pNum pTruth pText pSmall pSym pVal pLoop pAll pRej Rs BV bput res_bv app_num1 NumsAt.set NumsAt.of_block NumsAt.bput)
set_option linter.unusedVariables false
set_option linter.unusedSimpArgs false

theorem oper_app {P : Program} {o : Oper} {a : Act} {w : World} {K : Act → World → Prop} {Q : Exit → Act → World → Prop} (s x : Operand) (t u : TypeId)
    (ho : o.op = .call { callee := .builtin .append, args := #[s, x], argTypes := #[t, u] }) {v vx : Value} (hs : a.eval s = v) (hx : a.eval x = vx) (v' : Value) (w' : World)
    (hr : (Builtin.append_ #[t, u] o.type #[v, vx]).run P w = .ok v' w') (h : K (a.put o.dst v') w') : Oper.wp P o a w K Q := by
  unfold Oper.wp execOp
  simp only [ho, resolve, invoke, builtin, Sem.run_bind, Sem.run_pure, Result.andThen_ok, List.map_toArray, List.map_cons, List.map_nil, hs, hx, hr]
  exact h
theorem ownsRow_set {w : World} {B n s : Nat} {e : TypeId} {v : Value} {xs : List Value} (h : w.ownsRow B e s v n xs) (g : Nat) (hg : g < B) (j : Nat) (u : Value) : (w.setCell ⟨g, j, none⟩ u).ownsRow B e s v n xs := by
  refine ⟨h.1, ?_⟩
  rcases h.2 with h0 | ⟨g2, cap2, cur, e2, hb, hc, rest⟩
  · exact .inl h0
  · exact .inr ⟨g2, cap2, cur, e2, hb, (heap_setCell_other w ⟨g, j, none⟩ g2 u (show g2 ≠ g by omega)).trans hc, rest⟩
theorem ne_i64 : 2 ≠ 87 ∧ True := by decide
/-- So many are read already. -/
def LRel {α : Type} (p : List UInt8 → Nat → Rs α) (X : Rs (List α)) (m : Nat) (acc : List α) (li : List UInt8) (bi : Nat) : Prop :=
  (bi = 0 → X = pLoop p m acc li 0) ∧ (bi ≠ 0 → X.2.2 = bi)
theorem LRel.start {α : Type} {p : List UInt8 → Nat → Rs α} {most : Int} {l l2 : List UInt8} {b n b2 : Nat} (h : pSmall most l b = (n, l2, b2)) : LRel p (pAll p most l b) n [] l2 b2 := by
  unfold LRel pAll
  rw [h]
  simp only
  refine ⟨fun e => by rw [e], fun e => ?_⟩
  have hn : n = 0 := by
    unfold pSmall rdG at h
    split at h
    · exact (Prod.mk.inj h).1.symm
    · split at h
      · exact (Prod.mk.inj h).1.symm
      · exact absurd (Prod.mk.inj (Prod.mk.inj h).2).2.symm e
  subst hn
  rfl
theorem LRel.next {α : Type} {p : List UInt8 → Nat → Rs α} (hk : Keeps p) {X : Rs (List α)} {m : Nat} {acc : List α} {li l2 : List UInt8} {bi b2 : Nat} {v : α} (h : LRel p X (m + 1) acc li bi) (s : Sim (p li bi) v l2 b2) : LRel p X m (acc ++ [v]) l2 b2 := by
  obtain ⟨h1, h2⟩ := h
  obtain ⟨s1, s2⟩ := s
  by_cases hb : bi = 0
  · subst hb
    have hx := h1 rfl
    unfold pLoop at hx
    by_cases hb2 : b2 = 0
    · obtain ⟨rfl, rfl⟩ := s2 hb2
      rw [← s1, if_neg (by omega), hb2] at hx
      exact ⟨fun _ => hx, fun e => absurd hb2 e⟩
    · rw [← s1, if_pos hb2] at hx
      exact ⟨fun e => absurd e hb2, fun _ => by rw [hx, s1]⟩
  · have hkk := hk li bi hb
    have : b2 = bi := by rw [s1, hkk]
    subst this
    exact ⟨fun e => absurd e hb, fun _ => h2 hb⟩
theorem LRel.fin {α : Type} {p : List UInt8 → Nat → Rs α} {X : Rs (List α)} {acc : List α} {li : List UInt8} {bi : Nat} (h : LRel p X 0 acc li bi) : Sim X acc li bi := by
  obtain ⟨h1, h2⟩ := h
  by_cases hb : bi = 0
  · have hx := h1 hb
    unfold pLoop at hx
    rw [hx]
    exact ⟨hb, fun _ => ⟨rfl, rfl⟩⟩
  · exact ⟨(h2 hb).symm, fun e => absurd e hb⟩

set_option maxRecDepth 100000 in
set_option maxHeartbeats 8000000 in
theorem value_d5 (H r : Nat) (l : List UInt8) (bad : Nat) (w : World) (h : RdrR H r r l bad w) (k : Nat) (l1 : List UInt8) (b1 : Nat) (hy : pByte l bad = (k, l1, b1)) (hb1 : b1 = 0) (hk : k = 5) :
    Calls Try.prog 34 #[.pointer (some ⟨r, 0, none⟩)] w fun e w' => ValD H r (pVal l bad) w e w' := by
  subst hb1 hk
  have hX : pVal l bad = (⟨5, 0, [], (pAll pNum 16 l1 0).1⟩, (pAll pNum 16 l1 0).2) := by unfold pVal; simp only [hy]; rfl
  rw [hX]
  obtain ⟨⟨n, l2, b2⟩, hY⟩ : ∃ y, pSmall 16 l1 0 = y := ⟨_, rfl⟩
  have hrel0 := LRel.start (p := pNum) hY
  obtain ⟨X, hXX⟩ : ∃ X, X = pAll pNum 16 l1 0 := ⟨_, rfl⟩
  rw [← hXX] at hrel0 ⊢
  have hn16 : n ≤ 16 := by have := Cd.pSmall_le 16 (by omega) l1 0; rw [hY] at this; simp only at this; omega
  have HC2 := Lib.hid (fun W (hW : RdrR H r r l1 0 W) => dSmall_any r l1 0 16 (by omega) W hW.rd)
  rw [show rdG 0 (decS l1 ((16 : Nat) : Int)) l1 0 = (n, l2, b2) from hY] at HC2
  simp only at HC2
  have HR0L := Lib.hid hrel0
  clear hX hY hrel0 hXX
  have kk := (Below.refl w.heap.size w).alloc (Nat.le_refl _) (.cells #[.int .i64 0, .int .i64 0, .string ⟨#[]⟩, .slice none 0 0] 25)
  have hR0 := h.below kk
  have hz0 : BV (w.alloc (.cells #[.int .i64 0, .int .i64 0, .string ⟨#[]⟩, .slice none 0 0] 25)) w.heap.size (.int .i64 0) (.int .i64 0) (.string ⟨#[]⟩) (.slice none 0 0) := heap_alloc_new w _
  have HFZ := Lib.hid (h.off_new (.cells #[.int .i64 0, .int .i64 0, .string ⟨#[]⟩, .slice none 0 0] 25))
  have HC := Lib.hid (dByte_any r l bad _ hR0.rd)
  unfold pByte at hy
  rw [hy] at HC
  simp only at HC
  have HT0 := Lib.hid (RdTo.of_below h kk)
  have HR0 := Lib.hid hR0
  have HZ0 := Lib.hid hz0
  have HH := Lib.hid h.size
  clear h kk hR0 hz0 hy
  go_enter Try.func34, Try.ntmps34
  go_wp2_with fail
  refine HC.out.mono ?_
  rintro e w1 ⟨rfl, r1, o1⟩
  obtain ⟨hR1, t1⟩ := HR0.out.step r1 o1
  have ka := (Below.refl w1.heap.size w1).alloc (Nat.le_refl _) (.cells #[.int .i64 5, .int .i64 0, .string ⟨#[]⟩, .slice none 0 0] 25)
  have hR2 := hR1.below ka
  have c2 := drAt_pos hR2.rd
  obtain ⟨hz1, fz1⟩ := t1.bv HZ0.out HFZ.out
  have hz2 : BV (w1.alloc (.cells #[.int .i64 5, .int .i64 0, .string ⟨#[]⟩, .slice none 0 0] 25)) w.heap.size (.int .i64 0) (.int .i64 0) (.string ⟨#[]⟩) (.slice none 0 0) := (ka.block _ hz1.lt).trans hz1
  have HFZ2 := Lib.hid (fz1.below ka)
  have HFV2 := Lib.hid (hR1.off_new (.cells #[.int .i64 5, .int .i64 0, .string ⟨#[]⟩, .slice none 0 0] 25))
  have hv2 : BV (w1.alloc (.cells #[.int .i64 5, .int .i64 0, .string ⟨#[]⟩, .slice none 0 0] 25)) w1.heap.size (.int .i64 5) (.int .i64 0) (.string ⟨#[]⟩) (.slice none 0 0) := heap_alloc_new w1 _
  have HZV := Lib.hid (show w.heap.size < w1.heap.size from hz1.lt)
  have HT2 := Lib.hid ((HT0.out.trans t1).trans (RdTo.of_below hR1 ka))
  have HR2 := Lib.hid hR2
  have HZ2 := Lib.hid hz2
  have HV2 := Lib.hid hv2
  clear r1 o1 hR1 t1 ka hR2 hz1 fz1 hz2 hv2
  go_wp2_with fail
  refine (HC2.out _ HR2.out).mono ?_
  rintro e w3 ⟨rfl, r3, o3⟩
  obtain ⟨hR3, t3⟩ := HR2.out.step r3 o3
  obtain ⟨hz3, fz3⟩ := t3.bv HZ2.out HFZ2.out
  obtain ⟨hv3, fv3⟩ := t3.bv HV2.out HFV2.out
  have HT3 := Lib.hid (HT2.out.trans t3)
  have HZ3 := Lib.hid hz3
  have HV3 := Lib.hid hv3
  have FZ3 := Lib.hid fz3
  have FV3 := Lib.hid fv3
  clear r3 o3 hR3 t3 hz3 fz3 hv3 fv3
  go_wp2_with fail
  go_loopw [5] (fun iv wr => ∃ (i : Nat) (acc : List Int) (q : Option Addr) (cap : Nat) (li : List UInt8) (bi : Nat), i ≤ n ∧ iv = .int .i64 i ∧ acc.length = i ∧ RdTo H r li bi w wr ∧ BV wr w.heap.size (.int .i64 0) (.int .i64 0) (.string ⟨#[]⟩) (.slice none 0 0) ∧ OffR r w.heap.size wr ∧ BV wr w1.heap.size (.int .i64 5) (.int .i64 0) (.string ⟨#[]⟩) (.slice q acc.length cap) ∧ OffR r w1.heap.size wr ∧ wr.ownsRow (w1.heap.size + 1) 2 1 (.slice q acc.length cap) acc.length (i64C acc) ∧ LRel pNum X (n - i) acc li bi) (fun iv _ => n - (intOf iv).toNat)
  case atStart => exact ⟨0, [], none, 0, l2, b2, Nat.zero_le _, rfl, rfl, HT3.out, HZ3.out, FZ3.out, HV3.out, FV3.out, World.ownsRow_nil _ _ _ _, HR0L.out⟩
  case round =>
    obtain ⟨i, acc, q, cap, li, bi, hin, rfl, hai, ht, hz, fz, hv, fv, hown, hrl⟩ := hrel
    by_cases hlt : i < n
    · have hii : (i : Int) < (n : Int) := by omega
      have hoff := off_row ht.rdr hown ne_i64.1 ne_i64.2
      have htd := ht.trans (RdTo.of_below ht.rdr ((Below.refl wr.heap.size wr).drew))
      have HC3 := Lib.hid (dNumber_any r li bi wr.drew htd.rdr.rd)
      have hrl2 : LRel pNum X ((n - (i + 1)) + 1) acc li bi := by rw [show n - (i + 1) + 1 = n - i by omega]; exact hrl
      have hnx := fun v l4 b4 (s : Sim (pNum li bi) v l4 b4) => hrl2.next keeps_num s
      obtain ⟨⟨x, l4, b4⟩, hy4⟩ : ∃ y, pNum li bi = y := ⟨_, rfl⟩
      have hnx2 := hnx x l4 b4 (by rw [hy4]; exact Sim.same ((x, l4, b4) : Rs Int))
      unfold pNum at hy4
      rw [hy4] at HC3
      simp only at HC3
      have HT := Lib.hid htd
      have HZ := Lib.hid (show BV wr.drew w.heap.size _ _ _ _ from hz)
      have FZ := Lib.hid (show OffR r w.heap.size wr.drew from fz)
      have HV := Lib.hid (show BV wr.drew w1.heap.size _ _ _ _ from hv)
      have FV := Lib.hid (show OffR r w1.heap.size wr.drew from fv)
      have HOWN := Lib.hid (show wr.drew.ownsRow (w1.heap.size + 1) _ _ _ _ _ from hown)
      have HOFF := Lib.hid (fun g hg => show OffR r g wr.drew from hoff g hg)
      have HNX := Lib.hid hnx2
      have HAI := Lib.hid hai
      have hS0 : wr.drew.cell? ⟨w1.heap.size, 3, none⟩ = some (.slice q acc.length cap) := hv.c3
      clear ht hz fz hv fv hown hrl hoff htd hrl2 hnx hnx2 hy4 hai
      go_wp2_with fail
      refine Cd.until_start 7 (fun w7 => w7.cell? ⟨w1.heap.size, 3, none⟩ = some (.slice q acc.length cap)) (by kernel_rfl) ?_
      refine Cd.untilT (v := ?_) 0 (by decide +kernel) (by decide +kernel) (by decide +kernel) (by kernel_rfl) (by simp only [List.getElem?_toArray, List.getElem?_cons_succ, List.getElem?_cons_zero]; rfl) (by rfl) (by exact fun _ _ _ h => h) (by first | exact fun _ => hS0 | exact fun h => absurd h (by decide +kernel)) ?_ ?_
      rotate_left 1
      focus (intro w8; go_simp; (try with_reducible rfl); done)
      try simp only [Act.put, List.setIfInBounds_toArray, List.set_cons_zero, List.set_cons_succ]
      refine Cd.untilW (v := ?_) 1 [7] (by decide) (by decide +kernel) (by decide +kernel) (by decide +kernel) (by decide +kernel) (by kernel_rfl) (by simp only [List.getElem?_toArray, List.getElem?_cons_succ, List.getElem?_cons_zero]; rfl) (by rfl) (by exact fun _ _ _ h => h) (by exact hS0) ?_ ?_
      rotate_left 1
      focus (intro w8 hSw; (try dsimp only at hSw); go_simp; (try with_reducible rfl); done)
      try simp only [Act.put, List.setIfInBounds_toArray, List.set_cons_zero, List.set_cons_succ]
      refine Cd.untilT (v := ?_) 2 (by decide +kernel) (by decide +kernel) (by decide +kernel) (by kernel_rfl) (by simp only [List.getElem?_toArray, List.getElem?_cons_succ, List.getElem?_cons_zero]; rfl) (by rfl) (by exact fun _ _ _ h => h) (by first | exact fun _ => hS0 | exact fun h => absurd h (by decide +kernel)) ?_ ?_
      rotate_left 1
      focus (intro w8; go_simp; (try with_reducible rfl); done)
      try simp only [Act.put, List.setIfInBounds_toArray, List.set_cons_zero, List.set_cons_succ]
      refine Cd.untilT (v := ?_) 3 (by decide +kernel) (by decide +kernel) (by decide +kernel) (by kernel_rfl) (by simp only [List.getElem?_toArray, List.getElem?_cons_succ, List.getElem?_cons_zero]; rfl) (by rfl) (by exact fun _ _ _ h => h) (by first | exact fun _ => hS0 | exact fun h => absurd h (by decide +kernel)) ?_ ?_
      rotate_left 1
      focus (intro w8; go_simp; (try with_reducible rfl); done)
      try simp only [Act.put, List.setIfInBounds_toArray, List.set_cons_zero, List.set_cons_succ]
      refine Cd.untilT (v := ?_) 4 (by decide +kernel) (by decide +kernel) (by decide +kernel) (by kernel_rfl) (by simp only [List.getElem?_toArray, List.getElem?_cons_succ, List.getElem?_cons_zero]; rfl) (by rfl) (by exact fun _ _ _ h => h) (by first | exact fun _ => hS0 | exact fun h => absurd h (by decide +kernel)) ?_ ?_
      rotate_left 1
      focus (intro w8; go_simp; (try with_reducible rfl); done)
      try simp only [Act.put, List.setIfInBounds_toArray, List.set_cons_zero, List.set_cons_succ]
      refine Cd.until_one (i := 5) (by decide +kernel) (by simp only [List.getElem?_toArray, List.getElem?_cons_succ, List.getElem?_cons_zero]; rfl) ?_
      intro K hK
      go_simp
      go_at_call 47; (with_reducible refine HC3.out.mono ?_); rintro e w3 ⟨rfl, r9, o9⟩
      obtain ⟨hR9, t9⟩ := HT.out.rdr.step r9 o9
      obtain ⟨hz9, fz9⟩ := t9.bv HZ.out FZ.out
      obtain ⟨hv9, fv9⟩ := t9.bv HV.out FV.out
      have how9 := own_keep t9 HOWN.out HOFF.out
      clear hS0
      have hS0 := hv9.c3
      have hsz : w1.heap.size + 1 ≤ w3.heap.size := hv9.lt
      obtain ⟨q5, c5, w5, hrun, hown5, hgrow⟩ := app_num1 (w1.heap.size + 1) (.slice q acc.length cap) acc.length acc w3 how9 x (by have := HAI.out; omega) hsz w3.heap.size rfl
      have ka := (Below.refl w3.heap.size w3).alloc (Nat.le_refl _) (.cells #[.int .i64 x] 2)
      have hofA := off_row (hR9.below ka) (World.ownsRow.alloc how9 (.cells #[.int .i64 x] 2)) ne_i64.1 ne_i64.2
      have hbk : ∀ g, (Value.slice q acc.length cap).ownBlock = some g → w1.heap.size + 1 ≤ g := fun g hg => (World.ownsRow.lt how9 g hg).1
      have hT5 := ((HT.out.trans t9).trans (RdTo.of_below hR9 ka)).grown HH.out hgrow (fun g hg => ⟨by have := hbk g hg; have := HZV.out; omega, hofA g hg⟩)
      have hz5 : BV w5 w.heap.size _ _ _ _ := (hgrow.block _ (by have := hz9.lt; simp; omega) (fun e => by have := hbk _ e.symm; have := HZV.out; omega)).trans ((ka.block _ hz9.lt).trans hz9)
      have hv5 : BV w5 w1.heap.size _ _ _ _ := (hgrow.block _ (by have := hv9.lt; simp; omega) (fun e => by have := hbk _ e.symm; omega)).trans ((ka.block _ hv9.lt).trans hv9)
      have fz5 : OffR r w.heap.size w5 := ⟨fz9.1, hz5.lt⟩
      have fv5 : OffR r w1.heap.size w5 := ⟨fv9.1, hv5.lt⟩
      have v53 := hv5.c3
      have vf5 := hv5.fz
      have HZ5 := Lib.hid (hz5.other w1.heap.size 3 (by have := HZV.out; omega) (.slice q5 (acc.length + 1) c5))
      have HV5 := Lib.hid (hv5.set3 (.slice q5 (acc.length + 1) c5))
      have HT5 := Lib.hid (hT5.set HH.out (Nat.le_of_lt HZV.out) fv5 3 (.slice q5 (acc.length + 1) c5))
      have FZ5 := Lib.hid (fz5.set (j := 3) fv5.1 (.slice q5 (acc.length + 1) c5))
      have FV5 := Lib.hid (fv5.set (j := 3) fv5.1 (.slice q5 (acc.length + 1) c5))
      have HO5 := Lib.hid (ownsRow_set hown5 w1.heap.size (by omega) 3 (.slice q5 (acc.length + 1) c5))
      have HRUN := Lib.hid hrun
      clear r9 o9 hR9 t9 hz9 fz9 hv9 fv9 how9 hown5 hgrow ka hofA hbk hT5 hz5 hv5 fz5 fv5 hrun hsz
      go_wp2_with fail
      refine hK.out _ _ (by first | exact fun _ => hS0 | exact fun h => absurd h (by decide +kernel)) ?_
      clear hK K
      try simp only [Act.put, List.setIfInBounds_toArray, List.set_cons_zero, List.set_cons_succ]
      refine Cd.until_one (i := 6) (by decide +kernel) (by simp only [List.getElem?_toArray, List.getElem?_cons_succ, List.getElem?_cons_zero]; rfl) ?_
      intro K hK
      go_simp
      go_wp2_with fail
      refine hK.out _ _ (by first | exact fun _ => (by simp [*, World.cell?_alloc_some]) | exact fun h => absurd h (by decide +kernel)) ?_
      clear hK K
      try simp only [Act.put, List.setIfInBounds_toArray, List.set_cons_zero, List.set_cons_succ]
      refine Cd.until_one (i := 7) (by decide +kernel) (by simp only [List.getElem?_toArray, List.getElem?_cons_succ, List.getElem?_cons_zero]; rfl) ?_
      intro K hK
      rw [if_pos (by rfl)]
      refine oper_app _ _ _ _ rfl rfl rfl _ _ HRUN.out ?_
      refine hK.out _ _ (fun h => absurd h (by decide +kernel)) ?_
      clear hK K
      try simp only [Act.put, List.setIfInBounds_toArray, List.set_cons_zero, List.set_cons_succ]
      refine Cd.untilT (v := ?_) 8 (by decide +kernel) (by decide +kernel) (by decide +kernel) (by kernel_rfl) (by simp only [List.getElem?_toArray, List.getElem?_cons_succ, List.getElem?_cons_zero]; rfl) (by rfl) (by exact fun _ _ _ h => h) (by first | exact fun _ => hS0 | exact fun h => absurd h (by decide +kernel)) ?_ ?_
      rotate_left 1
      focus (intro w8; go_simp; (try with_reducible rfl); done)
      try simp only [Act.put, List.setIfInBounds_toArray, List.set_cons_zero, List.set_cons_succ]
      refine Cd.until_one (i := 9) (by decide +kernel) (by simp only [List.getElem?_toArray, List.getElem?_cons_succ, List.getElem?_cons_zero]; rfl) ?_
      intro K hK
      go_simp
      go_wp2_with fail
      refine hK.out _ _ (fun h => absurd h (by decide +kernel)) ?_
      clear hK K
      try simp only [Act.put, List.setIfInBounds_toArray, List.set_cons_zero, List.set_cons_succ]
      refine Cd.until_done (by decide +kernel) ?_ _
      go_wp2_with fail
      go_roundw
      case rel => exact ⟨i + 1, acc ++ [x], q5, c5, l4, b4, by omega, by go_num, by have := HAI.out; simp; omega, HT5.out, HZ5.out, FZ5.out, by rw [List.length_append]; exact HV5.out, FV5.out, by rw [List.length_append]; exact HO5.out, HNX.out⟩
      case measure => simp [intOf]; omega
    · have hie : i = n := by omega
      have hii : ¬ (i : Int) < (n : Int) := by omega
      rw [hie, Nat.sub_self] at hrl
      have hfin := hrl.fin
      have hac : acc.length ≤ 16 := by omega
      obtain ⟨a9, c9, he9, hnums⟩ := owned_nums hown rfl
      obtain ⟨rfl, rfl⟩ : q = a9 ∧ cap = c9 := by injection he9 with e1 _ e3; exact ⟨e1, e3⟩
      have hfr : ∀ g off, q = some ⟨g, off, none⟩ → acc ≠ [] → w1.heap.size + 1 ≤ g ∧ OffR r g wr := fun g off e hn => by
        subst e
        have hg : (Value.slice (some ⟨g, off, none⟩) acc.length cap).ownBlock = some g := rfl
        exact ⟨(World.ownsRow.lt hown g hg).1, off_row ht.rdr hown ne_i64.1 ne_i64.2 g hg⟩
      have HSIM := Lib.hid hfin
      have HNM := Lib.hid hnums
      have HFR := Lib.hid hfr
      have HT4 := Lib.hid ht
      have HF4 := Lib.hid fz
      have HG4 := Lib.hid fv
      have hzA := hz
      have hvA := hv
      clear hfin hnums hfr ht fz fv hz hv hown hrl he9
      rw [hie] at hii
      clear hai hie hin
      have HRT := Lib.hid (fun W => refRight_any ⟨5, 0, [], acc⟩ ⟨by simp, by show acc.length ≤ _; omega⟩ q cap W)
      rw [show rightB ⟨5, 0, [], acc⟩ = true from by simp [rightB]; omega] at HRT
      unfold valC at HRT
      simp only at HRT
      have v0 := hvA.c0
      have v1 := hvA.c1
      have v2 := hvA.c2
      have v3 := hvA.c3
      go_wp2_with fail
      refine (HRT.out _).mono ?_
      rintro e w6 ⟨rfl, b6⟩
      have hzE := (b6.block _ hzA.lt).trans hzA
      have hvE := (b6.block _ hvA.lt).trans hvA
      have HT6 := Lib.hid (HT4.out.trans (RdTo.of_below (H := H) (R := r) HT4.out.rdr b6))
      have FZ6 := Lib.hid (HF4.out.below b6)
      have hn6 := NumsAt.of_block HNM.out b6.size (fun g off e hn => b6.block g (HFR.out g off e hn).2.2)
      have hf6 : ∀ g off, q = some ⟨g, off, none⟩ → acc ≠ [] → w1.heap.size + 1 ≤ g ∧ OffR r g w6 := fun g off e hn => ⟨(HFR.out g off e hn).1, (HFR.out g off e hn).2.below b6⟩
      clear v0 v1 v2 v3 b6
      change BV w6 w.heap.size _ _ _ _ at hzE
      change BV w6 w1.heap.size _ _ _ _ at hvE
      have hneq : ∀ g off, q = some ⟨g, off, none⟩ → acc ≠ [] → g ≠ w.heap.size := fun g off e hn => by have := (hf6 g off e hn).1; have := HZV.out; omega
      have HN7 := Lib.hid (NumsAt.bput hn6 w.heap.size hneq (.int .i64 5) (.int .i64 0) (.string ⟨#[]⟩) (.slice q acc.length cap))
      have HF7 := Lib.hid (fun g off (e : q = some ⟨g, off, none⟩) (hn : acc ≠ []) => show w.heap.size ≤ g ∧ OffR r g (bput w6 w.heap.size (.int .i64 5) (.int .i64 0) (.string ⟨#[]⟩) (.slice q acc.length cap)) from ⟨by have := (hf6 g off e hn).1; have := HZV.out; omega, (hf6 g off e hn).2.bput FZ6.out.1 (.int .i64 5) (.int .i64 0) (.string ⟨#[]⟩) (.slice q acc.length cap)⟩)
      clear hn6 hf6 hneq
      have HSM2 := Lib.hid (show Sim ((⟨5, 0, [], X.1⟩, X.2) : Rs V) ⟨5, 0, [], acc⟩ li bi from ⟨HSIM.out.1, fun e => by obtain ⟨e1, e2⟩ := HSIM.out.2 e; exact ⟨by rw [e1], e2⟩⟩)
      have HTE := Lib.hid (HT6.out.bput HH.out (Nat.le_refl _) FZ6.out (.int .i64 5) (.int .i64 0) (.string ⟨#[]⟩) (.slice q acc.length cap))
      have z0 := hzE.c0
      have z1 := hzE.c1
      have z2 := hzE.c2
      have z3 := hzE.c3
      have fz := hzE.fz
      have v0 := hvE.c0
      have v1 := hvE.c1
      have v2 := hvE.c2
      have v3 := hvE.c3
      have HP := Lib.hid (hzE.put (.int .i64 5) (.int .i64 0) (.string ⟨#[]⟩) (.slice q acc.length cap))
      clear hzE hvE
      go_wp2_with fail
      exact bodyPost_ret (res_bv rfl _ _ w.heap.size _ _ _ _ rfl HP.out) rfl ⟨q, cap, ⟨5, 0, [], acc⟩, _, _, rfl, HSM2.out, HTE.out, HN7.out, HF7.out⟩
end Go.Proofs.Ytkdhchdhgmaolaa.Dd

namespace Go.Proofs.Ytkdhchdhgmaolaa.Dd
open Go.RowKit
open Pk Va
open Cd (pByte pNum pTruth pText pSmall pSym pVal pLoop pAll pRej pMail Rs BV bput res_bv NumsAt.set NumsAt.of_block NumsAt.bput MailP)
set_option linter.unusedVariables false
set_option linter.unusedSimpArgs false

theorem value_d (H r : Nat) (l : List UInt8) (bad : Nat) (w : World) (h : RdrR H r r l bad w) :
    Calls Try.prog 34 #[.pointer (some ⟨r, 0, none⟩)] w fun e w' => ValD H r (pVal l bad) w e w' := by
  obtain ⟨⟨k, l1, b1⟩, hy⟩ : ∃ y, pByte l bad = y := ⟨_, rfl⟩
  by_cases hb : b1 = 0
  · by_cases h0 : k = 0
    · exact value_d0 H r l bad w h k l1 b1 hy hb h0
    by_cases h1 : k = 1
    · exact value_d1 H r l bad w h k l1 b1 hy hb h1
    by_cases h2 : k = 2
    · exact value_d2 H r l bad w h k l1 b1 hy hb h2
    by_cases h3 : k = 3
    · exact value_d3 H r l bad w h k l1 b1 hy hb h3
    by_cases h4 : k = 4
    · cases hn : nameB (pText 24 l1 0).1 with
      | true => exact value_d4t H r l bad w h k l1 b1 hy hb h4 hn
      | false => exact value_d4f H r l bad w h k l1 b1 hy hb h4 hn
    by_cases h5 : k = 5
    · exact value_d5 H r l bad w h k l1 b1 hy hb h5
    · exact value_d6 H r l bad w h k l1 b1 hy hb (by omega)
  · exact value_de H r l bad w h k l1 b1 hy hb

/-- What a read row leaves. -/
def RowD (H r : Nat) (X : Rs (List V)) (w : World) (e : Ending) (w' : World) : Prop :=
  ∃ q d cap l' b', e = .returned (.slice q d.length cap) ∧ Sim X (d.map (·.1)) l' b' ∧ d.length ≤ 16 ∧ RdTo H r l' b' w w' ∧ VRow w.heap.size r w' q d cap
set_option maxRecDepth 100000 in
set_option maxHeartbeats 8000000 in
theorem row_d (H r : Nat) (l : List UInt8) (bad : Nat) (w : World) (h : RdrR H r r l bad w) :
    Calls Try.prog 52 #[.pointer (some ⟨r, 0, none⟩)] w fun e w' => RowD H r (pAll pVal 16 l bad) w e w' := by
  obtain ⟨⟨n, l2, b2⟩, hY⟩ : ∃ y, pSmall 16 l bad = y := ⟨_, rfl⟩
  have hrel0 := LRel.start (p := pVal) hY
  obtain ⟨X, hXX⟩ : ∃ X, X = pAll pVal 16 l bad := ⟨_, rfl⟩
  rw [← hXX] at hrel0 ⊢
  have hn16 : n ≤ 16 := by have := Cd.pSmall_le 16 (by omega) l bad; rw [hY] at this; simp only at this; omega
  have HC2 := Lib.hid (dSmall_any r l bad 16 (by omega) w h.rd)
  rw [show rdG 0 (decS l ((16 : Nat) : Int)) l bad = (n, l2, b2) from hY] at HC2
  simp only at HC2
  have HR0L := Lib.hid hrel0
  have HH := Lib.hid h
  clear hY hrel0 hXX h
  obtain ⟨Pst, hPst⟩ : ∃ Pst : Ending → World → Prop, Pst = RowD H r X w := ⟨_, rfl⟩
  rw [show (fun e w' => RowD H r X w e w') = Pst from hPst.symm]
  have HPST := Lib.hid (fun e w' (h : RowD H r X w e w') => show Pst e w' by rw [hPst]; exact h)
  clear hPst
  go_enter Try.func52, Try.ntmps52
  go_wp2_with fail
  refine HC2.out.mono ?_
  rintro e w1 ⟨rfl, r1, o1⟩
  have T1 := Lib.hid (HH.out.step r1 o1).2
  clear r1 o1 HC2
  go_wp2_with fail
  go_loopw [3, 5] (fun lv iv wr => ∃ (i : Nat) (acc : List (V × Option Addr × Nat)) (li : List UInt8) (bi : Nat) (q : Option Addr) (cap : Nat), i ≤ n ∧ iv = .int .i64 i ∧ lv = .slice q acc.length cap ∧ acc.length = i ∧ VRow w.heap.size r wr q acc cap ∧ RdTo H r li bi w wr ∧ LRel pVal X (n - i) (acc.map (·.1)) li bi) (fun _ iv _ => n - (intOf iv).toNat)
  case atStart => exact ⟨0, [], l2, b2, none, 0, Nat.zero_le _, rfl, rfl, rfl, VRow.nil _ _ _, T1.out, HR0L.out⟩
  case round =>
    obtain ⟨i, acc, li, bi, q, cap, hin, rfl, rfl, hai, hown, ht, hrl⟩ := hrel
    by_cases hlt : i < n
    · have hii : (i : Int) < (n : Int) := by omega
      have HC := Lib.hid (value_d H r li bi wr ht.rdr)
      have hrl2 : LRel pVal X ((n - (i + 1)) + 1) (acc.map (·.1)) li bi := by rw [show n - (i + 1) + 1 = n - i by omega]; exact hrl
      have HNX := Lib.hid (fun v l4 b4 (s : Sim (pVal li bi) v l4 b4) => hrl2.next keeps_val s)
      have HT := Lib.hid ht
      have HOWN := Lib.hid hown
      have HAI := Lib.hid hai
      clear ht hown hai hrl hrl2
      go_wp2_with fail
      refine HC.out.mono ?_
      rintro e w3 ⟨qx, cx, x, l4, b4, rfl, hsim, t3, hn3, hf3⟩
      have hnx := HNX.out x l4 b4 hsim
      unfold valC
      have hR3 := t3.rdr
      have hown3 := HOWN.out.keep HT.out.rdr t3
      have hf4 : ∀ g off, qx = some ⟨g, off, none⟩ → x.list ≠ [] → OffR r g w3 ∧ some g ≠ (Value.slice q acc.length cap).ownBlock ∧ w.heap.size ≤ g := fun g off e hn => ⟨(hf3 g off e hn).2, fun e2 => by
        have h1 := (World.ownsRow.lt HOWN.out.own g e2.symm).2
        have h2 := (hf3 g off e hn).1
        omega, by have h2 := (hf3 g off e hn).1; have := HT.out.size; omega⟩
      have hws : w.heap.size ≤ w3.heap.size := Nat.le_trans HT.out.size t3.size
      obtain ⟨q5, cap5, w5, hrun, hown5, hgrow⟩ := hown3.app hR3 hws (by have := HAI.out; omega) x qx cx hn3 hf4 w3.heap.size rfl
      have kk := (Below.refl w3.heap.size w3).alloc (Nat.le_refl _) (.cells #[.int .i64 x.kind, .int .i64 x.num, .string (S x.text), .slice qx x.list.length cx] 25)
      have hoff5 := off_row (hR3.below kk) (hown3.below hR3 kk).own ne_val.1 ne_val.2
      have HT5 := Lib.hid (((HT.out.trans t3).trans (RdTo.of_below hR3 kk)).grown HH.out.size hgrow (fun g hg => ⟨(World.ownsRow.lt hown3.own g hg).1, hoff5 g hg⟩))
      have HRUN := Lib.hid hrun
      have HO5 := Lib.hid hown5
      have HX5 := Lib.hid hnx
      clear hrun hown5 hgrow kk hoff5 hnx hsim t3 hn3 hf3 hf4 hR3 hown3 hws
      go_wp2_with (at_builtin; refine wpList_app rfl _ _ _ _ rfl rfl rfl _ _ HRUN.out ?_)
      go_wp2_with fail
      go_roundw
      case rel => exact ⟨i + 1, acc ++ [(x, qx, cx)], l4, b4, q5, cap5, by omega, by go_num, by rw [List.length_append]; rfl, by have := HAI.out; simp; omega, HO5.out, HT5.out, by have := HX5.out; rw [List.map_append]; exact this⟩
      case measure => simp [intOf]; omega
    · have hie : i = n := by omega
      have hii : ¬ (i : Int) < (n : Int) := by omega
      rw [hie, Nat.sub_self] at hrl
      have hl16 : acc.length ≤ 16 := by omega
      have HL16 := Lib.hid hl16
      have HT := Lib.hid ht
      have HOWN := Lib.hid hown
      have HS := Lib.hid hrl.fin
      clear ht hown hrl hai hl16
      rw [hie] at hii
      clear hie hin
      go_wp2_with fail
      exact HPST.out _ _ ⟨q, acc, cap, li, bi, rfl, HS.out, HL16.out, HT.out, HOWN.out⟩

theorem keeps_mail : Keeps pMail := fun l b h => by
  unfold pMail
  simp only
  have h1 := keeps_num l b h
  have h2 := keeps_text 24 (pNum l b).2.1 (pNum l b).2.2 (by rw [h1]; exact h)
  have h3 := keeps_all pVal 16 (pText 24 (pNum l b).2.1 (pNum l b).2.2).2.1 (pText 24 (pNum l b).2.1 (pNum l b).2.2).2.2 (by rw [h2, h1]; exact h)
  rw [keeps_all pVal 16 _ _ (by rw [h3, h2, h1]; exact h), h3, h2, h1]
theorem Sim.zero {α : Type} {p : List UInt8 → Nat → Rs α} (hk : Keeps p) {z : α} {l l2 : List UInt8} {b b2 : Nat} (g : Sim (p l b) z l2 b2) (h : b2 = 0) : b = 0 := by
  by_cases hb : b = 0
  · exact hb
  · rw [g.1, hk l b hb] at h; exact h
/-- What a read message leaves. -/
def MailD (H r : Nat) (X : Rs MailP) (w : World) (e : Ending) (w' : World) : Prop :=
  ∃ ka dk kc fa df fc id ch l' b', e = .returned (.agg #[.int .i64 id, .string (S ch), .slice ka dk.length kc, .slice fa df.length fc]) ∧ Sim X ⟨id, ch, dk.map (·.1), df.map (·.1)⟩ l' b' ∧ dk.length ≤ 16 ∧ df.length ≤ 16 ∧ RdTo H r l' b' w w' ∧ VRow w.heap.size r w' ka dk kc ∧ VRow w.heap.size r w' fa df fc
set_option maxRecDepth 100000 in
set_option maxHeartbeats 8000000 in
theorem mail_d (H r : Nat) (l : List UInt8) (bad : Nat) (w : World) (h : RdrR H r r l bad w) :
    Calls Try.prog 38 #[.pointer (some ⟨r, 0, none⟩)] w fun e w' => MailD H r (pMail l bad) w e w' := by
  obtain ⟨⟨i, l1, b1⟩, hi⟩ : ∃ y, pNum l bad = y := ⟨_, rfl⟩
  obtain ⟨⟨c, l2, b2⟩, hc⟩ : ∃ y, pText 24 l1 b1 = y := ⟨_, rfl⟩
  obtain ⟨K, hk⟩ : ∃ y, pAll pVal 16 l2 b2 = y := ⟨_, rfl⟩
  obtain ⟨F, hf⟩ : ∃ y, pAll pVal 16 K.2.1 K.2.2 = y := ⟨_, rfl⟩
  have hX : pMail l bad = (⟨i, c, K.1, F.1⟩, F.2) := by unfold pMail; simp only [hi, hc, hk, hf]
  rw [hX]
  have HSIM := Lib.hid (fun v1 l3 b3 v2 l4 b4 (s1 : Sim (pAll pVal 16 l2 b2) v1 l3 b3) (s2 : Sim (pAll pVal 16 l3 b3) v2 l4 b4) => show Sim ((⟨i, c, K.1, F.1⟩, F.2) : Rs MailP) ⟨i, c, v1, v2⟩ l4 b4 from by
    rw [hk] at s1
    have s3 := s1.next (keeps_all pVal 16) s2
    rw [hf] at s3
    refine ⟨s3.1, fun h0 => ?_⟩
    have hb3 := s2.zero (keeps_all pVal 16) h0
    obtain ⟨e1, _⟩ := s1.2 hb3
    obtain ⟨e2, e3⟩ := s3.2 h0
    rw [e1, e2]
    exact ⟨rfl, e3⟩)
  have kk := (Below.refl w.heap.size w).alloc (Nat.le_refl _) (.cells #[.int .i64 0, .string ⟨#[]⟩, .slice none 0 0, .slice none 0 0] 33)
  have hR0 := h.below kk
  have HZ := Lib.hid (heap_alloc_new w (.cells #[.int .i64 0, .string ⟨#[]⟩, .slice none 0 0, .slice none 0 0] 33))
  have HFZ := Lib.hid (h.off_new (.cells #[.int .i64 0, .string ⟨#[]⟩, .slice none 0 0, .slice none 0 0] 33))
  have HN := Lib.hid (dNumber_any r l bad _ hR0.rd)
  unfold pNum at hi
  rw [hi] at HN
  have HT0 := Lib.hid (RdTo.of_below h kk)
  have HR0 := Lib.hid hR0
  have HH := Lib.hid h.size
  have HC2 := Lib.hid (fun W (hR : RdrR H r r l1 b1 W) => dText_any r l1 b1 24 (by omega) W hR.rd)
  rw [show rdG [] (decX l1 ((24 : Nat) : Int)) l1 b1 = (c, l2, b2) from hc] at HC2
  simp only at HC2 HN
  have HS0 := Lib.hid (show (w.alloc (.cells #[.int .i64 0, .string ⟨#[]⟩, .slice none 0 0, .slice none 0 0] 33)).heap.size = w.heap.size + 1 by simp)
  obtain ⟨Pst, hPst⟩ : ∃ Pst : Ending → World → Prop, Pst = MailD H r (⟨i, c, K.1, F.1⟩, F.2) w := ⟨_, rfl⟩
  rw [show (fun e w' => MailD H r (⟨i, c, K.1, F.1⟩, F.2) w e w') = Pst from hPst.symm]
  have HPST := Lib.hid (fun e w' (h : MailD H r (⟨i, c, K.1, F.1⟩, F.2) w e w') => show Pst e w' by rw [hPst]; exact h)
  clear h kk hR0 hX hi hc hk hf hPst
  go_enter Try.func38, Try.ntmps38
  go_wp2_with fail
  refine HN.out.mono ?_
  rintro e w1 ⟨rfl, r1, o1⟩
  obtain ⟨hR1, t1⟩ := HR0.out.step r1 o1
  have HR1 := Lib.hid hR1
  have T1 := Lib.hid t1
  clear r1 o1 hR1 t1
  go_wp2_with fail
  refine (HC2.out _ HR1.out).mono ?_
  rintro e w2 ⟨rfl, r2, o2⟩
  obtain ⟨hR2, t2⟩ := HR1.out.step r2 o2
  have HR2 := Lib.hid hR2
  have T2 := Lib.hid (T1.out.trans t2)
  clear t2 hR2 r2 o2
  go_wp2_with fail
  refine (row_d H r l2 b2 _ HR2.out).mono ?_
  rintro e w3 ⟨ka, dk, kc, l3, b3, rfl, s1, hk16, t3, vk⟩
  have HR3 := Lib.hid t3.rdr
  have T3 := Lib.hid (T2.out.trans t3)
  have VK := Lib.hid vk
  have S1 := Lib.hid s1
  have HK16 := Lib.hid hk16
  clear t3 vk s1 hk16
  go_wp2_with fail
  refine (row_d H r l3 b3 _ HR3.out).mono ?_
  rintro e w4 ⟨fa, df, fc, l4, b4, rfl, s2, hf16, t4, vf⟩
  have T4 := T3.out.trans t4
  obtain ⟨hz, fz⟩ := T4.box HZ.out HFZ.out
  have a0 := T2.out.size
  have a1 := T3.out.size
  have a2 := HS0.out
  have hlt : w.heap.size < w2.heap.size := by omega
  have vk4 := (VK.out.keep HR3.out t4).mono (B' := w.heap.size + 1) (by omega)
  have vf4 := vf.mono (B' := w.heap.size + 1) (by omega)
  have hne : w.heap.size ≠ r := fz.1
  have VK5 := Lib.hid (((((vk4.set (j := 0) (Nat.lt_succ_self _) hne (.int .i64 i)).set (j := 1) (Nat.lt_succ_self _) hne (.string (S c))).set (j := 2) (Nat.lt_succ_self _) hne (.slice ka dk.length kc)).set (j := 3) (Nat.lt_succ_self _) hne (.slice fa df.length fc)).mono (Nat.le_succ _))
  have VF5 := Lib.hid (((((vf4.set (j := 0) (Nat.lt_succ_self _) hne (.int .i64 i)).set (j := 1) (Nat.lt_succ_self _) hne (.string (S c))).set (j := 2) (Nat.lt_succ_self _) hne (.slice ka dk.length kc)).set (j := 3) (Nat.lt_succ_self _) hne (.slice fa df.length fc)).mono (Nat.le_succ _))
  have HTE := Lib.hid ((HT0.out.trans T4).bput HH.out (Nat.le_refl _) fz (.int .i64 i) (.string (S c)) (.slice ka dk.length kc) (.slice fa df.length fc))
  have z0 := cell_of_row w4 w.heap.size 0 _ _ _ hz
  have z1 := cell_of_row w4 w.heap.size 1 _ _ _ hz
  have z2 := cell_of_row w4 w.heap.size 2 _ _ _ hz
  have z3 := cell_of_row w4 w.heap.size 3 _ _ _ hz
  have f0 := fun j => frozen_of_row w4 w.heap.size j _ _ hz
  have HP := Lib.hid (heap_setCell_same _ w.heap.size 3 _ _ (.slice fa df.length fc) (heap_setCell_same _ w.heap.size 2 _ _ (.slice ka dk.length kc) (heap_setCell_same _ w.heap.size 1 _ _ (.string (S c)) (heap_setCell_same w4 w.heap.size 0 _ _ (.int .i64 i) hz))))
  have HSS := Lib.hid (HSIM.out _ _ _ _ _ _ S1.out s2)
  have HF16 := Lib.hid hf16
  clear T4 hz fz a0 a1 a2 hlt vk4 vf4 hne t4 vf s2 hf16
  go_wp2_with fail
  refine bodyPost_ret (results_cell_row rfl _ _ w.heap.size _ _ _ _ rfl HP.out Try.underlying33 rfl (by kernel_rfl)) rfl (HPST.out _ _ ⟨ka, dk, kc, fa, df, fc, i, c, l4, b4, rfl, HSS.out, HK16.out, HF16.out, HTE.out, VK5.out, VF5.out⟩)
end Go.Proofs.Ytkdhchdhgmaolaa.Dd
