/-
  Four cells of a block that the call makes, and what stays: small lemmas on worlds.
-/
import Derived.Test.YtndnfalkpkbpjabDoorMem
namespace Go.Proofs.YtndnfalkpkbpjabDoor.Fr
open Go.RowKit

/-- What the call has made so far stays, where nothing that is there changes. -/
theorem keepB {w a b : World} {o : Obj} (h : Below a.heap.size a b) (k : Below (w.heap.size + 1) (w.alloc o) a) : Below (w.heap.size + 1) (w.alloc o) b :=
  k.trans (h.mono (by have := k.size; simp at this; exact this))
theorem keepA {w a : World} {o : Obj} (k : Below (w.heap.size + 1) (w.alloc o) a) (o2 : Obj) : Below (w.heap.size + 1) (w.alloc o) (a.alloc o2) :=
  k.alloc (by have := k.size; simp at this; exact this) o2
theorem keepC {w a : World} {o o2 : Obj} (k : Below (w.heap.size + 1) (w.alloc o) (a.alloc o2)) (h : w.heap.size + 1 ≤ a.heap.size) (o3 : Obj) : Below (w.heap.size + 1) (w.alloc o) (a.alloc o3) :=
  ⟨k.os, k.tape, k.output, by simpa using k.size, fun i hi => by
    have := k.block i hi
    rw [Below.heap_alloc _ _ _ (by omega)] at this ⊢
    exact this⟩
theorem szB {w a b : World} {o : Obj} (h : Below a.heap.size a b) (k : Below (w.heap.size + 1) (w.alloc o) a) : w.heap.size + 1 ≤ b.heap.size := by
  have := (keepB h k).size
  simpa using this
theorem new4 {v b : World} {c0 c1 c2 c3 : Value} {T : TypeId} (h : Below (v.alloc (.cells #[c0, c1, c2, c3] T)).heap.size (v.alloc (.cells #[c0, c1, c2, c3] T)) b) :
    (b.cell? ⟨v.heap.size, 0, none⟩ = some c0 ∧ b.cell? ⟨v.heap.size, 1, none⟩ = some c1 ∧ b.cell? ⟨v.heap.size, 2, none⟩ = some c2 ∧ b.cell? ⟨v.heap.size, 3, none⟩ = some c3) ∧
    (b.frozen? ⟨v.heap.size, 0, none⟩ = false ∧ b.frozen? ⟨v.heap.size, 1, none⟩ = false ∧ b.frozen? ⟨v.heap.size, 2, none⟩ = false ∧ b.frozen? ⟨v.heap.size, 3, none⟩ = false) ∧ v.heap.size < b.heap.size := by
  have hs : v.heap.size < (v.alloc (.cells #[c0, c1, c2, c3] T)).heap.size := by simp
  have k := fun j => h.cell (p := ⟨v.heap.size, j, none⟩) hs
  have f := fun j => h.frozen (p := ⟨v.heap.size, j, none⟩) hs
  refine ⟨⟨(k 0).trans (by simp), (k 1).trans (by simp), (k 2).trans (by simp), (k 3).trans (by simp)⟩, ⟨(f 0).trans (by simp), (f 1).trans (by simp), (f 2).trans (by simp), (f 3).trans (by simp)⟩, Nat.lt_of_lt_of_le hs h.size⟩
theorem newF {w b : World} {o0 : Obj} {c0 c1 c2 c3 : Value} {T : TypeId} (h : Below (((w.alloc o0).alloc (.cells #[c0, c1, c2, c3] T)).drew).heap.size (((w.alloc o0).alloc (.cells #[c0, c1, c2, c3] T)).drew) b) :
    (b.cell? ⟨w.heap.size + 1, 0, none⟩ = some c0 ∧ b.cell? ⟨w.heap.size + 1, 1, none⟩ = some c1 ∧ b.cell? ⟨w.heap.size + 1, 2, none⟩ = some c2 ∧ b.cell? ⟨w.heap.size + 1, 3, none⟩ = some c3) ∧
    (b.frozen? ⟨w.heap.size + 1, 0, none⟩ = false ∧ b.frozen? ⟨w.heap.size + 1, 1, none⟩ = false ∧ b.frozen? ⟨w.heap.size + 1, 2, none⟩ = false ∧ b.frozen? ⟨w.heap.size + 1, 3, none⟩ = false) ∧ w.heap.size + 1 < b.heap.size := by
  have k := new4 (v := w.alloc o0) (c0 := c0) (c1 := c1) (c2 := c2) (c3 := c3) (T := T) (b := b) (((Below.refl _ _).drew).trans h)
  rw [show (w.alloc o0).heap.size = w.heap.size + 1 by simp] at k
  exact k
theorem newD {v b : World} {c0 c1 c2 c3 : Value} {T : TypeId} (h : Below ((v.alloc (.cells #[c0, c1, c2, c3] T)).drew).heap.size ((v.alloc (.cells #[c0, c1, c2, c3] T)).drew) b) :
    (b.cell? ⟨v.heap.size, 0, none⟩ = some c0 ∧ b.cell? ⟨v.heap.size, 1, none⟩ = some c1 ∧ b.cell? ⟨v.heap.size, 2, none⟩ = some c2 ∧ b.cell? ⟨v.heap.size, 3, none⟩ = some c3) ∧
    (b.frozen? ⟨v.heap.size, 0, none⟩ = false ∧ b.frozen? ⟨v.heap.size, 1, none⟩ = false ∧ b.frozen? ⟨v.heap.size, 2, none⟩ = false ∧ b.frozen? ⟨v.heap.size, 3, none⟩ = false) ∧ v.heap.size < b.heap.size :=
  new4 (((Below.refl _ _).drew).trans h)
theorem later4 {a b : World} {B : Nat} {c0 c1 c2 c3 : Value} (h : Below a.heap.size a b)
    (x : (a.cell? ⟨B, 0, none⟩ = some c0 ∧ a.cell? ⟨B, 1, none⟩ = some c1 ∧ a.cell? ⟨B, 2, none⟩ = some c2 ∧ a.cell? ⟨B, 3, none⟩ = some c3) ∧
      (a.frozen? ⟨B, 0, none⟩ = false ∧ a.frozen? ⟨B, 1, none⟩ = false ∧ a.frozen? ⟨B, 2, none⟩ = false ∧ a.frozen? ⟨B, 3, none⟩ = false) ∧ B < a.heap.size) :
    (b.cell? ⟨B, 0, none⟩ = some c0 ∧ b.cell? ⟨B, 1, none⟩ = some c1 ∧ b.cell? ⟨B, 2, none⟩ = some c2 ∧ b.cell? ⟨B, 3, none⟩ = some c3) ∧
      (b.frozen? ⟨B, 0, none⟩ = false ∧ b.frozen? ⟨B, 1, none⟩ = false ∧ b.frozen? ⟨B, 2, none⟩ = false ∧ b.frozen? ⟨B, 3, none⟩ = false) ∧ B < b.heap.size := by
  obtain ⟨⟨x0, x1, x2, x3⟩, ⟨f0, f1, f2, f3⟩, hs⟩ := x
  have k := fun j => h.cell (p := ⟨B, j, none⟩) hs
  have f := fun j => h.frozen (p := ⟨B, j, none⟩) hs
  exact ⟨⟨(k 0).trans x0, (k 1).trans x1, (k 2).trans x2, (k 3).trans x3⟩, ⟨(f 0).trans f0, (f 1).trans f1, (f 2).trans f2, (f 3).trans f3⟩, Nat.lt_of_lt_of_le hs h.size⟩

/-- Four cells of a block of the call's own. -/
def Fr4 (w : World) (B : Nat) (c0 c1 c2 c3 : Value) : Prop :=
  (w.cell? ⟨B, 0, none⟩ = some c0 ∧ w.cell? ⟨B, 1, none⟩ = some c1 ∧ w.cell? ⟨B, 2, none⟩ = some c2 ∧ w.cell? ⟨B, 3, none⟩ = some c3) ∧
    (w.frozen? ⟨B, 0, none⟩ = false ∧ w.frozen? ⟨B, 1, none⟩ = false ∧ w.frozen? ⟨B, 2, none⟩ = false ∧ w.frozen? ⟨B, 3, none⟩ = false) ∧ B < w.heap.size
theorem Fr4.alloc {c0 c1 c2 c3 : Value} {T : TypeId} (v : World) : Fr4 (v.alloc (.cells #[c0, c1, c2, c3] T)) v.heap.size c0 c1 c2 c3 :=
  ⟨⟨by simp, by simp, by simp, by simp⟩, ⟨by simp, by simp, by simp, by simp⟩, by simp⟩
theorem Fr4.set {a : World} {B : Nat} {c0 c1 c2 c3 d0 d1 d2 d3 : Value}
    (x : (a.cell? ⟨B, 0, none⟩ = some d0 ∧ a.cell? ⟨B, 1, none⟩ = some d1 ∧ a.cell? ⟨B, 2, none⟩ = some d2 ∧ a.cell? ⟨B, 3, none⟩ = some d3) ∧
      (a.frozen? ⟨B, 0, none⟩ = false ∧ a.frozen? ⟨B, 1, none⟩ = false ∧ a.frozen? ⟨B, 2, none⟩ = false ∧ a.frozen? ⟨B, 3, none⟩ = false) ∧ B < a.heap.size) :
    Fr4 ((((a.setCell ⟨B, 0, none⟩ c0).setCell ⟨B, 1, none⟩ c1).setCell ⟨B, 2, none⟩ c2).setCell ⟨B, 3, none⟩ c3) B c0 c1 c2 c3 := by
  obtain ⟨⟨x0, x1, x2, x3⟩, ⟨f0, f1, f2, f3⟩, hs⟩ := x
  have s0 := fun v : Value => World.cell?_setCell_same (w := a) (a := ⟨B, 0, none⟩) (v := v) (h := x0)
  have ne : ∀ i j : Nat, i ≠ j → (⟨B, i, none⟩ : Addr) ≠ ⟨B, j, none⟩ := fun i j h e => by injection e with _ e2 _; exact h e2
  have o := fun (w : World) (i j : Nat) (v : Value) (h : i ≠ j) => World.cell?_setCell_other (w := w) (a := ⟨B, i, none⟩) (b := ⟨B, j, none⟩) (v := v) (h := ne i j h)
  refine ⟨⟨?_, ?_, ?_, ?_⟩, ⟨?_, ?_, ?_, ?_⟩, ?_⟩
  · rw [o _ 3 0 _ (by omega), o _ 2 0 _ (by omega), o _ 1 0 _ (by omega), s0]
  · rw [o _ 3 1 _ (by omega), o _ 2 1 _ (by omega)]
    exact World.cell?_setCell_same (v := c1) (h := (o _ 0 1 _ (by omega)).trans x1)
  · rw [o _ 3 2 _ (by omega)]
    exact World.cell?_setCell_same (v := c2) (h := (o _ 1 2 _ (by omega)).trans ((o _ 0 2 _ (by omega)).trans x2))
  · exact World.cell?_setCell_same (v := c3) (h := (o _ 2 3 _ (by omega)).trans ((o _ 1 3 _ (by omega)).trans ((o _ 0 3 _ (by omega)).trans x3)))
  all_goals first | (simp only [World.frozen?_setCell]; assumption) | simpa using hs

/-- The result's four cells are written, and nothing else that was there. -/
theorem keepR {w a : World} {c0 c1 c2 c3 v0 v1 v2 v3 : Value} {T : TypeId} (k : Below (w.heap.size + 1) (w.alloc (.cells #[c0, c1, c2, c3] T)) a) :
    Below w.heap.size w ((((a.setCell ⟨w.heap.size, 0, none⟩ v0).setCell ⟨w.heap.size, 1, none⟩ v1).setCell ⟨w.heap.size, 2, none⟩ v2).setCell ⟨w.heap.size, 3, none⟩ v3) := by
  have h : Below w.heap.size w a := ((Below.refl _ _).alloc (Nat.le_refl _) _).trans (k.mono (by omega))
  exact (((h.setCell (Nat.le_refl _) _).setCell (Nat.le_refl _) _).setCell (Nat.le_refl _) _).setCell (Nat.le_refl _) _

end Go.Proofs.YtndnfalkpkbpjabDoor.Fr
