/-
  The document's own answer for values: rows of values; SameAll.
-/
import Derived.Test.YtjndgfppjdobiaaGreatDoorVaPrintB
namespace Go.Proofs.YtjndgfppjdobiaaGreatDoor.Va
open Go.RowKit

/-- A value in memory: its four cells. -/
def ValAt (w : World) (b o : Nat) (v : V) : Prop := ∃ a cap, w.cell? ⟨b, o, none⟩ = some (.int .i64 v.kind) ∧ w.cell? ⟨b, o + 1, none⟩ = some (.int .i64 v.num) ∧ w.cell? ⟨b, o + 2, none⟩ = some (.string (S v.text)) ∧
  w.cell? ⟨b, o + 3, none⟩ = some (.slice a v.list.length cap) ∧ NumsAt w a v.list
/-- A row of values among the arguments. -/
def ValsAt (w : World) (a : Option Addr) (vs : List V) : Prop := ∀ i, (h : i < vs.length) → ∃ b off, a = some ⟨b, off, none⟩ ∧ ValAt w b (off + i * 4) vs[i] ∧ b < w.heap.size
theorem ValAt.below {w w' : World} {b o : Nat} {v : V} (h : ValAt w b o v) (hl : b < w.heap.size) (k : Below w.heap.size w w') : ValAt w' b o v := by
  obtain ⟨a, cap, h0, h1, h2, h3, h4⟩ := h
  exact ⟨a, cap, (k.cell (p := ⟨b, o, none⟩) hl).trans h0, (k.cell (p := ⟨b, o + 1, none⟩) hl).trans h1, (k.cell (p := ⟨b, o + 2, none⟩) hl).trans h2, (k.cell (p := ⟨b, o + 3, none⟩) hl).trans h3, h4.below k⟩
theorem ValsAt.below {w w' : World} {a : Option Addr} {vs : List V} (h : ValsAt w a vs) (k : Below w.heap.size w w') : ValsAt w' a vs := fun i hi => by
  obtain ⟨b, off, e, hv, hl⟩ := h i hi
  exact ⟨b, off, e, hv.below hl k, Nat.lt_of_lt_of_le hl k.size⟩

def sameL : List V → List V → Bool
  | [], [] => true
  | x :: r, y :: s => sameV x y && sameL r s
  | _, _ => false
theorem sameL_iff : ∀ a b, sameL a b = true ↔ a = b
  | [], [] => by simp [sameL]
  | [], _ :: _ => by simp [sameL]
  | _ :: _, [] => by simp [sameL]
  | x :: r, y :: s => by simp [sameL, sameV_iff, sameL_iff r s]
theorem sameL_at {a b : List V} (k : Nat) (h1 : k < a.length) (h2 : k < b.length) (h : sameV a[k] b[k] = false) : sameL a b = false := by
  cases e : sameL a b with
  | false => rfl
  | true =>
    have := (sameL_iff a b).1 e
    subst this
    rw [(sameV_iff _ _).2 rfl] at h; cases h
theorem sameL_all {a b : List V} (hl : a.length = b.length) (h : ∀ k, (h1 : k < a.length) → (h2 : k < b.length) → sameV a[k] b[k] = true) : sameL a b = true := by
  rw [sameL_iff]
  exact List.ext_getElem hl fun k h1 h2 => (sameV_iff _ _).1 (h k h1 h2)

set_option linter.unusedSimpArgs false
end Go.Proofs.YtjndgfppjdobiaaGreatDoor.Va
