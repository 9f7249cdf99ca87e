/-
  The document's own answer for values: Same, Order.
-/
import Derived.Test.YtjndgfppjdobiaaGreatDoorVaRight
import Derived.Deep.RegionHeld3
import Derived.WalkLawsBesides
namespace Go.Proofs.YtjndgfppjdobiaaGreatDoor.Va
open Go.RowKit

theorem less_T : ∀ (a b : List UInt8), a ≠ b → ordT a b = if Op.bytesLess a b = true then -1 else 1
  | [], [], h => absurd rfl h
  | [], _ :: _, _ => by simp [ordT, Op.bytesLess]
  | _ :: _, [], _ => by simp [ordT, Op.bytesLess]
  | a :: r, b :: s, h => by
    unfold ordT Op.bytesLess
    by_cases e : a = b
    · subst e
      have h2 : r ≠ s := fun e => h (by rw [e])
      rw [if_pos rfl, less_T r s h2]
      have : ¬ a < a := UInt8.lt_irrefl a
      simp [this]
    · rw [if_neg e]
      have e1 : (a == b) = false := by simpa using e
      rw [e1]
      have e2 : a.toNat ≠ b.toNat := fun h => e (UInt8.toNat_inj.1 h)
      unfold ordI
      by_cases hl : a < b
      · have := UInt8.lt_iff_toNat_lt.1 hl
        rw [if_pos (by omega)]; simp [hl]
      · have : ¬ a.toNat < b.toNat := fun h => hl (UInt8.lt_iff_toNat_lt.2 h)
        rw [if_neg (by omega), if_pos (by omega)]; simp [hl]
def preB (x y : List Int) (k : Nat) : Bool := x.take k == y.take k
theorem preB_zero (x y : List Int) : preB x y 0 = true := by simp [preB]
theorem preB_succ (x y : List Int) (k : Nat) (hx : k < x.length) (hy : k < y.length) : preB x y (k + 1) = (preB x y k && x.getD k 0 == y.getD k 0) := by
  unfold preB
  rw [Bool.eq_iff_iff]
  simp only [beq_iff_eq, Bool.and_eq_true]
  rw [List.take_succ_eq_append_getElem hx, List.take_succ_eq_append_getElem hy]
  have e1 : x.getD k 0 = x[k] := by simp [List.getD, hx]
  have e2 : y.getD k 0 = y[k] := by simp [List.getD, hy]
  rw [e1, e2]
  constructor
  · intro h
    have := List.append_inj h (by simp; omega)
    exact ⟨this.1, by simpa using this.2⟩
  · rintro ⟨h1, h2⟩; rw [h1, h2]
theorem preB_all (x y : List Int) (h : x.length = y.length) : preB x y x.length = (x == y) := by unfold preB; rw [List.take_length, h, List.take_length]
theorem preB_false (x y : List Int) (k : Nat) (h : preB x y k = false) : (x == y) = false := by
  unfold preB at h
  simp only [beq_eq_false_iff_ne, ne_eq] at h ⊢
  exact fun e => h (by rw [e])
theorem ordL_pre : ∀ (x y : List Int) (k : Nat), k ≤ x.length → k ≤ y.length → preB x y k = true → ordL x y = ordL (x.drop k) (y.drop k)
  | _, _, 0, _, _, _ => rfl
  | [], _, k + 1, h, _, _ => by simp at h
  | _ :: _, [], k + 1, _, h, _ => by simp at h
  | a :: r, b :: s, k + 1, h1, h2, h => by
    simp only [preB, List.take_succ_cons, beq_iff_eq, List.cons.injEq] at h
    show (if a = b then ordL r s else _) = ordL (r.drop k) (s.drop k)
    rw [if_pos h.1]
    exact ordL_pre r s k (by simpa using h1) (by simpa using h2) (by simp [preB, h.2])
theorem ordL_at (x y : List Int) (k : Nat) (hx : k < x.length) (hy : k < y.length) (h : preB x y k = true) (hne : x.getD k 0 ≠ y.getD k 0) : ordL x y = ordI (x.getD k 0) (y.getD k 0) := by
  rw [ordL_pre x y k (by omega) (by omega) h, List.drop_eq_getElem_cons hx, List.drop_eq_getElem_cons hy]
  have e1 : x.getD k 0 = x[k] := by simp [List.getD, hx]
  have e2 : y.getD k 0 = y[k] := by simp [List.getD, hy]
  rw [e1, e2] at hne ⊢
  show (if x[k] = y[k] then _ else _) = _
  rw [if_neg hne]
theorem ordL_end (x y : List Int) (k : Nat) (hx : k ≤ x.length) (hy : k ≤ y.length) (he : k = x.length ∨ k = y.length) (h : preB x y k = true) : ordL x y = ordI x.length y.length := by
  rw [ordL_pre x y k hx hy h]
  rcases he with e | e
  · rw [e, List.drop_length]
    by_cases h2 : x.length = y.length
    · rw [h2, List.drop_length]; simp [ordL, ordI]
    · have : y.drop x.length ≠ [] := fun e2 => by have := congrArg List.length e2; simp at this; omega
      cases hd : y.drop x.length with
      | nil => exact absurd hd this
      | cons => unfold ordI; rw [if_pos (by omega)]; rfl
  · rw [e, List.drop_length]
    by_cases h2 : x.length = y.length
    · rw [← h2, List.drop_length]; simp [ordL, ordI]
    · have : x.drop y.length ≠ [] := fun e2 => by have := congrArg List.length e2; simp at this; omega
      cases hd : x.drop y.length with
      | nil => exact absurd hd this
      | cons => unfold ordI; rw [if_neg (by omega), if_pos (by omega)]; rfl

def sameV (a b : V) : Bool := a.kind == b.kind && a.num == b.num && a.text == b.text && a.list == b.list
theorem sameV_iff (a b : V) : sameV a b = true ↔ a = b := by
  obtain ⟨k, n, t, l⟩ := a
  obtain ⟨k', n', t', l'⟩ := b
  simp [sameV, and_assoc]

theorem S_beq (t t' : List UInt8) : ((S t).toList == (S t').toList) = (t == t') := by rw [ByteArray.toList_eq, ByteArray.toList_eq, S_toList, S_toList]
theorem S_less (t t' : List UInt8) : Op.bytesLess (S t).toList (S t').toList = Op.bytesLess t t' := by rw [ByteArray.toList_eq, ByteArray.toList_eq, S_toList, S_toList]

theorem lt_of_heapV {w : World} {k : Nat} {o : Obj} (h : w.heap[k]? = some o) : k < w.heap.size := by
  rw [Array.getElem?_eq_some_iff] at h
  exact h.1
def boxO (k n : Int) (t : List UInt8) (len : Nat) (a : Option Addr) (cap : Nat) : Obj := .cells #[.int .i64 k, .int .i64 n, .string (S t), .slice a len cap] 67
/-- Behind k numbers of both lists, which are the same or not. -/
def SameR (w W0 : World) (x y : List Int) (k : Nat) (ok : Bool) (wr : World) : Prop := k ≤ x.length ∧ ok = preB x y k ∧ Below W0.heap.size W0 wr ∧ Below w.heap.size w wr

set_option linter.unusedSimpArgs false
end Go.Proofs.YtjndgfppjdobiaaGreatDoor.Va
