/-
  Blanks, by trimming and cutting; plain mathematics.
-/
import Derived.Test.YtjndgfppjdobiaaGreatDoorLxQuo
namespace Go.Proofs.YtjndgfppjdobiaaGreatDoor.Lx
open Va

/-- What stands behind the first line's end. -/
def aft : List UInt8 → List UInt8
  | [] => []
  | c :: r => if c = 10 then r else aft r
theorem aft_le : ∀ l, (aft l).length ≤ l.length - 1
  | [] => by simp [aft]
  | c :: r => by
    unfold aft
    have := aft_le r
    split <;> simp; omega
def trimW (l : List UInt8) : List UInt8 := l.dropWhile whiteB
theorem trimW_le (l : List UInt8) : (trimW l).length ≤ l.length := (List.dropWhile_sublist _).length_le
theorem blk_trim : ∀ l, blk false l = (l.length - (trimW l).length) + blk false (trimW l)
  | [] => by simp [blk, trimW]
  | c :: r => by
    unfold trimW
    rw [List.dropWhile_cons]
    by_cases h : whiteB c = true
    · rw [if_pos h, blk_f, if_pos h, blk_trim r]
      have := trimW_le r
      unfold trimW at this ⊢
      simp only [List.length_cons]
      omega
    · rw [if_neg h]; simp
theorem blk_aft : ∀ l, blk true l = (l.length - (aft l).length) + blk false (aft l)
  | [] => by simp [blk, aft]
  | c :: r => by
    rw [blk_t]
    unfold aft
    by_cases h : c = 10
    · rw [if_pos h, if_pos h]; simp only [List.length_cons]; omega
    · rw [if_neg h, if_neg h, blk_aft r]
      have := aft_le r
      simp only [List.length_cons]
      omega
theorem trimW_head (l : List UInt8) : ∀ c r, trimW l = c :: r → whiteB c = false := by
  intro c r h
  unfold trimW at h
  induction l with
  | nil => simp at h
  | cons d l ih =>
    rw [List.dropWhile_cons] at h
    by_cases hd : whiteB d = true
    · rw [if_pos hd] at h; exact ih h
    · rw [if_neg hd] at h; cases h; simpa using hd
def comB (l : List UInt8) : Bool := [47, 47].isPrefixOf l
theorem blk_com (l : List UInt8) (h : comB l = true) : blk false l = (l.length - (aft l).length) + blk false (aft l) ∧ (aft l).length + 2 ≤ l.length := by
  match l, h with
  | [], h => simp [comB, List.isPrefixOf] at h
  | [_], h => simp [comB, List.isPrefixOf] at h
  | c :: d :: r, h =>
    have h' : c = 47 ∧ d = 47 := by
      simp [comB, List.isPrefixOf] at h; exact ⟨h.1.symm, h.2.symm⟩
    obtain ⟨rfl, rfl⟩ := h'
    have h1 := aft_le r
    have e1 : aft (47 :: 47 :: r) = aft r := rfl
    rw [blk_f, if_neg (by decide), if_pos ⟨rfl, rfl⟩, blk_t, if_neg (by decide), blk_aft r, e1]
    simp only [List.length_cons]
    omega
theorem blk_none (l : List UInt8) (h : comB (trimW l) = false) : blk false (trimW l) = 0 := by
  cases e : trimW l with
  | nil => rfl
  | cons c r =>
    have hw := trimW_head l c r e
    rw [blk_f, if_neg (by rw [hw]; decide), if_neg]
    rintro ⟨rfl, h2⟩
    rw [e] at h
    cases r with
    | nil => simp at h2
    | cons d s =>
      have : d = 47 := by simpa using h2
      subst this
      simp [comB, List.isPrefixOf] at h
/-- One round of the trimming. -/
theorem blk_round (s l : List UInt8) (hl : l.length ≤ s.length) (h : blk false s = (s.length - l.length) + blk false l) (hc : comB (trimW l) = true) :
    (aft (trimW l)).length ≤ s.length ∧ blk false s = (s.length - (aft (trimW l)).length) + blk false (aft (trimW l)) ∧ (aft (trimW l)).length < l.length := by
  have h1 := trimW_le l
  obtain ⟨h2, h3⟩ := blk_com _ hc
  have h4 := blk_trim l
  omega
theorem blk_done (s l : List UInt8) (hl : l.length ≤ s.length) (h : blk false s = (s.length - l.length) + blk false l) (hc : comB (trimW l) = false) :
    blk false s = s.length - (trimW l).length := by
  have h1 := trimW_le l
  have h2 := blk_none l hc
  have h4 := blk_trim l
  omega

end Go.Proofs.YtjndgfppjdobiaaGreatDoor.Lx
