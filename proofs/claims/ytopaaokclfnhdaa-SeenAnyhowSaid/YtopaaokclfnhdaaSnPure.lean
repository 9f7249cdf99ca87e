/-
  Lists of numbers that rise: plain mathematics.
-/
import Init
namespace Go.Proofs.Ytopaaokclfnhdaa.Sn

/-- The numbers rise. -/
def upB (l : List Int) : Bool := decide (l.Pairwise (· < ·))
theorem upB_iff {l : List Int} : upB l = true ↔ l.Pairwise (· < ·) := by unfold upB; exact decide_eq_true_iff
theorem upB_at {l : List Int} : upB l = true ↔ ∀ i j, i < j → j < l.length → l.getD i 0 < l.getD j 0 := by
  rw [upB_iff, List.pairwise_iff_getElem]
  constructor
  · intro h i j hij hj
    have hi : i < l.length := by omega
    have := h i j hi hj hij
    simpa [List.getD, hi, hj] using this
  · intro h i j hi hj hij
    have := h i j hij hj
    simpa [List.getD, hi, hj] using this
/-- Each is above the one ahead of it. -/
theorem upB_adj {l : List Int} (h : ∀ i, i + 1 < l.length → l.getD i 0 < l.getD (i + 1) 0) : upB l = true := by
  rw [upB_at]
  intro i j hij hj
  induction j with
  | zero => omega
  | succ j ih =>
    have h1 := h j hj
    by_cases e : i = j
    · subst e; exact h1
    · have := ih (by omega) (by omega); omega
theorem upB_not {l : List Int} {i j : Nat} (hij : i < j) (hj : j < l.length) (h : l.getD j 0 ≤ l.getD i 0) : upB l = false := by
  cases e : upB l with
  | false => rfl
  | true => have := upB_at.1 e i j hij hj; omega
/-- What is known. -/
def knownB (l : List Int) (x : Int) : Bool := l.contains x && upB l
theorem getD_contains {l : List Int} {i : Nat} (hi : i < l.length) : l.contains (l.getD i 0) = true := by
  simp [List.getD, hi]
theorem contains_at {l : List Int} {x : Int} : l.contains x = true ↔ ∃ i, i < l.length ∧ l.getD i 0 = x := by
  rw [List.contains_iff_mem, List.mem_iff_getElem]
  constructor
  · rintro ⟨i, hi, e⟩; exact ⟨i, hi, by simp [List.getD, hi, e]⟩
  · rintro ⟨i, hi, e⟩; exact ⟨i, hi, by simpa [List.getD, hi] using e⟩
/-- One more, in its place. -/
def ins (l : List Int) (x : Int) : List Int := l.filter (fun y => decide (y < x)) ++ x :: l.filter (fun y => decide (x < y))
theorem mem_ins {l : List Int} {x y : Int} : y ∈ ins l x ↔ y = x ∨ y ∈ l := by
  simp only [ins, List.mem_append, List.mem_cons, List.mem_filter, decide_eq_true_eq]
  constructor
  · rintro (⟨h, _⟩ | h | ⟨h, _⟩)
    · exact .inr h
    · exact .inl h
    · exact .inr h
  · rintro (h | h)
    · exact .inr (.inl h)
    · rcases Int.lt_trichotomy y x with g | g | g
      · exact .inl ⟨h, g⟩
      · exact .inr (.inl g)
      · exact .inr (.inr ⟨h, g⟩)
theorem up_ins {l : List Int} (h : upB l = true) (x : Int) : upB (ins l x) = true := by
  rw [upB_iff] at h ⊢
  unfold ins
  rw [List.pairwise_append]
  refine ⟨h.filter _, ?_, ?_⟩
  · rw [List.pairwise_cons]
    refine ⟨fun y hy => ?_, h.filter _⟩
    simpa using (List.mem_filter.1 hy).2
  · intro a ha b hb
    have h1 : a < x := by simpa using (List.mem_filter.1 ha).2
    rcases List.mem_cons.1 hb with e | hb
    · omega
    · have h2 : x < b := by simpa using (List.mem_filter.1 hb).2
      omega
theorem len_ins {l : List Int} {x : Int} (hx : l.contains x = false) : (ins l x).length = l.length + 1 := by
  have hx' : x ∉ l := by intro h; rw [List.contains_iff_mem.2 h] at hx; cases hx
  clear hx
  have : (l.filter (fun y => decide (y < x))).length + (l.filter (fun y => decide (x < y))).length = l.length := by
    induction l with
    | nil => rfl
    | cons y r ih =>
      have h1 := ih (fun h => hx' (List.mem_cons_of_mem _ h))
      have h2 : y ≠ x := fun h => hx' (h ▸ List.mem_cons_self)
      simp only [List.filter_cons]
      rcases Int.lt_trichotomy y x with g | g | g
      · have g2 : ¬ x < y := by omega
        simp [g, g2]; omega
      · exact absurd g h2
      · have g2 : ¬ y < x := by omega
        simp [g, g2]; omega
  simp [ins]; omega
theorem len_ins_le (l : List Int) (x : Int) : (ins l x).length ≤ 2 * l.length + 1 := by
  have h1 := List.length_filter_le (fun y => decide (y < x)) l
  have h2 := List.length_filter_le (fun y => decide (x < y)) l
  simp [ins]; omega
/-- The place of a number in a list that rises. -/
theorem up_cut {l : List Int} (h : upB l = true) (x : Int) (k : Nat) (hk : k ≤ l.length) (h1 : ∀ t, t < k → l.getD t 0 < x) (h2 : ∀ t, k ≤ t → t < l.length → x ≤ l.getD t 0) (hx : l.contains x = false) :
    l.take k ++ x :: l.drop k = ins l x := by
  have e1 : l.filter (fun y => decide (y < x)) = l.take k := by
    conv => lhs; rw [← List.take_append_drop k l]
    rw [List.filter_append, List.filter_eq_self.2, List.filter_eq_nil_iff.2, List.append_nil]
    · intro y hy
      obtain ⟨i, hi, rfl⟩ := List.mem_iff_getElem.1 hy
      rw [List.length_drop] at hi
      have := h2 (k + i) (by omega) (by omega)
      rw [List.getElem_drop]
      rw [List.getD, List.getElem?_eq_getElem (by omega)] at this
      simp at this ⊢
      omega
    · intro y hy
      obtain ⟨i, hi, rfl⟩ := List.mem_iff_getElem.1 hy
      rw [List.length_take] at hi
      have := h1 i (by omega)
      rw [List.getElem_take]
      rw [List.getD, List.getElem?_eq_getElem (by omega)] at this
      simpa using this
  have e2 : l.filter (fun y => decide (x < y)) = l.drop k := by
    conv => lhs; rw [← List.take_append_drop k l]
    rw [List.filter_append, List.filter_eq_nil_iff.2, List.nil_append, List.filter_eq_self.2]
    · intro y hy
      have hm := List.mem_of_mem_drop hy
      have hne : y ≠ x := by rintro rfl; rw [List.contains_iff_mem.2 hm] at hx; cases hx
      obtain ⟨i, hi, rfl⟩ := List.mem_iff_getElem.1 hy
      rw [List.length_drop] at hi
      have := h2 (k + i) (by omega) (by omega)
      rw [List.getElem_drop] at hne ⊢
      rw [List.getD, List.getElem?_eq_getElem (by omega)] at this
      simp at this ⊢
      omega
    · intro y hy
      obtain ⟨i, hi, rfl⟩ := List.mem_iff_getElem.1 hy
      rw [List.length_take] at hi
      have := h1 i (by omega)
      rw [List.getElem_take]
      rw [List.getD, List.getElem?_eq_getElem (by omega)] at this
      simp at this ⊢
      omega
  unfold ins
  rw [e1, e2]
/-- The list with one more; or the first error. -/
def addM (l : List Int) (x : Int) (most : Int) : List Int × Int :=
  if upB l = false then ([], 4) else if l.contains x = true then ([], 45) else if most ≤ (l.length : Int) then ([], 42) else (ins l x, 0)
theorem addM_len {l : List Int} {x most : Int} {n : Nat} (h : l.length ≤ n) : (addM l x most).1.length ≤ n + 1 := by
  unfold addM
  by_cases h1 : upB l = false
  · simp [h1]
  · by_cases h2 : l.contains x = true
    · rw [if_neg h1, if_pos h2]; simp
    · rw [if_neg h1, if_neg h2]
      by_cases h3 : most ≤ (l.length : Int)
      · simp [h3]
      · rw [if_neg h3]
        have := len_ins (x := x) (l := l) (by simpa using h2)
        simp only []; omega
theorem addM_up {l : List Int} {x most : Int} (h : upB l = true) : addM l x most = if l.contains x = true then ([], 45) else if most ≤ (l.length : Int) then ([], 42) else (ins l x, 0) := by
  unfold addM; rw [if_neg (by rw [h]; simp)]
/-- Lists that rise with the same numbers are the same. -/
theorem up_ext : ∀ {l m : List Int}, upB l = true → upB m = true → (∀ y, y ∈ l ↔ y ∈ m) → l = m
  | [], [], _, _, _ => rfl
  | [], y :: r, _, _, h => absurd ((h y).2 List.mem_cons_self) (by simp)
  | x :: r, [], _, _, h => absurd ((h x).1 List.mem_cons_self) (by simp)
  | x :: r, y :: s, h1, h2, h => by
    rw [upB_iff, List.pairwise_cons] at h1 h2
    have exy : x = y := by
      have a := (h x).1 List.mem_cons_self
      have b := (h y).2 List.mem_cons_self
      rcases List.mem_cons.1 a with e | a
      · exact e
      · rcases List.mem_cons.1 b with e | b
        · exact e.symm
        · have := h1.1 y b; have := h2.1 x a; omega
    subst exy
    have := up_ext (upB_iff.2 h1.2) (upB_iff.2 h2.2) (fun z => by
      constructor
      · intro hz
        rcases List.mem_cons.1 ((h z).1 (List.mem_cons_of_mem _ hz)) with e | g
        · have := h1.1 z hz; omega
        · exact g
      · intro hz
        rcases List.mem_cons.1 ((h z).2 (List.mem_cons_of_mem _ hz)) with e | g
        · have := h2.1 z hz; omega
        · exact g)
    rw [this]
/-- Same, of two rows of numbers. -/
def sameN (a b : List Int) : Bool := a == b

end Go.Proofs.Ytopaaokclfnhdaa.Sn
