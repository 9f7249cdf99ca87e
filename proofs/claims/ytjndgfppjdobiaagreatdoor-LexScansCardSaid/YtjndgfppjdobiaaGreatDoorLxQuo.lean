/-
  A quoted string read loosely and held against its text; plain mathematics.
-/
import Derived.Test.YtjndgfppjdobiaaGreatDoorLxCuts
namespace Go.Proofs.YtjndgfppjdobiaaGreatDoor.Lx
open Va

theorem esc_head (c : UInt8) : ∃ x r, esc c = x :: r ∧ x ≠ 34 := by
  unfold esc
  by_cases h1 : (c < 32 || 126 < c) = true
  · rw [if_pos h1]; exact ⟨92, _, rfl, by decide⟩
  · rw [if_neg h1]
    by_cases h2 : (c == 34 || c == 92) = true
    · rw [if_pos h2]; exact ⟨92, _, rfl, by decide⟩
    · rw [if_neg h2]
      simp only [Bool.or_eq_true, beq_iff_eq, not_or] at h2
      exact ⟨c, [], rfl, h2.1⟩
theorem escT_cons (c : UInt8) (t : List UInt8) : escT (c :: t) = esc c ++ escT t := rfl
theorem escT_append (t s : List UInt8) : escT (t ++ s) = escT t ++ escT s := by unfold escT; rw [List.flatMap_append]
theorem esc_len1 (c : UInt8) : 1 ≤ (esc c).length := by
  have := esc_ne c
  cases h : esc c with
  | nil => exact absurd h this
  | cons => simp
theorem escT_ge (t : List UInt8) : t.length ≤ (escT t).length := by
  induction t with
  | nil => simp
  | cons c t ih => rw [escT_cons, List.length_append, List.length_cons]; have := esc_len1 c; omega
theorem quo_of : ∀ (t q : List UInt8) (f : Nat), t.length < f → quo f (escT t ++ 34 :: q) = some (t, (escT t).length + 1)
  | [], q, f, h => by
    obtain ⟨f, rfl⟩ : ∃ n, f = n + 1 := ⟨f - 1, by omega⟩
    show (if _ then _ else _) = _
    rw [if_pos (by simp [escT])]
    rfl
  | c :: t, q, f, h => by
    obtain ⟨f, rfl⟩ : ∃ n, f = n + 1 := ⟨f - 1, by omega⟩
    have ih := quo_of t q f (by simp at h; omega)
    rw [escT_cons, List.append_assoc]
    unfold quo
    have h34 : (esc c ++ (escT t ++ 34 :: q)).head? ≠ some 34 := by
      obtain ⟨x, r, e, hx⟩ := esc_head c
      rw [e]; simpa using hx
    rw [if_neg h34, unesc_esc]
    simp only
    rw [if_pos trivial, ih]
    simp only [Option.some.injEq, Prod.mk.injEq, true_and, List.length_append]
    omega
/-- The loose reader: what was collected, and what is left. -/
def Loose (r : List UInt8) (t0 : List UInt8) (k : Nat) : Prop := ∀ t q, r = escT t ++ 34 :: q → ∃ t1, t = t0 ++ t1 ∧ r.drop k = escT t1 ++ 34 :: q
theorem loose_zero (r : List UInt8) : Loose r [] 0 := fun t _ h => ⟨t, rfl, h⟩
theorem loose_step (r t0 : List UInt8) (k n : Nat) (b : UInt8) (h : Loose r t0 k) (hne : (r.drop k).head? ≠ some 34) (hb : ∀ c s, r.drop k = esc c ++ s → b = c ∧ n = (esc c).length) : Loose r (t0 ++ [b]) (k + n) := by
  intro t q e
  obtain ⟨t1, h1, h2⟩ := h t q e
  cases t1 with
  | nil => rw [h2] at hne; simp [escT] at hne
  | cons c t1 =>
    rw [escT_cons, List.append_assoc] at h2
    obtain ⟨rfl, rfl⟩ := hb c _ h2
    refine ⟨t1, by rw [h1, List.append_assoc]; rfl, ?_⟩
    rw [← List.drop_drop, h2, List.drop_left]
/-- At the end the text is what was collected, or there is none. -/
theorem loose_end (r t0 : List UInt8) (k : Nat) (h : Loose r t0 k) (hk : k ≤ r.length) (hend : k = r.length ∨ (r.drop k).head? = some 34) :
    (∀ t n, quo (r.length + 1) r = some (t, n) → t = t0 ∧ n = k + 1 ∧ r.take n = escT t ++ [34]) ∧ (r.take (k + 1) = escT t0 ++ [34] → quo (r.length + 1) r = some (t0, k + 1)) := by
  refine ⟨fun t n hq => ?_, fun e => ?_⟩
  · have e := quo_text _ _ _ _ hq
    have hn := quo_len _ _ _ _ hq
    have hr : r = escT t ++ 34 :: r.drop n := by
      conv => lhs; rw [← List.take_append_drop n r, e]
      simp
    obtain ⟨t1, h1, h2⟩ := h t _ hr
    have ht1 : t1 = [] := by
      rcases hend with hend | hend
      · rw [hend, List.drop_length] at h2
        cases t1 with
        | nil => rfl
        | cons c t1 => rw [escT_cons, List.append_assoc] at h2; exact absurd (List.append_eq_nil_iff.1 h2.symm).1 (esc_ne c)
      · cases t1 with
        | nil => rfl
        | cons c t1 =>
          obtain ⟨x, s, es, hx⟩ := esc_head c
          rw [h2, escT_cons, es] at hend
          simp at hend
          exact absurd hend hx
    subst ht1
    rw [List.append_nil] at h1
    subst h1
    refine ⟨rfl, ?_, e⟩
    have hl := congrArg List.length e
    have h3 := congrArg List.length h2
    rw [List.length_take] at hl
    simp only [List.length_append, List.length_cons, List.length_nil, List.length_drop] at hl h3
    simp [escT] at h3
    omega
  · have hr : r = escT t0 ++ 34 :: r.drop (k + 1) := by
      conv => lhs; rw [← List.take_append_drop (k + 1) r, e]
      simp
    have hl := congrArg List.length e
    rw [List.length_take] at hl
    simp only [List.length_append, List.length_cons, List.length_nil] at hl
    have hge := escT_ge t0
    have := quo_of t0 (r.drop (k + 1)) (r.length + 1) (by omega)
    rw [← hr] at this
    rw [this]
    have hlr := congrArg List.length hr
    simp only [List.length_append, List.length_cons, List.length_drop] at hlr
    have hkl : k + 1 ≤ r.length ∨ k = r.length := by omega
    rcases hkl with hkl | hkl
    · congr 2; omega
    · exfalso
      subst hkl
      obtain ⟨t1, h1, h2⟩ := h t0 _ hr
      rw [List.drop_length] at h2
      exact absurd h2 (by simp)

end Go.Proofs.YtjndgfppjdobiaaGreatDoor.Lx
