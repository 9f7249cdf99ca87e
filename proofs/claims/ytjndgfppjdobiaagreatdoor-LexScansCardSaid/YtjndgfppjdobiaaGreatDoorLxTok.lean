/-
  A token stays the token where a blank, or nothing that goes on with it, stands behind it; plain mathematics.
-/
import Derived.Test.YtjndgfppjdobiaaGreatDoorLxPure
namespace Go.Proofs.YtjndgfppjdobiaaGreatDoor.Lx
open Va

theorem find_congr {α : Type} (l : List α) (p q : α → Bool) (h : ∀ a ∈ l, p a = q a) : l.find? p = l.find? q := by
  induction l with
  | nil => rfl
  | cons a r ih =>
    simp only [List.find?_cons]
    rw [h a (by simp), ih (fun b hb => h b (by simp [hb]))]
theorem white_not (c : UInt8) (h : whiteB c = true) : wordB c = false ∧ digB c = false := by
  have : ∀ i : Fin 256, whiteB (UInt8.ofNat i.val) = true → wordB (UInt8.ofNat i.val) = false ∧ digB (UInt8.ofNat i.val) = false := by decide +kernel
  have h1 := this ⟨c.toNat, c.toNat_lt⟩
  simp only [UInt8.ofNat_toNat] at h1
  exact h1 h
theorem signs_short : ∀ s ∈ signs, s.length ≤ 2 ∧ 1 ≤ s.length ∧ ∀ b, s[1]? = some b → whiteB b = false := by
  have : signs.all (fun s => decide (s.length ≤ 2) && decide (1 ≤ s.length) && (match s[1]? with | none => true | some b => !whiteB b)) = true := by decide
  intro s hs
  have h := List.all_eq_true.1 this s hs
  simp only [Bool.and_eq_true, decide_eq_true_eq] at h
  refine ⟨h.1.1, h.1.2, fun b hb => ?_⟩
  have h2 := h.2
  rw [hb] at h2
  simpa using h2
/-- What may stand behind a token. -/
def Dlm (q : List UInt8) : Prop := ∀ c, q.head? = some c → whiteB c = true
theorem sign_append (s l q : List UInt8) (hs : s ∈ signs) (h : 2 ≤ l.length ∨ (l.length = 1 ∧ Dlm q)) : s.isPrefixOf (l ++ q) = s.isPrefixOf l := by
  obtain ⟨h1, h2, h3⟩ := signs_short s hs
  rw [Bool.eq_iff_iff, List.isPrefixOf_iff_prefix, List.isPrefixOf_iff_prefix]
  by_cases hl : s.length ≤ l.length
  · rw [List.prefix_iff_eq_take, List.prefix_iff_eq_take, List.take_append_of_le_length hl]
  · have hl1 : l.length = 1 := by rcases h with h | h <;> omega
    have hd : Dlm q := by rcases h with h | h; omega; exact h.2
    constructor
    · intro hp
      exfalso
      match s, h1, h2, hl with
      | [a, b], _, _, _ =>
        match l, hl1 with
        | [c], _ =>
          cases q with
          | nil =>
            have := hp.length_le; simp at this
          | cons d r =>
            have h4 : a = c ∧ b = d := by
              obtain ⟨t, ht⟩ := hp
              simp at ht
              exact ⟨ht.1, ht.2.1⟩
            have := h3 b rfl
            rw [h4.2, hd d rfl] at this; cases this
      | [a], _, _, hl => exact absurd (show [a].length ≤ l.length by rw [hl1]; simp) hl
    · intro hp; have := hp.length_le; omega
theorem Dlm.word {q : List UInt8} (h : Dlm q) : ∀ c, q.head? = some c → wordB c = false := fun c hc => (white_not c (h c hc)).1
theorem Dlm.dig {q : List UInt8} (h : Dlm q) : ∀ c, q.head? = some c → digB c = false := fun c hc => (white_not c (h c hc)).2
theorem takeWhile_le (p : UInt8 → Bool) (l : List UInt8) : (l.takeWhile p).length ≤ l.length := by
  induction l with
  | nil => simp
  | cons c r ih => simp only [List.takeWhile_cons]; split <;> simp; omega
theorem tokM_cons (c : UInt8) (r : List UInt8) : tokM (c :: r) =
    if c = 39 then (if nameB (r.takeWhile wordB) = true then some ⟨4, r.takeWhile wordB, 0, (r.takeWhile wordB).length + 1⟩ else none)
    else if letB c = true then (if nameB ((c :: r).takeWhile wordB) = true then some ⟨1, (c :: r).takeWhile wordB, 0, ((c :: r).takeWhile wordB).length⟩ else none)
    else if digB c = true then (if digsOk ((c :: r).takeWhile digB) = true then some ⟨2, (c :: r).takeWhile digB, undig ((c :: r).takeWhile digB), ((c :: r).takeWhile digB).length⟩ else none)
    else if c = 34 then (match quo (r.length + 1) r with
      | none => none
      | some (t, n) => if t.length ≤ 64 then some ⟨3, t, 0, n + 1⟩ else none)
    else match signs.find? (fun s => s.isPrefixOf (c :: r)) with
      | none => none
      | some s => some ⟨5, s, 0, s.length⟩ := rfl
/-- A token, with more behind it. -/
theorem tok_append (l q : List UInt8) (x : Tok) (h : tokM l = some x) (hq : x.len < l.length ∨ Dlm q) : tokM (l ++ q) = some x := by
  cases l with
  | nil => simp [tokM] at h
  | cons c r =>
    rw [List.cons_append, tokM_cons]
    rw [tokM_cons] at h
    by_cases h39 : c = 39
    · rw [if_pos h39] at h ⊢
      by_cases hn : nameB (r.takeWhile wordB) = true
      · rw [if_pos hn] at h
        have hx : x = ⟨4, r.takeWhile wordB, 0, (r.takeWhile wordB).length + 1⟩ := (Option.some.inj h).symm
        have e : (r ++ q).takeWhile wordB = r.takeWhile wordB := takeWhile_append wordB r q (by
          rcases hq with hq | hq
          · left; rw [hx] at hq; simpa using hq
          · exact .inr hq.word)
        simp only [e, if_pos hn, hx]
      · rw [if_neg hn] at h; cases h
    · rw [if_neg h39] at h ⊢
      by_cases hl : letB c = true
      · rw [if_pos hl] at h ⊢
        by_cases hn : nameB ((c :: r).takeWhile wordB) = true
        · rw [if_pos hn] at h
          have hx : x = ⟨1, (c :: r).takeWhile wordB, 0, ((c :: r).takeWhile wordB).length⟩ := (Option.some.inj h).symm
          have e : ((c :: r) ++ q).takeWhile wordB = (c :: r).takeWhile wordB := takeWhile_append wordB (c :: r) q (by
            rcases hq with hq | hq
            · left; rw [hx] at hq; exact hq
            · exact .inr hq.word)
          rw [List.cons_append] at e
          simp only [e, if_pos hn, hx]
        · rw [if_neg hn] at h; cases h
      · rw [if_neg hl] at h ⊢
        by_cases hd : digB c = true
        · rw [if_pos hd] at h ⊢
          by_cases hn : digsOk ((c :: r).takeWhile digB) = true
          · rw [if_pos hn] at h
            have hx : x = ⟨2, (c :: r).takeWhile digB, undig ((c :: r).takeWhile digB), ((c :: r).takeWhile digB).length⟩ := (Option.some.inj h).symm
            have e : ((c :: r) ++ q).takeWhile digB = (c :: r).takeWhile digB := takeWhile_append digB (c :: r) q (by
              rcases hq with hq | hq
              · left; rw [hx] at hq; exact hq
              · exact .inr hq.dig)
            rw [List.cons_append] at e
            simp only [e, if_pos hn, hx]
          · rw [if_neg hn] at h; cases h
        · rw [if_neg hd] at h ⊢
          by_cases h34 : c = 34
          · rw [if_pos h34] at h ⊢
            cases hu : quo (r.length + 1) r with
            | none => rw [hu] at h; cases h
            | some tn =>
              rw [hu] at h
              rw [quo_append _ r q ((r ++ q).length + 1) tn hu (by simp)]
              exact h
          · rw [if_neg h34] at h ⊢
            have e : signs.find? (fun s => s.isPrefixOf (c :: (r ++ q))) = signs.find? (fun s => s.isPrefixOf (c :: r)) := by
              cases hf : signs.find? (fun s => s.isPrefixOf (c :: r)) with
              | none => rw [hf] at h; cases h
              | some s =>
                rw [hf] at h
                have hx : x = ⟨5, s, 0, s.length⟩ := (Option.some.inj h).symm
                rw [← hf]
                refine find_congr _ _ _ fun s' hs' => ?_
                have hsl := signs_short s (List.mem_of_find?_eq_some hf)
                exact sign_append s' (c :: r) q hs' (by
                  rcases hq with hq | hq
                  · left; rw [hx] at hq; simp only at hq; omega
                  · by_cases hr : 2 ≤ (c :: r).length
                    · exact .inl hr
                    · right
                      refine ⟨?_, hq⟩
                      simp only [List.length_cons] at hr ⊢
                      omega)
            rw [e]; exact h

end Go.Proofs.YtjndgfppjdobiaaGreatDoor.Lx
