/-
  A token cut out of its text is the same token; plain mathematics.
-/
import Derived.Test.YtjndgfppjdobiaaGreatDoorLxScan
namespace Go.Proofs.YtjndgfppjdobiaaGreatDoor.Lx
open Va

theorem take_takeWhile (p : UInt8 → Bool) (l : List UInt8) : l.take (l.takeWhile p).length = l.takeWhile p := by
  induction l with
  | nil => rfl
  | cons c r ih =>
    simp only [List.takeWhile_cons]
    by_cases h : p c = true
    · rw [if_pos h, List.length_cons, List.take_succ_cons, ih]
    · rw [if_neg h]; rfl
theorem takeWhile_twice (p : UInt8 → Bool) (l : List UInt8) : (l.takeWhile p).takeWhile p = l.takeWhile p := by
  induction l with
  | nil => rfl
  | cons c r ih =>
    simp only [List.takeWhile_cons]
    by_cases h : p c = true
    · rw [if_pos h, List.takeWhile_cons, if_pos h, ih]
    · rw [if_neg h]; rfl
theorem find_mono {α : Type} (l : List α) (p q : α → Bool) (a : α) (h : l.find? p = some a) (ha : q a = true) (hm : ∀ b, q b = true → p b = true) : l.find? q = some a := by
  induction l with
  | nil => simp at h
  | cons b r ih =>
    rw [List.find?_cons] at h ⊢
    cases hp : p b with
    | true =>
      rw [hp] at h
      have e : b = a := by simpa using h
      rw [e, ha]
    | false =>
      rw [hp] at h
      have hq : q b = false := by
        cases hq : q b with
        | false => rfl
        | true => rw [hm b hq] at hp; cases hp
      rw [hq]
      exact ih h
theorem esc_ne (c : UInt8) : esc c ≠ [] := by
  intro h
  have h1 := unesc_esc c []
  rw [h] at h1
  simp [unesc] at h1
theorem quo_take : ∀ f l t n g, quo f l = some (t, n) → n ≤ g → quo g (l.take n) = some (t, n)
  | 0, l, t, n, g, h, _ => by simp [quo] at h
  | f + 1, l, t, n, g, h, hg => by
    have hn := quo_len _ l t n h
    obtain ⟨g, rfl⟩ : ∃ m, g = m + 1 := ⟨g - 1, by omega⟩
    unfold quo at h ⊢
    by_cases h34 : l.head? = some 34
    · rw [if_pos h34] at h
      have e : (([] : List UInt8), 1) = (t, n) := Option.some.inj h
      have e2 : (l.take n).head? = some 34 := by
        cases l with
        | nil => simp at h34
        | cons c r => rw [← (Prod.mk.inj e).2]; simpa using h34
      rw [if_pos e2]; exact h
    · rw [if_neg h34] at h
      cases hu : unesc l with
      | none => rw [hu] at h; cases h
      | some cr =>
        obtain ⟨c, r⟩ := cr
        rw [hu] at h
        simp only at h
        by_cases he : esc c ++ r = l
        · rw [if_pos he] at h
          cases hq : quo f r with
          | none => rw [hq] at h; cases h
          | some tn =>
            obtain ⟨t', n'⟩ := tn
            rw [hq] at h
            simp only [Option.some.injEq, Prod.mk.injEq] at h
            obtain ⟨h1, h2⟩ := h
            have hn' := quo_len _ r t' n' hq
            have e : l.take n = esc c ++ r.take n' := by
              rw [← he, ← h2, List.take_append]
              rw [List.take_of_length_le (by omega), Nat.add_sub_cancel_left]
            have hne : (esc c) ≠ [] := esc_ne c
            have e34 : (l.take n).head? ≠ some 34 := by
              rw [e]
              rw [← he] at h34
              cases hc : esc c with
              | nil => exact absurd hc hne
              | cons d s => rw [hc] at h34; simpa using h34
            have hlc : 1 ≤ (esc c).length := List.length_pos_iff.2 hne
            rw [if_neg e34, e, unesc_esc]
            simp only
            rw [if_pos trivial, quo_take f r t' n' g hq (by omega)]
            simp only
            rw [h1, h2]
        · rw [if_neg he] at h; cases h
theorem tok_take (l : List UInt8) (x : Tok) (h : tokM l = some x) : tokM (l.take x.len) = some x := by
  cases l with
  | nil => simp [tokM] at h
  | cons c r =>
    rw [tokM_cons] at h
    by_cases h39 : c = 39
    · rw [if_pos h39] at h
      by_cases hn : nameB (r.takeWhile wordB) = true
      · rw [if_pos hn] at h
        have hx : x = ⟨4, r.takeWhile wordB, 0, (r.takeWhile wordB).length + 1⟩ := (Option.some.inj h).symm
        subst hx
        simp only [List.take_succ_cons, take_takeWhile]
        rw [tokM_cons, if_pos h39, takeWhile_twice, if_pos hn]
      · rw [if_neg hn] at h; cases h
    · rw [if_neg h39] at h
      by_cases hl : letB c = true
      · rw [if_pos hl] at h
        by_cases hn : nameB ((c :: r).takeWhile wordB) = true
        · rw [if_pos hn] at h
          have hx : x = ⟨1, (c :: r).takeWhile wordB, 0, ((c :: r).takeWhile wordB).length⟩ := (Option.some.inj h).symm
          subst hx
          simp only [take_takeWhile]
          have hw := takeWhile_twice wordB (c :: r)
          have h0 := (nameB_ne hn).1
          have hc : ∃ s, (c :: r).takeWhile wordB = c :: s := by
            rw [List.takeWhile_cons] at h0 ⊢
            split at h0
            · rename_i hc; rw [if_pos hc]; exact ⟨_, rfl⟩
            · exact absurd rfl h0
          obtain ⟨s, hs⟩ := hc
          rw [hs] at hw hn ⊢
          rw [tokM_cons, if_neg h39, if_pos hl, hw, if_pos hn]
        · rw [if_neg hn] at h; cases h
      · rw [if_neg hl] at h
        by_cases hd : digB c = true
        · rw [if_pos hd] at h
          by_cases hn : digsOk ((c :: r).takeWhile digB) = true
          · rw [if_pos hn] at h
            have hx : x = ⟨2, (c :: r).takeWhile digB, undig ((c :: r).takeWhile digB), ((c :: r).takeWhile digB).length⟩ := (Option.some.inj h).symm
            subst hx
            simp only [take_takeWhile]
            have hw := takeWhile_twice digB (c :: r)
            have hc : (c :: r).takeWhile digB = c :: r.takeWhile digB := by rw [List.takeWhile_cons, if_pos hd]
            rw [hc] at hw hn ⊢
            rw [tokM_cons, if_neg h39, if_neg hl, if_pos hd, hw, if_pos hn]
          · rw [if_neg hn] at h; cases h
        · rw [if_neg hd] at h
          by_cases h34 : c = 34
          · rw [if_pos h34] at h
            cases hu : quo (r.length + 1) r with
            | none => rw [hu] at h; cases h
            | some tn =>
              obtain ⟨t, n⟩ := tn
              rw [hu] at h
              simp only at h
              by_cases h64 : t.length ≤ 64
              · rw [if_pos h64] at h
                have hx : x = ⟨3, t, 0, n + 1⟩ := (Option.some.inj h).symm
                subst hx
                have hlen := quo_len _ r t n hu
                simp only [List.take_succ_cons]
                rw [tokM_cons, if_neg h39, if_neg hl, if_neg hd, if_pos h34]
                rw [quo_take _ r t n ((r.take n).length + 1) hu (by rw [List.length_take]; omega)]
                simp only
                rw [if_pos h64]
              · rw [if_neg h64] at h; cases h
          · rw [if_neg h34] at h
            cases hf : signs.find? (fun s => s.isPrefixOf (c :: r)) with
            | none => rw [hf] at h; cases h
            | some s =>
              rw [hf] at h
              have hx : x = ⟨5, s, 0, s.length⟩ := (Option.some.inj h).symm
              subst hx
              have hsl := signs_short s (List.mem_of_find?_eq_some hf)
              have hp0 := List.find?_some hf
              have hp := List.isPrefixOf_iff_prefix.1 hp0
              have he : (c :: r).take s.length = s := (List.prefix_iff_eq_take.1 hp).symm
              simp only [he]
              obtain ⟨z, hz⟩ := hp
              match s, hsl, hz with
              | d :: s', _, hz =>
                have hdc : d = c := by simp at hz; exact hz.1
                subst hdc
                rw [tokM_cons, if_neg h39, if_neg hl, if_neg hd, if_neg h34]
                rw [find_mono signs _ (fun u => u.isPrefixOf (d :: s')) (d :: s') hf (by simp) (fun b hb => by
                  rw [List.isPrefixOf_iff_prefix] at hb ⊢
                  exact hb.trans ⟨z, hz⟩)]

end Go.Proofs.YtjndgfppjdobiaaGreatDoor.Lx
