/-
  LxScan, LxTake.
-/
import Derived.Test.YtlmmfhbdebfgkaaGreatDoorYVaPureQ
namespace Go.Proofs.YtlmmfhbdebfgkaaGreatDoor.Lx
open Va
theorem quo_len : ∀ f l t n, quo f l = some (t, n) → 1 ≤ n ∧ n ≤ l.length
  | 0, l, t, n, h => by simp [quo] at h
  | f + 1, l, t, n, h => by
    unfold quo at h
    by_cases h34 : l.head? = some 34
    · rw [if_pos h34] at h
      simp only [Option.some.injEq, Prod.mk.injEq] at h
      cases l with
      | nil => simp at h34
      | cons c r => simp; omega
    · rw [if_neg h34] at h
      cases hu : unesc l with
      | none => rw [hu] at h; cases h
      | some cr =>
        obtain ⟨c, r⟩ := cr
        rw [hu] at h
        simp only at h
        by_cases he : esc c ++ r = l
        · rw [if_pos he] at h
          cases hq : quo f r with
          | none => rw [hq] at h; cases h
          | some tn =>
            obtain ⟨t', n'⟩ := tn
            rw [hq] at h
            simp only [Option.some.injEq, Prod.mk.injEq] at h
            have := quo_len f r t' n' hq
            have h2 := congrArg List.length he
            rw [List.length_append] at h2
            omega
        · rw [if_neg he] at h; cases h
theorem tok_len (l : List UInt8) (x : Tok) (h : tokM l = some x) : 1 ≤ x.len ∧ x.len ≤ l.length := by
  cases l with
  | nil => simp [tokM] at h
  | cons c r =>
    rw [tokM_cons] at h
    by_cases h39 : c = 39
    · rw [if_pos h39] at h
      split at h
      · rw [← Option.some.inj h]
        have := takeWhile_le wordB r
        simp; omega
      · cases h
    · rw [if_neg h39] at h
      by_cases hl : letB c = true
      · rw [if_pos hl] at h
        split at h
        · rename_i hn
          rw [← Option.some.inj h]
          have := takeWhile_le wordB (c :: r)
          have h0 := (nameB_ne hn).1
          exact ⟨List.length_pos_iff.2 h0, this⟩
        · cases h
      · rw [if_neg hl] at h
        by_cases hd : digB c = true
        · rw [if_pos hd] at h
          split at h
          · rw [← Option.some.inj h]
            have := takeWhile_le digB (c :: r)
            refine ⟨?_, this⟩
            simp only [List.takeWhile_cons, if_pos hd]; simp
          · cases h
        · rw [if_neg hd] at h
          by_cases h34 : c = 34
          · rw [if_pos h34] at h
            cases hu : quo (r.length + 1) r with
            | none => rw [hu] at h; cases h
            | some tn =>
              obtain ⟨t, n⟩ := tn
              rw [hu] at h
              simp only at h
              have := quo_len _ r t n hu
              split at h
              · rw [← Option.some.inj h]; simp; omega
              · cases h
          · rw [if_neg h34] at h
            cases hf : signs.find? (fun s => s.isPrefixOf (c :: r)) with
            | none => rw [hf] at h; cases h
            | some s =>
              rw [hf] at h
              rw [← Option.some.inj h]
              have h1 := signs_short s (List.mem_of_find?_eq_some hf)
              have h2 := List.find?_some hf
              have h3 := (List.isPrefixOf_iff_prefix.1 h2).length_le
              exact ⟨h1.2.1, h3⟩
theorem scan_step (f : Nat) (l : List UInt8) (a : Nat) : scanF (f + 1) l a =
    match l.drop (blk false l) with
    | [] => ([⟨0, [], 0, a + blk false l⟩], none)
    | m@(_ :: _) => match tokM m with
      | none => ([], some (a + blk false l))
      | some t => (⟨t.kind, t.text, t.num, a + blk false l⟩ :: (scanF f (m.drop t.len) (a + blk false l + t.len)).1, (scanF f (m.drop t.len) (a + blk false l + t.len)).2) := rfl
theorem scan_fuel : ∀ f g l a, l.length < f → l.length < g → scanF f l a = scanF g l a
  | 0, _, l, _, h, _ => by omega
  | _, 0, l, _, _, h => by omega
  | f + 1, g + 1, l, a, hf, hg => by
    rw [scan_step, scan_step]
    cases hm : l.drop (blk false l) with
    | nil => rfl
    | cons c r =>
      simp only
      cases ht : tokM (c :: r) with
      | none => rfl
      | some t =>
        simp only
        have h1 := tok_len _ t ht
        have h2 := congrArg List.length hm
        rw [List.length_drop] at h2
        have h3 : ((c :: r).drop t.len).length < f := by rw [List.length_drop]; omega
        have h4 : ((c :: r).drop t.len).length < g := by rw [List.length_drop]; omega
        rw [scan_fuel f g _ _ h3 h4]
def scanM (l : List UInt8) (a : Nat) : List TA × Option Nat := scanF (l.length + 1) l a
theorem scanM_eq (l : List UInt8) (a : Nat) : scanM l a =
    match l.drop (blk false l) with
    | [] => ([⟨0, [], 0, a + blk false l⟩], none)
    | m@(_ :: _) => match tokM m with
      | none => ([], some (a + blk false l))
      | some t => (⟨t.kind, t.text, t.num, a + blk false l⟩ :: (scanM (m.drop t.len) (a + blk false l + t.len)).1, (scanM (m.drop t.len) (a + blk false l + t.len)).2) := by
  unfold scanM
  rw [scan_step]
  cases hm : l.drop (blk false l) with
  | nil => rfl
  | cons c r =>
    simp only
    cases ht : tokM (c :: r) with
    | none => rfl
    | some t =>
      simp only
      have h1 := tok_len _ t ht
      have h2 := congrArg List.length hm
      rw [List.length_drop] at h2
      rw [scan_fuel l.length (((c :: r).drop t.len).length + 1) _ _ (by rw [List.length_drop]; omega) (by omega)]
theorem scan_glue : ∀ (n : Nat) (l q : List UInt8) (a : Nat) (ts : List TA), l.length ≤ n → scanM l a = (ts, none) →
    scanM (l ++ 10 :: q) a = (ts.dropLast ++ (scanM q (a + l.length + 1)).1, (scanM q (a + l.length + 1)).2) := by
  intro n
  induction n with
  | zero =>
    intro l q a ts hl h
    have e : l = [] := List.eq_nil_of_length_eq_zero (by omega)
    subst e
    have h1 : ts = [⟨0, [], 0, a⟩] := by
      have : scanM [] a = ([⟨0, [], 0, a⟩], none) := rfl
      rw [this] at h; exact (Prod.mk.inj h).1.symm
    rw [h1, List.nil_append]
    have hb : blk false (10 :: q) = 1 + blk false q := by rw [blk_f]; simp [whiteB]
    rw [scanM_eq (10 :: q), scanM_eq q, hb]
    have hd : (10 :: q : List UInt8).drop (1 + blk false q) = q.drop (blk false q) := by rw [Nat.add_comm]; rfl
    have ha : a + (1 + blk false q) = a + ([] : List UInt8).length + 1 + blk false q := by simp; omega
    rw [hd, ha]
    rfl
  | succ n ih =>
    intro l q a ts hl h
    rw [scanM_eq] at h
    cases hm : l.drop (blk false l) with
    | nil =>
      rw [hm] at h
      have hbl : blk false l = l.length := by
        have := congrArg List.length hm
        rw [List.length_drop] at this
        have := blk_le false l
        simp at *; omega
      have h1 : ts = [⟨0, [], 0, a + blk false l⟩] := (Prod.mk.inj h).1.symm
      rw [h1]
      have hb := blk_all false l q hbl
      rw [scanM_eq (l ++ 10 :: q), scanM_eq q, hb]
      have hd : (l ++ 10 :: q).drop (l.length + 1 + blk false q) = q.drop (blk false q) := by
        rw [Nat.add_assoc, List.drop_length_add_append, Nat.add_comm 1]; rfl
      have ha : a + (l.length + 1 + blk false q) = a + l.length + 1 + blk false q := by omega
      rw [hd, ha]
      rfl
    | cons c r =>
      rw [hm] at h
      simp only at h
      cases ht : tokM (c :: r) with
      | none => rw [ht] at h; cases h
      | some t =>
        rw [ht] at h
        simp only at h
        obtain ⟨h1, h2⟩ := Prod.mk.inj h
        have h3 := tok_len _ t ht
        have h4 := congrArg List.length hm
        rw [List.length_drop] at h4
        have hblt : blk false l < l.length := by simp at h4; omega
        have hb : blk false (l ++ 10 :: q) = blk false l := blk_append false l (10 :: q) hblt (by simp)
        have hd : (l ++ 10 :: q).drop (blk false l) = (c :: r) ++ 10 :: q := by rw [List.drop_append_of_le_length (by omega), hm]
        have htk := tok_append (c :: r) (10 :: q) t ht (.inr (fun c hc => by simp at hc; subst hc; rfl))
        have hdd : ((c :: r) ++ 10 :: q).drop t.len = (c :: r).drop t.len ++ 10 :: q := List.drop_append_of_le_length (by omega)
        have hih := ih ((c :: r).drop t.len) q (a + blk false l + t.len) (scanM ((c :: r).drop t.len) (a + blk false l + t.len)).1 (by rw [List.length_drop]; omega) (by rw [← h2])
        rw [scanM_eq (l ++ 10 :: q), hb, hd]
        have hcons : (c :: r) ++ 10 :: q = c :: (r ++ 10 :: q) := rfl
        rw [hcons]
        simp only
        rw [← hcons, htk]
        simp only
        rw [hdd, hih]
        have hlen : a + blk false l + t.len + ((c :: r).drop t.len).length + 1 = a + l.length + 1 := by rw [List.length_drop]; omega
        rw [hlen, ← h1]
        have hne : (scanM ((c :: r).drop t.len) (a + blk false l + t.len)).1 ≠ [] := by
          intro e
          have e2 := scanM_eq ((c :: r).drop t.len) (a + blk false l + t.len)
          rw [e2] at e h2
          split at e
          · cases e
          · split at e
            · rename_i hh _ ht2
              rw [hh] at h2
              simp only at h2
              rw [ht2] at h2
              cases h2
            · cases e
        rw [List.dropLast_cons_of_ne_nil hne, List.cons_append]
end Go.Proofs.YtlmmfhbdebfgkaaGreatDoor.Lx
namespace Go.Proofs.YtlmmfhbdebfgkaaGreatDoor.Lx
open Va
theorem take_takeWhile (p : UInt8 → Bool) (l : List UInt8) : l.take (l.takeWhile p).length = l.takeWhile p := by
  induction l with
  | nil => rfl
  | cons c r ih =>
    simp only [List.takeWhile_cons]
    by_cases h : p c = true
    · rw [if_pos h, List.length_cons, List.take_succ_cons, ih]
    · rw [if_neg h]; rfl
theorem takeWhile_twice (p : UInt8 → Bool) (l : List UInt8) : (l.takeWhile p).takeWhile p = l.takeWhile p := by
  induction l with
  | nil => rfl
  | cons c r ih =>
    simp only [List.takeWhile_cons]
    by_cases h : p c = true
    · rw [if_pos h, List.takeWhile_cons, if_pos h, ih]
    · rw [if_neg h]; rfl
theorem find_mono {α : Type} (l : List α) (p q : α → Bool) (a : α) (h : l.find? p = some a) (ha : q a = true) (hm : ∀ b, q b = true → p b = true) : l.find? q = some a := by
  induction l with
  | nil => simp at h
  | cons b r ih =>
    rw [List.find?_cons] at h ⊢
    cases hp : p b with
    | true =>
      rw [hp] at h
      have e : b = a := by simpa using h
      rw [e, ha]
    | false =>
      rw [hp] at h
      have hq : q b = false := by
        cases hq : q b with
        | false => rfl
        | true => rw [hm b hq] at hp; cases hp
      rw [hq]
      exact ih h
theorem esc_ne (c : UInt8) : esc c ≠ [] := by
  intro h
  have h1 := unesc_esc c []
  rw [h] at h1
  simp [unesc] at h1
theorem quo_take : ∀ f l t n g, quo f l = some (t, n) → n ≤ g → quo g (l.take n) = some (t, n)
  | 0, l, t, n, g, h, _ => by simp [quo] at h
  | f + 1, l, t, n, g, h, hg => by
    have hn := quo_len _ l t n h
    obtain ⟨g, rfl⟩ : ∃ m, g = m + 1 := ⟨g - 1, by omega⟩
    unfold quo at h ⊢
    by_cases h34 : l.head? = some 34
    · rw [if_pos h34] at h
      have e : (([] : List UInt8), 1) = (t, n) := Option.some.inj h
      have e2 : (l.take n).head? = some 34 := by
        cases l with
        | nil => simp at h34
        | cons c r => rw [← (Prod.mk.inj e).2]; simpa using h34
      rw [if_pos e2]; exact h
    · rw [if_neg h34] at h
      cases hu : unesc l with
      | none => rw [hu] at h; cases h
      | some cr =>
        obtain ⟨c, r⟩ := cr
        rw [hu] at h
        simp only at h
        by_cases he : esc c ++ r = l
        · rw [if_pos he] at h
          cases hq : quo f r with
          | none => rw [hq] at h; cases h
          | some tn =>
            obtain ⟨t', n'⟩ := tn
            rw [hq] at h
            simp only [Option.some.injEq, Prod.mk.injEq] at h
            obtain ⟨h1, h2⟩ := h
            have hn' := quo_len _ r t' n' hq
            have e : l.take n = esc c ++ r.take n' := by
              rw [← he, ← h2, List.take_append]
              rw [List.take_of_length_le (by omega), Nat.add_sub_cancel_left]
            have hne : (esc c) ≠ [] := esc_ne c
            have e34 : (l.take n).head? ≠ some 34 := by
              rw [e]
              rw [← he] at h34
              cases hc : esc c with
              | nil => exact absurd hc hne
              | cons d s => rw [hc] at h34; simpa using h34
            have hlc : 1 ≤ (esc c).length := List.length_pos_iff.2 hne
            rw [if_neg e34, e, unesc_esc]
            simp only
            rw [if_pos trivial, quo_take f r t' n' g hq (by omega)]
            simp only
            rw [h1, h2]
        · rw [if_neg he] at h; cases h
theorem tok_take (l : List UInt8) (x : Tok) (h : tokM l = some x) : tokM (l.take x.len) = some x := by
  cases l with
  | nil => simp [tokM] at h
  | cons c r =>
    rw [tokM_cons] at h
    by_cases h39 : c = 39
    · rw [if_pos h39] at h
      by_cases hn : nameB (r.takeWhile wordB) = true
      · rw [if_pos hn] at h
        have hx : x = ⟨4, r.takeWhile wordB, 0, (r.takeWhile wordB).length + 1⟩ := (Option.some.inj h).symm
        subst hx
        simp only [List.take_succ_cons, take_takeWhile]
        rw [tokM_cons, if_pos h39, takeWhile_twice, if_pos hn]
      · rw [if_neg hn] at h; cases h
    · rw [if_neg h39] at h
      by_cases hl : letB c = true
      · rw [if_pos hl] at h
        by_cases hn : nameB ((c :: r).takeWhile wordB) = true
        · rw [if_pos hn] at h
          have hx : x = ⟨1, (c :: r).takeWhile wordB, 0, ((c :: r).takeWhile wordB).length⟩ := (Option.some.inj h).symm
          subst hx
          simp only [take_takeWhile]
          have hw := takeWhile_twice wordB (c :: r)
          have h0 := (nameB_ne hn).1
          have hc : ∃ s, (c :: r).takeWhile wordB = c :: s := by
            rw [List.takeWhile_cons] at h0 ⊢
            split at h0
            · rename_i hc; rw [if_pos hc]; exact ⟨_, rfl⟩
            · exact absurd rfl h0
          obtain ⟨s, hs⟩ := hc
          rw [hs] at hw hn ⊢
          rw [tokM_cons, if_neg h39, if_pos hl, hw, if_pos hn]
        · rw [if_neg hn] at h; cases h
      · rw [if_neg hl] at h
        by_cases hd : digB c = true
        · rw [if_pos hd] at h
          by_cases hn : digsOk ((c :: r).takeWhile digB) = true
          · rw [if_pos hn] at h
            have hx : x = ⟨2, (c :: r).takeWhile digB, undig ((c :: r).takeWhile digB), ((c :: r).takeWhile digB).length⟩ := (Option.some.inj h).symm
            subst hx
            simp only [take_takeWhile]
            have hw := takeWhile_twice digB (c :: r)
            have hc : (c :: r).takeWhile digB = c :: r.takeWhile digB := by rw [List.takeWhile_cons, if_pos hd]
            rw [hc] at hw hn ⊢
            rw [tokM_cons, if_neg h39, if_neg hl, if_pos hd, hw, if_pos hn]
          · rw [if_neg hn] at h; cases h
        · rw [if_neg hd] at h
          by_cases h34 : c = 34
          · rw [if_pos h34] at h
            cases hu : quo (r.length + 1) r with
            | none => rw [hu] at h; cases h
            | some tn =>
              obtain ⟨t, n⟩ := tn
              rw [hu] at h
              simp only at h
              by_cases h64 : t.length ≤ 64
              · rw [if_pos h64] at h
                have hx : x = ⟨3, t, 0, n + 1⟩ := (Option.some.inj h).symm
                subst hx
                have hlen := quo_len _ r t n hu
                simp only [List.take_succ_cons]
                rw [tokM_cons, if_neg h39, if_neg hl, if_neg hd, if_pos h34]
                rw [quo_take _ r t n ((r.take n).length + 1) hu (by rw [List.length_take]; omega)]
                simp only
                rw [if_pos h64]
              · rw [if_neg h64] at h; cases h
          · rw [if_neg h34] at h
            cases hf : signs.find? (fun s => s.isPrefixOf (c :: r)) with
            | none => rw [hf] at h; cases h
            | some s =>
              rw [hf] at h
              have hx : x = ⟨5, s, 0, s.length⟩ := (Option.some.inj h).symm
              subst hx
              have hsl := signs_short s (List.mem_of_find?_eq_some hf)
              have hp0 := List.find?_some hf
              have hp := List.isPrefixOf_iff_prefix.1 hp0
              have he : (c :: r).take s.length = s := (List.prefix_iff_eq_take.1 hp).symm
              simp only [he]
              obtain ⟨z, hz⟩ := hp
              match s, hsl, hz with
              | d :: s', _, hz =>
                have hdc : d = c := by simp at hz; exact hz.1
                subst hdc
                rw [tokM_cons, if_neg h39, if_neg hl, if_neg hd, if_neg h34]
                rw [find_mono signs _ (fun u => u.isPrefixOf (d :: s')) (d :: s') hf (by simp) (fun b hb => by
                  rw [List.isPrefixOf_iff_prefix] at hb ⊢
                  exact hb.trans ⟨z, hz⟩)]
end Go.Proofs.YtlmmfhbdebfgkaaGreatDoor.Lx
