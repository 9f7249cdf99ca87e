/-
  The scan of two texts, a line's end between them; plain mathematics.
-/
import Derived.Test.YtjndgfppjdobiaaGreatDoorLxTok
namespace Go.Proofs.YtjndgfppjdobiaaGreatDoor.Lx
open Va

theorem quo_len : ∀ f l t n, quo f l = some (t, n) → 1 ≤ n ∧ n ≤ l.length
  | 0, l, t, n, h => by simp [quo] at h
  | f + 1, l, t, n, h => by
    unfold quo at h
    by_cases h34 : l.head? = some 34
    · rw [if_pos h34] at h
      simp only [Option.some.injEq, Prod.mk.injEq] at h
      cases l with
      | nil => simp at h34
      | cons c r => simp; omega
    · rw [if_neg h34] at h
      cases hu : unesc l with
      | none => rw [hu] at h; cases h
      | some cr =>
        obtain ⟨c, r⟩ := cr
        rw [hu] at h
        simp only at h
        by_cases he : esc c ++ r = l
        · rw [if_pos he] at h
          cases hq : quo f r with
          | none => rw [hq] at h; cases h
          | some tn =>
            obtain ⟨t', n'⟩ := tn
            rw [hq] at h
            simp only [Option.some.injEq, Prod.mk.injEq] at h
            have := quo_len f r t' n' hq
            have h2 := congrArg List.length he
            rw [List.length_append] at h2
            omega
        · rw [if_neg he] at h; cases h
theorem tok_len (l : List UInt8) (x : Tok) (h : tokM l = some x) : 1 ≤ x.len ∧ x.len ≤ l.length := by
  cases l with
  | nil => simp [tokM] at h
  | cons c r =>
    rw [tokM_cons] at h
    by_cases h39 : c = 39
    · rw [if_pos h39] at h
      split at h
      · rw [← Option.some.inj h]
        have := takeWhile_le wordB r
        simp; omega
      · cases h
    · rw [if_neg h39] at h
      by_cases hl : letB c = true
      · rw [if_pos hl] at h
        split at h
        · rename_i hn
          rw [← Option.some.inj h]
          have := takeWhile_le wordB (c :: r)
          have h0 := (nameB_ne hn).1
          exact ⟨List.length_pos_iff.2 h0, this⟩
        · cases h
      · rw [if_neg hl] at h
        by_cases hd : digB c = true
        · rw [if_pos hd] at h
          split at h
          · rw [← Option.some.inj h]
            have := takeWhile_le digB (c :: r)
            refine ⟨?_, this⟩
            simp only [List.takeWhile_cons, if_pos hd]; simp
          · cases h
        · rw [if_neg hd] at h
          by_cases h34 : c = 34
          · rw [if_pos h34] at h
            cases hu : quo (r.length + 1) r with
            | none => rw [hu] at h; cases h
            | some tn =>
              obtain ⟨t, n⟩ := tn
              rw [hu] at h
              simp only at h
              have := quo_len _ r t n hu
              split at h
              · rw [← Option.some.inj h]; simp; omega
              · cases h
          · rw [if_neg h34] at h
            cases hf : signs.find? (fun s => s.isPrefixOf (c :: r)) with
            | none => rw [hf] at h; cases h
            | some s =>
              rw [hf] at h
              rw [← Option.some.inj h]
              have h1 := signs_short s (List.mem_of_find?_eq_some hf)
              have h2 := List.find?_some hf
              have h3 := (List.isPrefixOf_iff_prefix.1 h2).length_le
              exact ⟨h1.2.1, h3⟩

theorem scan_step (f : Nat) (l : List UInt8) (a : Nat) : scanF (f + 1) l a =
    match l.drop (blk false l) with
    | [] => ([⟨0, [], 0, a + blk false l⟩], none)
    | m@(_ :: _) => match tokM m with
      | none => ([], some (a + blk false l))
      | some t => (⟨t.kind, t.text, t.num, a + blk false l⟩ :: (scanF f (m.drop t.len) (a + blk false l + t.len)).1, (scanF f (m.drop t.len) (a + blk false l + t.len)).2) := rfl
/-- More steps than enough change nothing. -/
theorem scan_fuel : ∀ f g l a, l.length < f → l.length < g → scanF f l a = scanF g l a
  | 0, _, l, _, h, _ => by omega
  | _, 0, l, _, _, h => by omega
  | f + 1, g + 1, l, a, hf, hg => by
    rw [scan_step, scan_step]
    cases hm : l.drop (blk false l) with
    | nil => rfl
    | cons c r =>
      simp only
      cases ht : tokM (c :: r) with
      | none => rfl
      | some t =>
        simp only
        have h1 := tok_len _ t ht
        have h2 := congrArg List.length hm
        rw [List.length_drop] at h2
        have h3 : ((c :: r).drop t.len).length < f := by rw [List.length_drop]; omega
        have h4 : ((c :: r).drop t.len).length < g := by rw [List.length_drop]; omega
        rw [scan_fuel f g _ _ h3 h4]
def scanM (l : List UInt8) (a : Nat) : List TA × Option Nat := scanF (l.length + 1) l a
theorem scanM_eq (l : List UInt8) (a : Nat) : scanM l a =
    match l.drop (blk false l) with
    | [] => ([⟨0, [], 0, a + blk false l⟩], none)
    | m@(_ :: _) => match tokM m with
      | none => ([], some (a + blk false l))
      | some t => (⟨t.kind, t.text, t.num, a + blk false l⟩ :: (scanM (m.drop t.len) (a + blk false l + t.len)).1, (scanM (m.drop t.len) (a + blk false l + t.len)).2) := by
  unfold scanM
  rw [scan_step]
  cases hm : l.drop (blk false l) with
  | nil => rfl
  | cons c r =>
    simp only
    cases ht : tokM (c :: r) with
    | none => rfl
    | some t =>
      simp only
      have h1 := tok_len _ t ht
      have h2 := congrArg List.length hm
      rw [List.length_drop] at h2
      rw [scan_fuel l.length (((c :: r).drop t.len).length + 1) _ _ (by rw [List.length_drop]; omega) (by omega)]
/-- A text that is tokens, a line's end, and another text. -/
theorem scan_glue : ∀ (n : Nat) (l q : List UInt8) (a : Nat) (ts : List TA), l.length ≤ n → scanM l a = (ts, none) →
    scanM (l ++ 10 :: q) a = (ts.dropLast ++ (scanM q (a + l.length + 1)).1, (scanM q (a + l.length + 1)).2) := by
  intro n
  induction n with
  | zero =>
    intro l q a ts hl h
    have e : l = [] := List.eq_nil_of_length_eq_zero (by omega)
    subst e
    have h1 : ts = [⟨0, [], 0, a⟩] := by
      have : scanM [] a = ([⟨0, [], 0, a⟩], none) := rfl
      rw [this] at h; exact (Prod.mk.inj h).1.symm
    rw [h1, List.nil_append]
    have hb : blk false (10 :: q) = 1 + blk false q := by rw [blk_f]; simp [whiteB]
    rw [scanM_eq (10 :: q), scanM_eq q, hb]
    have hd : (10 :: q : List UInt8).drop (1 + blk false q) = q.drop (blk false q) := by rw [Nat.add_comm]; rfl
    have ha : a + (1 + blk false q) = a + ([] : List UInt8).length + 1 + blk false q := by simp; omega
    rw [hd, ha]
    rfl
  | succ n ih =>
    intro l q a ts hl h
    rw [scanM_eq] at h
    cases hm : l.drop (blk false l) with
    | nil =>
      rw [hm] at h
      have hbl : blk false l = l.length := by
        have := congrArg List.length hm
        rw [List.length_drop] at this
        have := blk_le false l
        simp at *; omega
      have h1 : ts = [⟨0, [], 0, a + blk false l⟩] := (Prod.mk.inj h).1.symm
      rw [h1]
      have hb := blk_all false l q hbl
      rw [scanM_eq (l ++ 10 :: q), scanM_eq q, hb]
      have hd : (l ++ 10 :: q).drop (l.length + 1 + blk false q) = q.drop (blk false q) := by
        rw [Nat.add_assoc, List.drop_length_add_append, Nat.add_comm 1]; rfl
      have ha : a + (l.length + 1 + blk false q) = a + l.length + 1 + blk false q := by omega
      rw [hd, ha]
      rfl
    | cons c r =>
      rw [hm] at h
      simp only at h
      cases ht : tokM (c :: r) with
      | none => rw [ht] at h; cases h
      | some t =>
        rw [ht] at h
        simp only at h
        obtain ⟨h1, h2⟩ := Prod.mk.inj h
        have h3 := tok_len _ t ht
        have h4 := congrArg List.length hm
        rw [List.length_drop] at h4
        have hblt : blk false l < l.length := by simp at h4; omega
        have hb : blk false (l ++ 10 :: q) = blk false l := blk_append false l (10 :: q) hblt (by simp)
        have hd : (l ++ 10 :: q).drop (blk false l) = (c :: r) ++ 10 :: q := by rw [List.drop_append_of_le_length (by omega), hm]
        have htk := tok_append (c :: r) (10 :: q) t ht (.inr (fun c hc => by simp at hc; subst hc; rfl))
        have hdd : ((c :: r) ++ 10 :: q).drop t.len = (c :: r).drop t.len ++ 10 :: q := List.drop_append_of_le_length (by omega)
        have hih := ih ((c :: r).drop t.len) q (a + blk false l + t.len) (scanM ((c :: r).drop t.len) (a + blk false l + t.len)).1 (by rw [List.length_drop]; omega) (by rw [← h2])
        rw [scanM_eq (l ++ 10 :: q), hb, hd]
        have hcons : (c :: r) ++ 10 :: q = c :: (r ++ 10 :: q) := rfl
        rw [hcons]
        simp only
        rw [← hcons, htk]
        simp only
        rw [hdd, hih]
        have hlen : a + blk false l + t.len + ((c :: r).drop t.len).length + 1 = a + l.length + 1 := by rw [List.length_drop]; omega
        rw [hlen, ← h1]
        have hne : (scanM ((c :: r).drop t.len) (a + blk false l + t.len)).1 ≠ [] := by
          intro e
          have e2 := scanM_eq ((c :: r).drop t.len) (a + blk false l + t.len)
          rw [e2] at e h2
          split at e
          · cases e
          · split at e
            · rename_i hh _ ht2
              rw [hh] at h2
              simp only at h2
              rw [ht2] at h2
              cases h2
            · cases e
        rw [List.dropLast_cons_of_ne_nil hne, List.cons_append]

end Go.Proofs.YtjndgfppjdobiaaGreatDoor.Lx
