/-
  A text cut where the first thing stands that is no token; more behind a text; plain mathematics.
-/
import Derived.Test.YtjndgfppjdobiaaGreatDoorLxBack
namespace Go.Proofs.YtjndgfppjdobiaaGreatDoor.Lx
open Va

theorem takeWhile_cut (p : UInt8 → Bool) : ∀ (l : List UInt8) (m : Nat), (l.takeWhile p).length ≤ m → (l.take m).takeWhile p = l.takeWhile p
  | [], m, _ => by simp
  | c :: r, m, h => by
    rw [List.takeWhile_cons] at h ⊢
    by_cases hp : p c = true
    · rw [if_pos hp] at h ⊢
      obtain ⟨m, rfl⟩ : ∃ k, m = k + 1 := ⟨m - 1, by simp at h; omega⟩
      rw [List.take_succ_cons, List.takeWhile_cons, if_pos hp, takeWhile_cut p r m (by simp at h; omega)]
    · rw [if_neg hp]
      cases m with
      | zero => rfl
      | succ m => rw [List.take_succ_cons, List.takeWhile_cons, if_neg hp]
theorem take_split (l : List UInt8) (n m : Nat) (h : n ≤ m) : l.take m = l.take n ++ (l.drop n).take (m - n) := by
  obtain ⟨k, rfl⟩ : ∃ k, m = n + k := ⟨m - n, by omega⟩
  rw [Nat.add_sub_cancel_left, List.take_add]
theorem quo_cut (l : List UInt8) (f g : Nat) (t : List UInt8) (n m : Nat) (h : quo f l = some (t, n)) (hm : n ≤ m) (hg : n ≤ g) : quo g (l.take m) = some (t, n) := by
  rw [take_split l n m hm]
  exact quo_append n _ _ g (t, n) (quo_take f l t n n h (Nat.le_refl _)) hg
theorem tok_cut (l : List UInt8) (x : Tok) (m : Nat) (h : tokM l = some x) (hm : x.len ≤ m) : tokM (l.take m) = some x := by
  have h1 := tok_len l x h
  obtain ⟨m, rfl⟩ : ∃ k, m = k + 1 := ⟨m - 1, by omega⟩
  cases l with
  | nil => simp [tokM] at h
  | cons c r =>
    rw [tokM_cons] at h
    rw [List.take_succ_cons, tokM_cons]
    by_cases h39 : c = 39
    · rw [if_pos h39] at h ⊢
      by_cases hn : nameB (r.takeWhile wordB) = true
      · rw [if_pos hn] at h
        have hx : x = ⟨4, r.takeWhile wordB, 0, (r.takeWhile wordB).length + 1⟩ := (Option.some.inj h).symm
        subst hx
        rw [takeWhile_cut wordB r m (by simp only at hm; omega), if_pos hn]
      · rw [if_neg hn] at h; cases h
    · rw [if_neg h39] at h ⊢
      by_cases hl : letB c = true
      · rw [if_pos hl] at h ⊢
        by_cases hn : nameB ((c :: r).takeWhile wordB) = true
        · rw [if_pos hn] at h
          have hx : x = ⟨1, (c :: r).takeWhile wordB, 0, ((c :: r).takeWhile wordB).length⟩ := (Option.some.inj h).symm
          subst hx
          have e := takeWhile_cut wordB (c :: r) (m + 1) hm
          rw [List.take_succ_cons] at e
          rw [e, if_pos hn]
        · rw [if_neg hn] at h; cases h
      · rw [if_neg hl] at h ⊢
        by_cases hd : digB c = true
        · rw [if_pos hd] at h ⊢
          by_cases hn : digsOk ((c :: r).takeWhile digB) = true
          · rw [if_pos hn] at h
            have hx : x = ⟨2, (c :: r).takeWhile digB, undig ((c :: r).takeWhile digB), ((c :: r).takeWhile digB).length⟩ := (Option.some.inj h).symm
            subst hx
            have e := takeWhile_cut digB (c :: r) (m + 1) hm
            rw [List.take_succ_cons] at e
            rw [e, if_pos hn]
          · rw [if_neg hn] at h; cases h
        · rw [if_neg hd] at h ⊢
          by_cases h34 : c = 34
          · rw [if_pos h34] at h ⊢
            cases hu : quo (r.length + 1) r with
            | none => rw [hu] at h; cases h
            | some tn =>
              obtain ⟨t, n⟩ := tn
              rw [hu] at h
              simp only at h
              by_cases h64 : t.length ≤ 64
              · rw [if_pos h64] at h
                have hx : x = ⟨3, t, 0, n + 1⟩ := (Option.some.inj h).symm
                subst hx
                have hlen := quo_len _ r t n hu
                simp only at hm
                rw [quo_cut r _ ((r.take m).length + 1) t n m hu (by omega) (by rw [List.length_take]; omega)]
                simp only
                rw [if_pos h64]
              · rw [if_neg h64] at h; cases h
          · rw [if_neg h34] at h ⊢
            cases hf : signs.find? (fun s => s.isPrefixOf (c :: r)) with
            | none => rw [hf] at h; cases h
            | some s =>
              rw [hf] at h
              have hx : x = ⟨5, s, 0, s.length⟩ := (Option.some.inj h).symm
              subst hx
              have hp0 := List.find?_some hf
              have hp := List.isPrefixOf_iff_prefix.1 hp0
              have e : (c :: r).take (m + 1) = c :: r.take m := rfl
              rw [find_mono signs _ (fun u => u.isPrefixOf (c :: r.take m)) s hf (by
                rw [List.isPrefixOf_iff_prefix, ← e, List.prefix_take_iff]
                exact ⟨hp, hm⟩) (fun b hb => by
                rw [List.isPrefixOf_iff_prefix] at hb ⊢
                rw [← e] at hb
                exact hb.trans (List.take_prefix _ _))]
theorem blk_cut : ∀ (b : Bool) (l : List UInt8) (k : Nat), blk b l ≤ k → blk b (l.take k) = blk b l
  | b, [], k, _ => by simp
  | true, c :: r, k, h => by
    rw [blk_t] at h ⊢
    by_cases hc : c = 10
    · rw [if_pos hc] at h ⊢
      obtain ⟨k, rfl⟩ : ∃ m, k = m + 1 := ⟨k - 1, by omega⟩
      rw [List.take_succ_cons, blk_t, if_pos hc, blk_cut false r k (by omega)]
    · rw [if_neg hc] at h ⊢
      obtain ⟨k, rfl⟩ : ∃ m, k = m + 1 := ⟨k - 1, by omega⟩
      rw [List.take_succ_cons, blk_t, if_neg hc, blk_cut true r k (by omega)]
  | false, c :: r, k, h => by
    rw [blk_f] at h ⊢
    by_cases hw : whiteB c = true
    · rw [if_pos hw] at h ⊢
      obtain ⟨k, rfl⟩ : ∃ m, k = m + 1 := ⟨k - 1, by omega⟩
      rw [List.take_succ_cons, blk_f, if_pos hw, blk_cut false r k (by omega)]
    · rw [if_neg hw] at h ⊢
      by_cases hc : c = 47 ∧ r.head? = some 47
      · rw [if_pos hc] at h ⊢
        obtain ⟨k, rfl⟩ : ∃ m, k = m + 1 := ⟨k - 1, by omega⟩
        have h1 : 1 ≤ blk true r := by
          cases r with
          | nil => simp at hc
          | cons d s => rw [blk_t]; split <;> omega
        have h2 : (r.take k).head? = some 47 := by
          cases r with
          | nil => simp at hc
          | cons d s =>
            obtain ⟨k, rfl⟩ : ∃ m, k = m + 1 := ⟨k - 1, by omega⟩
            rw [List.take_succ_cons]; simpa using hc.2
        rw [List.take_succ_cons, blk_f, if_neg hw, if_pos ⟨hc.1, h2⟩, blk_cut true r k (by omega)]
      · rw [if_neg hc]
        cases k with
        | zero => rfl
        | succ k =>
          rw [List.take_succ_cons, blk_f, if_neg hw, if_neg]
          rintro ⟨h1, h2⟩
          apply hc
          refine ⟨h1, ?_⟩
          cases r with
          | nil => simp at h2
          | cons d s =>
            cases k with
            | zero => simp at h2
            | succ k => simpa using h2
/-- An error stands behind the blanks ahead. -/
theorem scan_ge : ∀ (n : Nat) (l : List UInt8) (a e : Nat), l.length ≤ n → (scanM l a).2 = some e → a + blk false l ≤ e ∧ e ≤ a + l.length := by
  intro n
  induction n with
  | zero =>
    intro l a e hl h
    have : l = [] := List.eq_nil_of_length_eq_zero (by omega)
    subst this
    cases h
  | succ n ih =>
    intro l a e hl h
    rw [scanM_eq] at h
    cases hm : l.drop (blk false l) with
    | nil => rw [hm] at h; cases h
    | cons c r =>
      rw [hm] at h
      simp only at h
      have hdl := congrArg List.length hm
      rw [List.length_drop] at hdl
      cases ht : tokM (c :: r) with
      | none =>
        rw [ht] at h
        have := Option.some.inj h
        simp at hdl
        omega
      | some t =>
        rw [ht] at h
        simp only at h
        have hlen := tok_len _ t ht
        have hd : ((c :: r).drop t.len).length = (c :: r).length - t.len := List.length_drop
        have := ih ((c :: r).drop t.len) _ e (by omega) h
        omega
/-- Up to the first thing that is no token all is tokens. -/
theorem scan_cut : ∀ (n : Nat) (l : List UInt8) (a e : Nat), l.length ≤ n → (scanM l a).2 = some e → (scanM (l.take (e - a)) a).2 = none := by
  intro n
  induction n with
  | zero =>
    intro l a e hl h
    have : l = [] := List.eq_nil_of_length_eq_zero (by omega)
    subst this
    cases h
  | succ n ih =>
    intro l a e hl h
    have hge := scan_ge _ l a e (Nat.le_refl _) h
    have hb := blk_cut false l (e - a) (by omega)
    rw [scanM_eq] at h
    rw [scanM_eq (l.take (e - a)), hb, List.drop_take]
    cases hm : l.drop (blk false l) with
    | nil => rw [hm] at h; cases h
    | cons c r =>
      rw [hm] at h
      simp only at h
      have hdl := congrArg List.length hm
      rw [List.length_drop] at hdl
      cases ht : tokM (c :: r) with
      | none =>
        rw [ht] at h
        have he := Option.some.inj h
        have hz : e - a - blk false l = 0 := by omega
        rw [hz]; rfl
      | some t =>
        rw [ht] at h
        simp only at h
        have hlen := tok_len _ t ht
        have hd : ((c :: r).drop t.len).length = (c :: r).length - t.len := List.length_drop
        have hge2 := scan_ge _ _ _ e (Nat.le_refl _) h
        have hih := ih ((c :: r).drop t.len) _ e (by omega) h
        have htk := tok_cut (c :: r) t (e - a - blk false l) ht (by omega)
        have hk : e - a - blk false l - t.len = e - (a + blk false l + t.len) := by omega
        have hdt : ((c :: r).take (e - a - blk false l)).drop t.len = ((c :: r).drop t.len).take (e - (a + blk false l + t.len)) := by
          rw [List.drop_take, hk]
        generalize hX : (c :: r).take (e - a - blk false l) = X at *
        cases X with
        | nil => simp [tokM] at htk
        | cons x y =>
          simp only [htk, hdt]
          exact hih
/-- More behind a text doesn't heal it ahead. -/
theorem scan_more : ∀ (n : Nat) (l q : List UInt8) (a e e' : Nat), l.length ≤ n → Dlm q → (scanM l a).2 = some e → (scanM (l ++ q) a).2 = some e' → e ≤ e' := by
  intro n
  induction n with
  | zero =>
    intro l q a e e' hl hq h
    have : l = [] := List.eq_nil_of_length_eq_zero (by omega)
    subst this
    cases h
  | succ n ih =>
    intro l q a e e' hl hq h h'
    have hge := scan_ge _ (l ++ q) a e' (Nat.le_refl _) h'
    rw [scanM_eq] at h
    cases hm : l.drop (blk false l) with
    | nil => rw [hm] at h; cases h
    | cons c r =>
      rw [hm] at h
      simp only at h
      have hdl := congrArg List.length hm
      rw [List.length_drop] at hdl
      have hblt : blk false l < l.length := by simp at hdl; omega
      have hb := blk_append false l q hblt (fun hc => by have := hq 47 hc; revert this; decide)
      rw [hb] at hge
      cases ht : tokM (c :: r) with
      | none =>
        rw [ht] at h
        have he := Option.some.inj h
        omega
      | some t =>
        rw [ht] at h
        simp only at h
        have hlen := tok_len _ t ht
        have hd : ((c :: r).drop t.len).length = (c :: r).length - t.len := List.length_drop
        rw [scanM_eq, hb, List.drop_append_of_le_length (by omega), hm] at h'
        have htk := tok_append (c :: r) q t ht (.inr hq)
        have hdd : ((c :: r) ++ q).drop t.len = (c :: r).drop t.len ++ q := List.drop_append_of_le_length (by omega)
        rw [List.cons_append] at h' htk hdd
        simp only [htk, hdd] at h'
        exact ih _ q _ e e' (by omega) hq h h'
/-- Blanks ahead and behind move the places alone. -/
theorem scan_pad (l : List UInt8) (h : (scanM l 0).2 = none) :
    (scanM (32 :: 9 :: (l ++ [10])) 0).2 = none ∧
    (scanM (32 :: 9 :: (l ++ [10])) 0).1 = (scanM l 0).1.dropLast.map (fun t => ⟨t.kind, t.text, t.num, t.at_ + 2⟩) ++ [⟨0, [], 0, l.length + 3⟩] := by
  have h1 := scan_move _ l 0 2 (Nat.le_refl _)
  rw [h] at h1
  have h2 := scan_glue _ l [] (0 + 2) _ (Nat.le_refl _) h1
  have h3 : scanM [] (0 + 2 + l.length + 1) = ([⟨0, [], 0, l.length + 3⟩], none) := by
    have : scanM [] (0 + 2 + l.length + 1) = ([⟨0, [], 0, 0 + 2 + l.length + 1⟩], none) := rfl
    rw [this]
    have e : 0 + 2 + l.length + 1 = l.length + 3 := by omega
    rw [e]
  rw [h3] at h2
  rw [scan_white 32 _ _ rfl, scan_white 9 _ _ rfl]
  rw [h2]
  exact ⟨rfl, by rw [List.map_dropLast]⟩

end Go.Proofs.YtjndgfppjdobiaaGreatDoor.Lx
