/-
  Tokens spelled, joined, and scanned again; what stands ahead moves the places alone; plain mathematics.
-/
import Derived.Test.YtjndgfppjdobiaaGreatDoorLxTake
namespace Go.Proofs.YtjndgfppjdobiaaGreatDoor.Lx
open Va

theorem dig_back (c : UInt8) (h : digB c = true) : c.toNat - 48 < 10 ∧ UInt8.ofNat (48 + (c.toNat - 48)) = c := by
  have : ∀ i : Fin 256, digB (UInt8.ofNat i.val) = true → (UInt8.ofNat i.val).toNat - 48 < 10 ∧ UInt8.ofNat (48 + ((UInt8.ofNat i.val).toNat - 48)) = UInt8.ofNat i.val := by decide +kernel
  have h1 := this ⟨c.toNat, c.toNat_lt⟩
  simp only [UInt8.ofNat_toNat] at h1
  exact h1 h
/-- Digits that begin with no 0, or are one alone, are those of their number. -/
theorem digs_undig : ∀ (n : Nat) (d : List UInt8), d.length = n → d ≠ [] → (∀ c ∈ d, digB c = true) → (d.length = 1 ∨ d.head? ≠ some 48) → digs (undig d) = d := by
  intro n
  induction n with
  | zero => intro d hn h0; exact absurd (List.eq_nil_of_length_eq_zero hn) h0
  | succ n ih =>
    intro d hn h0 hd hz
    obtain ⟨s, c, rfl⟩ : ∃ s c, d = s ++ [c] := ⟨d.dropLast, d.getLast h0, (List.dropLast_concat_getLast h0).symm⟩
    have hc := dig_back c (hd c (by simp))
    have hu : undig (s ++ [c]) = 10 * undig s + (c.toNat - 48) := by simp [undig]
    by_cases hs : s = []
    · subst hs
      rw [hu]
      have e : 10 * undig [] + (c.toNat - 48) = c.toNat - 48 := by simp [undig]
      rw [e, digs, dif_pos hc.1, hc.2]; rfl
    · have hl : 1 ≤ s.length := List.length_pos_iff.2 hs
      have hz1 : (s ++ [c]).head? ≠ some 48 := by
        rcases hz with hz | hz
        · simp at hz; exact absurd hz hs
        · exact hz
      have hz2 : s.head? ≠ some 48 := by
        cases s with
        | nil => exact absurd rfl hs
        | cons a r => simpa using hz1
      have hih := ih s (by simp at hn; exact hn) hs (fun x hx => hd x (by simp [hx])) (.inr hz2)
      have hpos : 1 ≤ undig s := by
        rcases Nat.eq_zero_or_pos (undig s) with h | h
        · exfalso
          rw [h] at hih
          have : digs 0 = [48] := by rw [digs]; rfl
          rw [this] at hih
          rw [← hih] at hz2; simp at hz2
        · exact h
      rw [hu, digs, dif_neg (by omega)]
      have e1 : (10 * undig s + (c.toNat - 48)) / 10 = undig s := by omega
      have e2 : (10 * undig s + (c.toNat - 48)) % 10 = c.toNat - 48 := by omega
      rw [e1, e2, hih, hc.2]
/-- A token's text. -/
def spellM (kind : Int) (text : List UInt8) (num : Int) : List UInt8 :=
  if kind = 2 then decZ num else if kind = 3 then 34 :: (escT text ++ [34]) else if kind = 4 then 39 :: text else text
theorem quo_text : ∀ f l t n, quo f l = some (t, n) → l.take n = escT t ++ [34]
  | 0, l, t, n, h => by simp [quo] at h
  | f + 1, l, t, n, h => by
    unfold quo at h
    by_cases h34 : l.head? = some 34
    · rw [if_pos h34] at h
      have e : (([] : List UInt8), 1) = (t, n) := Option.some.inj h
      rw [← (Prod.mk.inj e).1, ← (Prod.mk.inj e).2]
      cases l with
      | nil => simp at h34
      | cons c r =>
        have : c = 34 := by simpa using h34
        rw [this]; rfl
    · rw [if_neg h34] at h
      cases hu : unesc l with
      | none => rw [hu] at h; cases h
      | some cr =>
        obtain ⟨c, r⟩ := cr
        rw [hu] at h
        simp only at h
        by_cases he : esc c ++ r = l
        · rw [if_pos he] at h
          cases hq : quo f r with
          | none => rw [hq] at h; cases h
          | some tn =>
            obtain ⟨t', n'⟩ := tn
            rw [hq] at h
            simp only [Option.some.injEq, Prod.mk.injEq] at h
            have ih := quo_text f r t' n' hq
            have e : escT t = esc c ++ escT t' := by rw [← h.1]; rfl
            rw [← he, ← h.2, List.take_append, List.take_of_length_le (by omega), Nat.add_sub_cancel_left, ih, e, List.append_assoc]
        · rw [if_neg he] at h; cases h
theorem mem_takeWhile (p : UInt8 → Bool) (l : List UInt8) : ∀ c ∈ l.takeWhile p, p c = true := by
  induction l with
  | nil => simp
  | cons a r ih =>
    intro c hc
    rw [List.takeWhile_cons] at hc
    split at hc
    · rename_i ha
      rcases List.mem_cons.1 hc with rfl | hc
      · exact ha
      · exact ih c hc
    · simp at hc
theorem spell_take (l : List UInt8) (x : Tok) (h : tokM l = some x) : spellM x.kind x.text x.num = l.take x.len := by
  cases l with
  | nil => simp [tokM] at h
  | cons c r =>
    rw [tokM_cons] at h
    by_cases h39 : c = 39
    · rw [if_pos h39] at h
      by_cases hn : nameB (r.takeWhile wordB) = true
      · rw [if_pos hn] at h
        have hx : x = ⟨4, r.takeWhile wordB, 0, (r.takeWhile wordB).length + 1⟩ := (Option.some.inj h).symm
        subst hx
        simp only [List.take_succ_cons, take_takeWhile]
        rw [h39]; rfl
      · rw [if_neg hn] at h; cases h
    · rw [if_neg h39] at h
      by_cases hl : letB c = true
      · rw [if_pos hl] at h
        by_cases hn : nameB ((c :: r).takeWhile wordB) = true
        · rw [if_pos hn] at h
          have hx : x = ⟨1, (c :: r).takeWhile wordB, 0, ((c :: r).takeWhile wordB).length⟩ := (Option.some.inj h).symm
          subst hx
          simp only [take_takeWhile]; rfl
        · rw [if_neg hn] at h; cases h
      · rw [if_neg hl] at h
        by_cases hd : digB c = true
        · rw [if_pos hd] at h
          by_cases hn : digsOk ((c :: r).takeWhile digB) = true
          · rw [if_pos hn] at h
            have hx : x = ⟨2, (c :: r).takeWhile digB, undig ((c :: r).takeWhile digB), ((c :: r).takeWhile digB).length⟩ := (Option.some.inj h).symm
            subst hx
            simp only [take_takeWhile]
            have hne : (c :: r).takeWhile digB ≠ [] := by rw [List.takeWhile_cons, if_pos hd]; simp
            have hok : ((c :: r).takeWhile digB).length = 1 ∨ ((c :: r).takeWhile digB).head? ≠ some 48 := by
              unfold digsOk at hn
              simp only [Bool.and_eq_true, Bool.or_eq_true, beq_iff_eq, bne_iff_ne] at hn
              exact hn.1
            have := digs_undig _ _ rfl hne (mem_takeWhile digB (c :: r)) hok
            show decZ (Int.ofNat (undig ((c :: r).takeWhile digB))) = _
            unfold decZ
            rw [if_neg (by simp)]
            exact this
          · rw [if_neg hn] at h; cases h
        · rw [if_neg hd] at h
          by_cases h34 : c = 34
          · rw [if_pos h34] at h
            cases hu : quo (r.length + 1) r with
            | none => rw [hu] at h; cases h
            | some tn =>
              obtain ⟨t, n⟩ := tn
              rw [hu] at h
              simp only at h
              by_cases h64 : t.length ≤ 64
              · rw [if_pos h64] at h
                have hx : x = ⟨3, t, 0, n + 1⟩ := (Option.some.inj h).symm
                subst hx
                simp only [List.take_succ_cons]
                rw [quo_text _ r t n hu, h34]; rfl
              · rw [if_neg h64] at h; cases h
          · rw [if_neg h34] at h
            cases hf : signs.find? (fun s => s.isPrefixOf (c :: r)) with
            | none => rw [hf] at h; cases h
            | some s =>
              rw [hf] at h
              have hx : x = ⟨5, s, 0, s.length⟩ := (Option.some.inj h).symm
              subst hx
              have hp0 := List.find?_some hf
              have hp := List.isPrefixOf_iff_prefix.1 hp0
              exact List.prefix_iff_eq_take.1 hp
def joinM : List TA → List UInt8
  | [] => []
  | [t] => spellM t.kind t.text t.num
  | t :: u :: r => spellM t.kind t.text t.num ++ 32 :: joinM (u :: r)
/-- Behind the blanks there are none. -/
theorem blk_drop : ∀ (b : Bool) (l : List UInt8), blk false (l.drop (blk b l)) = 0
  | b, [] => by cases b <;> rfl
  | true, c :: r => by
    rw [blk_t]
    by_cases h : c = 10
    · rw [if_pos h, Nat.add_comm, List.drop_succ_cons]; exact blk_drop false r
    · rw [if_neg h, Nat.add_comm, List.drop_succ_cons]; exact blk_drop true r
  | false, c :: r => by
    by_cases h : whiteB c = true
    · rw [blk_f, if_pos h, Nat.add_comm, List.drop_succ_cons]; exact blk_drop false r
    · by_cases hc : c = 47 ∧ r.head? = some 47
      · rw [blk_f, if_neg h, if_pos hc, Nat.add_comm, List.drop_succ_cons]; exact blk_drop true r
      · have e : blk false (c :: r) = 0 := by rw [blk_f, if_neg h, if_neg hc]
        rw [e]; exact e
theorem blk_zero (l : List UInt8) (n : Nat) (q : List UInt8) (h : blk false l = 0) (hn : 1 ≤ n) (hl : n ≤ l.length) (hq : q.head? ≠ some 47) : blk false (l.take n ++ q) = 0 := by
  cases l with
  | nil => simp at hl; omega
  | cons c r =>
    obtain ⟨n, rfl⟩ : ∃ m, n = m + 1 := ⟨n - 1, by omega⟩
    rw [blk_f] at h
    by_cases hw : whiteB c = true
    · rw [if_pos hw] at h; omega
    · rw [if_neg hw] at h
      by_cases hc : c = 47 ∧ r.head? = some 47
      · rw [if_pos hc] at h; omega
      · rw [List.take_succ_cons, List.cons_append, blk_f, if_neg hw, if_neg]
        rintro ⟨h1, h2⟩
        apply hc
        refine ⟨h1, ?_⟩
        cases n with
        | zero => simp at h2; exact absurd h2 hq
        | succ n =>
          cases r with
          | nil => simp at h2; exact absurd h2 hq
          | cons d s => simpa using h2
theorem scan_white (c : UInt8) (l : List UInt8) (a : Nat) (h : whiteB c = true) : scanM (c :: l) a = scanM l (a + 1) := by
  have hb : blk false (c :: l) = blk false l + 1 := by rw [blk_f, if_pos h, Nat.add_comm]
  rw [scanM_eq, scanM_eq l, hb, List.drop_succ_cons]
  have e : a + (blk false l + 1) = a + 1 + blk false l := by omega
  rw [e]
def bare (t : TA) : Int × List UInt8 × Int := (t.kind, t.text, t.num)
theorem scan_ne (l : List UInt8) (a : Nat) (h : (scanM l a).2 = none) : (scanM l a).1 ≠ [] := by
  rw [scanM_eq] at h ⊢
  cases hm : l.drop (blk false l) with
  | nil => simp
  | cons c r =>
    rw [hm] at h
    simp only at h ⊢
    cases ht : tokM (c :: r) with
    | none => rw [ht] at h; cases h
    | some t => simp
/-- Spelled, joined, scanned again: the same, the places aside. -/
theorem scan_back : ∀ (n : Nat) (l : List UInt8) (a b : Nat), l.length ≤ n → (scanM l a).2 = none →
    (scanM (joinM (scanM l a).1) b).2 = none ∧ (scanM (joinM (scanM l a).1) b).1.map bare = (scanM l a).1.map bare := by
  intro n
  induction n with
  | zero =>
    intro l a b hl h
    have e : l = [] := List.eq_nil_of_length_eq_zero (by omega)
    subst e
    exact ⟨rfl, rfl⟩
  | succ n ih =>
    intro l a b hl h
    rw [scanM_eq l a] at h ⊢
    cases hm : l.drop (blk false l) with
    | nil => exact ⟨rfl, rfl⟩
    | cons c r =>
      rw [hm] at h
      simp only at h ⊢
      cases ht : tokM (c :: r) with
      | none => rw [ht] at h; cases h
      | some t =>
        rw [ht] at h
        simp only at h ⊢
        have hlen := tok_len _ t ht
        have hdl := congrArg List.length hm
        rw [List.length_drop] at hdl
        have hs := spell_take _ t ht
        have hne := scan_ne _ _ h
        generalize hA : a + blk false l + t.len = A at *
        have hj : joinM (⟨t.kind, t.text, t.num, a + blk false l⟩ :: (scanM ((c :: r).drop t.len) A).1) = (c :: r).take t.len ++ 32 :: joinM (scanM ((c :: r).drop t.len) A).1 := by
          cases hk : (scanM ((c :: r).drop t.len) A).1 with
          | nil => exact absurd hk hne
          | cons u v =>
            show spellM t.kind t.text t.num ++ 32 :: joinM (u :: v) = _
            rw [hs]
        rw [hj]
        have hb0 : blk false ((c :: r).take t.len ++ 32 :: joinM (scanM ((c :: r).drop t.len) A).1) = 0 :=
          blk_zero (c :: r) t.len _ (by have := blk_drop false l; rwa [hm] at this) hlen.1 hlen.2 (by simp)
        have htk := tok_append ((c :: r).take t.len) (32 :: joinM (scanM ((c :: r).drop t.len) A).1) t (tok_take _ t ht) (.inr (fun d hd => by simp at hd; subst hd; rfl))
        have hlt : ((c :: r).take t.len).length = t.len := by rw [List.length_take]; omega
        have hdr : ((c :: r).take t.len ++ 32 :: joinM (scanM ((c :: r).drop t.len) A).1).drop t.len = 32 :: joinM (scanM ((c :: r).drop t.len) A).1 := by
          rw [List.drop_append_of_le_length (by omega), List.drop_of_length_le (by omega), List.nil_append]
        have hih := ih ((c :: r).drop t.len) A (b + 0 + t.len + 1) (by rw [List.length_drop]; omega) h
        generalize hX : (c :: r).take t.len ++ 32 :: joinM (scanM ((c :: r).drop t.len) A).1 = X at *
        rw [scanM_eq X, hb0, List.drop_zero]
        cases X with
        | nil => simp [tokM] at htk
        | cons x y =>
          simp only [htk, hdr]
          rw [scan_white 32 _ _ rfl]
          exact ⟨hih.1, by rw [List.map_cons, List.map_cons, hih.2]; rfl⟩
/-- The places moved. -/
theorem scan_move : ∀ (n : Nat) (l : List UInt8) (a k : Nat), l.length ≤ n →
    scanM l (a + k) = ((scanM l a).1.map (fun t => ⟨t.kind, t.text, t.num, t.at_ + k⟩), (scanM l a).2.map (· + k)) := by
  intro n
  induction n with
  | zero =>
    intro l a k hl
    have e : l = [] := List.eq_nil_of_length_eq_zero (by omega)
    subst e
    rfl
  | succ n ih =>
    intro l a k hl
    rw [scanM_eq, scanM_eq l a]
    have e : a + k + blk false l = a + blk false l + k := by omega
    rw [e]
    cases hm : l.drop (blk false l) with
    | nil => rfl
    | cons c r =>
      simp only
      cases ht : tokM (c :: r) with
      | none => rfl
      | some t =>
        have hlen := tok_len _ t ht
        have hdl := congrArg List.length hm
        rw [List.length_drop] at hdl
        simp only
        have e2 : a + blk false l + k + t.len = a + blk false l + t.len + k := by omega
        rw [e2, ih ((c :: r).drop t.len) (a + blk false l + t.len) k (by rw [List.length_drop]; omega)]
        rfl

end Go.Proofs.YtjndgfppjdobiaaGreatDoor.Lx
