/-
  LxTok, LxScan, LxTake, LxBack, LxQuo, LxHex, LxScanP, LxAts.
-/
import Derived.Test.YtlmmfhbdebfgkaaGreatDoorWVaPureQ
set_option linter.unusedVariables false
set_option linter.unusedSimpArgs false
namespace Go.Proofs.YtlmmfhbdebfgkaaGreatDoor.Lx
open Va
theorem signs_short : ∀ s ∈ signs, s.length ≤ 2 ∧ 1 ≤ s.length ∧ ∀ b, s[1]? = some b → whiteB b = false := by
  have : signs.all (fun s => decide (s.length ≤ 2) && decide (1 ≤ s.length) && (match s[1]? with | none => true | some b => !whiteB b)) = true := by decide
  intro s hs
  have h := List.all_eq_true.1 this s hs
  simp only [Bool.and_eq_true, decide_eq_true_eq] at h
  refine ⟨h.1.1, h.1.2, fun b hb => ?_⟩
  have h2 := h.2
  rw [hb] at h2
  simpa using h2
theorem takeWhile_le (p : UInt8 → Bool) (l : List UInt8) : (l.takeWhile p).length ≤ l.length := by
  induction l with
  | nil => simp
  | cons c r ih => simp only [List.takeWhile_cons]; split <;> simp; omega
theorem tokM_cons (c : UInt8) (r : List UInt8) : tokM (c :: r) =
    if c = 39 then (if nameB (r.takeWhile wordB) = true then some ⟨4, r.takeWhile wordB, 0, (r.takeWhile wordB).length + 1⟩ else none)
    else if letB c = true then (if nameB ((c :: r).takeWhile wordB) = true then some ⟨1, (c :: r).takeWhile wordB, 0, ((c :: r).takeWhile wordB).length⟩ else none)
    else if digB c = true then (if digsOk ((c :: r).takeWhile digB) = true then some ⟨2, (c :: r).takeWhile digB, undig ((c :: r).takeWhile digB), ((c :: r).takeWhile digB).length⟩ else none)
    else if c = 34 then (match quo (r.length + 1) r with
      | none => none
      | some (t, n) => if t.length ≤ 64 then some ⟨3, t, 0, n + 1⟩ else none)
    else match signs.find? (fun s => s.isPrefixOf (c :: r)) with
      | none => none
      | some s => some ⟨5, s, 0, s.length⟩ := rfl
end Go.Proofs.YtlmmfhbdebfgkaaGreatDoor.Lx
namespace Go.Proofs.YtlmmfhbdebfgkaaGreatDoor.Lx
open Va
theorem quo_len : ∀ f l t n, quo f l = some (t, n) → 1 ≤ n ∧ n ≤ l.length
  | 0, l, t, n, h => by simp [quo] at h
  | f + 1, l, t, n, h => by
    unfold quo at h
    by_cases h34 : l.head? = some 34
    · rw [if_pos h34] at h
      simp only [Option.some.injEq, Prod.mk.injEq] at h
      cases l with
      | nil => simp at h34
      | cons c r => simp; omega
    · rw [if_neg h34] at h
      cases hu : unesc l with
      | none => rw [hu] at h; cases h
      | some cr =>
        obtain ⟨c, r⟩ := cr
        rw [hu] at h
        simp only at h
        by_cases he : esc c ++ r = l
        · rw [if_pos he] at h
          cases hq : quo f r with
          | none => rw [hq] at h; cases h
          | some tn =>
            obtain ⟨t', n'⟩ := tn
            rw [hq] at h
            simp only [Option.some.injEq, Prod.mk.injEq] at h
            have := quo_len f r t' n' hq
            have h2 := congrArg List.length he
            rw [List.length_append] at h2
            omega
        · rw [if_neg he] at h; cases h
theorem tok_len (l : List UInt8) (x : Tok) (h : tokM l = some x) : 1 ≤ x.len ∧ x.len ≤ l.length := by
  cases l with
  | nil => simp [tokM] at h
  | cons c r =>
    rw [tokM_cons] at h
    by_cases h39 : c = 39
    · rw [if_pos h39] at h
      split at h
      · rw [← Option.some.inj h]
        have := takeWhile_le wordB r
        simp; omega
      · cases h
    · rw [if_neg h39] at h
      by_cases hl : letB c = true
      · rw [if_pos hl] at h
        split at h
        · rename_i hn
          rw [← Option.some.inj h]
          have := takeWhile_le wordB (c :: r)
          have h0 := (nameB_ne hn).1
          exact ⟨List.length_pos_iff.2 h0, this⟩
        · cases h
      · rw [if_neg hl] at h
        by_cases hd : digB c = true
        · rw [if_pos hd] at h
          split at h
          · rw [← Option.some.inj h]
            have := takeWhile_le digB (c :: r)
            refine ⟨?_, this⟩
            simp only [List.takeWhile_cons, if_pos hd]; simp
          · cases h
        · rw [if_neg hd] at h
          by_cases h34 : c = 34
          · rw [if_pos h34] at h
            cases hu : quo (r.length + 1) r with
            | none => rw [hu] at h; cases h
            | some tn =>
              obtain ⟨t, n⟩ := tn
              rw [hu] at h
              simp only at h
              have := quo_len _ r t n hu
              split at h
              · rw [← Option.some.inj h]; simp; omega
              · cases h
          · rw [if_neg h34] at h
            cases hf : signs.find? (fun s => s.isPrefixOf (c :: r)) with
            | none => rw [hf] at h; cases h
            | some s =>
              rw [hf] at h
              rw [← Option.some.inj h]
              have h1 := signs_short s (List.mem_of_find?_eq_some hf)
              have h2 := List.find?_some hf
              have h3 := (List.isPrefixOf_iff_prefix.1 h2).length_le
              exact ⟨h1.2.1, h3⟩
theorem scan_step (f : Nat) (l : List UInt8) (a : Nat) : scanF (f + 1) l a =
    match l.drop (blk false l) with
    | [] => ([⟨0, [], 0, a + blk false l⟩], none)
    | m@(_ :: _) => match tokM m with
      | none => ([], some (a + blk false l))
      | some t => (⟨t.kind, t.text, t.num, a + blk false l⟩ :: (scanF f (m.drop t.len) (a + blk false l + t.len)).1, (scanF f (m.drop t.len) (a + blk false l + t.len)).2) := rfl
theorem scan_fuel : ∀ f g l a, l.length < f → l.length < g → scanF f l a = scanF g l a
  | 0, _, l, _, h, _ => by omega
  | _, 0, l, _, _, h => by omega
  | f + 1, g + 1, l, a, hf, hg => by
    rw [scan_step, scan_step]
    cases hm : l.drop (blk false l) with
    | nil => rfl
    | cons c r =>
      simp only
      cases ht : tokM (c :: r) with
      | none => rfl
      | some t =>
        simp only
        have h1 := tok_len _ t ht
        have h2 := congrArg List.length hm
        rw [List.length_drop] at h2
        have h3 : ((c :: r).drop t.len).length < f := by rw [List.length_drop]; omega
        have h4 : ((c :: r).drop t.len).length < g := by rw [List.length_drop]; omega
        rw [scan_fuel f g _ _ h3 h4]
def scanM (l : List UInt8) (a : Nat) : List TA × Option Nat := scanF (l.length + 1) l a
theorem scanM_eq (l : List UInt8) (a : Nat) : scanM l a =
    match l.drop (blk false l) with
    | [] => ([⟨0, [], 0, a + blk false l⟩], none)
    | m@(_ :: _) => match tokM m with
      | none => ([], some (a + blk false l))
      | some t => (⟨t.kind, t.text, t.num, a + blk false l⟩ :: (scanM (m.drop t.len) (a + blk false l + t.len)).1, (scanM (m.drop t.len) (a + blk false l + t.len)).2) := by
  unfold scanM
  rw [scan_step]
  cases hm : l.drop (blk false l) with
  | nil => rfl
  | cons c r =>
    simp only
    cases ht : tokM (c :: r) with
    | none => rfl
    | some t =>
      simp only
      have h1 := tok_len _ t ht
      have h2 := congrArg List.length hm
      rw [List.length_drop] at h2
      rw [scan_fuel l.length (((c :: r).drop t.len).length + 1) _ _ (by rw [List.length_drop]; omega) (by omega)]
end Go.Proofs.YtlmmfhbdebfgkaaGreatDoor.Lx
namespace Go.Proofs.YtlmmfhbdebfgkaaGreatDoor.Lx
open Va
theorem take_takeWhile (p : UInt8 → Bool) (l : List UInt8) : l.take (l.takeWhile p).length = l.takeWhile p := by
  induction l with
  | nil => rfl
  | cons c r ih =>
    simp only [List.takeWhile_cons]
    by_cases h : p c = true
    · rw [if_pos h, List.length_cons, List.take_succ_cons, ih]
    · rw [if_neg h]; rfl
theorem esc_ne (c : UInt8) : esc c ≠ [] := by
  intro h
  have h1 := unesc_esc c []
  rw [h] at h1
  simp [unesc] at h1
end Go.Proofs.YtlmmfhbdebfgkaaGreatDoor.Lx
namespace Go.Proofs.YtlmmfhbdebfgkaaGreatDoor.Lx
open Va
theorem dig_back (c : UInt8) (h : digB c = true) : c.toNat - 48 < 10 ∧ UInt8.ofNat (48 + (c.toNat - 48)) = c := by
  have : ∀ i : Fin 256, digB (UInt8.ofNat i.val) = true → (UInt8.ofNat i.val).toNat - 48 < 10 ∧ UInt8.ofNat (48 + ((UInt8.ofNat i.val).toNat - 48)) = UInt8.ofNat i.val := by decide +kernel
  have h1 := this ⟨c.toNat, c.toNat_lt⟩
  simp only [UInt8.ofNat_toNat] at h1
  exact h1 h
theorem digs_undig : ∀ (n : Nat) (d : List UInt8), d.length = n → d ≠ [] → (∀ c ∈ d, digB c = true) → (d.length = 1 ∨ d.head? ≠ some 48) → digs (undig d) = d := by
  intro n
  induction n with
  | zero => intro d hn h0; exact absurd (List.eq_nil_of_length_eq_zero hn) h0
  | succ n ih =>
    intro d hn h0 hd hz
    obtain ⟨s, c, rfl⟩ : ∃ s c, d = s ++ [c] := ⟨d.dropLast, d.getLast h0, (List.dropLast_concat_getLast h0).symm⟩
    have hc := dig_back c (hd c (by simp))
    have hu : undig (s ++ [c]) = 10 * undig s + (c.toNat - 48) := by simp [undig]
    by_cases hs : s = []
    · subst hs
      rw [hu]
      have e : 10 * undig [] + (c.toNat - 48) = c.toNat - 48 := by simp [undig]
      rw [e, digs, dif_pos hc.1, hc.2]; rfl
    · have hl : 1 ≤ s.length := List.length_pos_iff.2 hs
      have hz1 : (s ++ [c]).head? ≠ some 48 := by
        rcases hz with hz | hz
        · simp at hz; exact absurd hz hs
        · exact hz
      have hz2 : s.head? ≠ some 48 := by
        cases s with
        | nil => exact absurd rfl hs
        | cons a r => simpa using hz1
      have hih := ih s (by simp at hn; exact hn) hs (fun x hx => hd x (by simp [hx])) (.inr hz2)
      have hpos : 1 ≤ undig s := by
        rcases Nat.eq_zero_or_pos (undig s) with h | h
        · exfalso
          rw [h] at hih
          have : digs 0 = [48] := by rw [digs]; rfl
          rw [this] at hih
          rw [← hih] at hz2; simp at hz2
        · exact h
      rw [hu, digs, dif_neg (by omega)]
      have e1 : (10 * undig s + (c.toNat - 48)) / 10 = undig s := by omega
      have e2 : (10 * undig s + (c.toNat - 48)) % 10 = c.toNat - 48 := by omega
      rw [e1, e2, hih, hc.2]
def spellM (kind : Int) (text : List UInt8) (num : Int) : List UInt8 :=
  if kind = 2 then decZ num else if kind = 3 then 34 :: (escT text ++ [34]) else if kind = 4 then 39 :: text else text
theorem quo_text : ∀ f l t n, quo f l = some (t, n) → l.take n = escT t ++ [34]
  | 0, l, t, n, h => by simp [quo] at h
  | f + 1, l, t, n, h => by
    unfold quo at h
    by_cases h34 : l.head? = some 34
    · rw [if_pos h34] at h
      have e : (([] : List UInt8), 1) = (t, n) := Option.some.inj h
      rw [← (Prod.mk.inj e).1, ← (Prod.mk.inj e).2]
      cases l with
      | nil => simp at h34
      | cons c r =>
        have : c = 34 := by simpa using h34
        rw [this]; rfl
    · rw [if_neg h34] at h
      cases hu : unesc l with
      | none => rw [hu] at h; cases h
      | some cr =>
        obtain ⟨c, r⟩ := cr
        rw [hu] at h
        simp only at h
        by_cases he : esc c ++ r = l
        · rw [if_pos he] at h
          cases hq : quo f r with
          | none => rw [hq] at h; cases h
          | some tn =>
            obtain ⟨t', n'⟩ := tn
            rw [hq] at h
            simp only [Option.some.injEq, Prod.mk.injEq] at h
            have ih := quo_text f r t' n' hq
            have e : escT t = esc c ++ escT t' := by rw [← h.1]; rfl
            rw [← he, ← h.2, List.take_append, List.take_of_length_le (by omega), Nat.add_sub_cancel_left, ih, e, List.append_assoc]
        · rw [if_neg he] at h; cases h
theorem mem_takeWhile (p : UInt8 → Bool) (l : List UInt8) : ∀ c ∈ l.takeWhile p, p c = true := by
  induction l with
  | nil => simp
  | cons a r ih =>
    intro c hc
    rw [List.takeWhile_cons] at hc
    split at hc
    · rename_i ha
      rcases List.mem_cons.1 hc with rfl | hc
      · exact ha
      · exact ih c hc
    · simp at hc
theorem spell_take (l : List UInt8) (x : Tok) (h : tokM l = some x) : spellM x.kind x.text x.num = l.take x.len := by
  cases l with
  | nil => simp [tokM] at h
  | cons c r =>
    rw [tokM_cons] at h
    by_cases h39 : c = 39
    · rw [if_pos h39] at h
      by_cases hn : nameB (r.takeWhile wordB) = true
      · rw [if_pos hn] at h
        have hx : x = ⟨4, r.takeWhile wordB, 0, (r.takeWhile wordB).length + 1⟩ := (Option.some.inj h).symm
        subst hx
        simp only [List.take_succ_cons, take_takeWhile]
        rw [h39]; rfl
      · rw [if_neg hn] at h; cases h
    · rw [if_neg h39] at h
      by_cases hl : letB c = true
      · rw [if_pos hl] at h
        by_cases hn : nameB ((c :: r).takeWhile wordB) = true
        · rw [if_pos hn] at h
          have hx : x = ⟨1, (c :: r).takeWhile wordB, 0, ((c :: r).takeWhile wordB).length⟩ := (Option.some.inj h).symm
          subst hx
          simp only [take_takeWhile]; rfl
        · rw [if_neg hn] at h; cases h
      · rw [if_neg hl] at h
        by_cases hd : digB c = true
        · rw [if_pos hd] at h
          by_cases hn : digsOk ((c :: r).takeWhile digB) = true
          · rw [if_pos hn] at h
            have hx : x = ⟨2, (c :: r).takeWhile digB, undig ((c :: r).takeWhile digB), ((c :: r).takeWhile digB).length⟩ := (Option.some.inj h).symm
            subst hx
            simp only [take_takeWhile]
            have hne : (c :: r).takeWhile digB ≠ [] := by rw [List.takeWhile_cons, if_pos hd]; simp
            have hok : ((c :: r).takeWhile digB).length = 1 ∨ ((c :: r).takeWhile digB).head? ≠ some 48 := by
              unfold digsOk at hn
              simp only [Bool.and_eq_true, Bool.or_eq_true, beq_iff_eq, bne_iff_ne] at hn
              exact hn.1
            have := digs_undig _ _ rfl hne (mem_takeWhile digB (c :: r)) hok
            show decZ (Int.ofNat (undig ((c :: r).takeWhile digB))) = _
            unfold decZ
            rw [if_neg (by simp)]
            exact this
          · rw [if_neg hn] at h; cases h
        · rw [if_neg hd] at h
          by_cases h34 : c = 34
          · rw [if_pos h34] at h
            cases hu : quo (r.length + 1) r with
            | none => rw [hu] at h; cases h
            | some tn =>
              obtain ⟨t, n⟩ := tn
              rw [hu] at h
              simp only at h
              by_cases h64 : t.length ≤ 64
              · rw [if_pos h64] at h
                have hx : x = ⟨3, t, 0, n + 1⟩ := (Option.some.inj h).symm
                subst hx
                simp only [List.take_succ_cons]
                rw [quo_text _ r t n hu, h34]; rfl
              · rw [if_neg h64] at h; cases h
          · rw [if_neg h34] at h
            cases hf : signs.find? (fun s => s.isPrefixOf (c :: r)) with
            | none => rw [hf] at h; cases h
            | some s =>
              rw [hf] at h
              have hx : x = ⟨5, s, 0, s.length⟩ := (Option.some.inj h).symm
              subst hx
              have hp0 := List.find?_some hf
              have hp := List.isPrefixOf_iff_prefix.1 hp0
              exact List.prefix_iff_eq_take.1 hp
def bare (t : TA) : Int × List UInt8 × Int := (t.kind, t.text, t.num)
theorem scan_ne (l : List UInt8) (a : Nat) (h : (scanM l a).2 = none) : (scanM l a).1 ≠ [] := by
  rw [scanM_eq] at h ⊢
  cases hm : l.drop (blk false l) with
  | nil => simp
  | cons c r =>
    rw [hm] at h
    simp only at h ⊢
    cases ht : tokM (c :: r) with
    | none => rw [ht] at h; cases h
    | some t => simp
end Go.Proofs.YtlmmfhbdebfgkaaGreatDoor.Lx
namespace Go.Proofs.YtlmmfhbdebfgkaaGreatDoor.Lx
open Va
theorem esc_head (c : UInt8) : ∃ x r, esc c = x :: r ∧ x ≠ 34 := by
  unfold esc
  by_cases h1 : (c < 32 || 126 < c) = true
  · rw [if_pos h1]; exact ⟨92, _, rfl, by decide⟩
  · rw [if_neg h1]
    by_cases h2 : (c == 34 || c == 92) = true
    · rw [if_pos h2]; exact ⟨92, _, rfl, by decide⟩
    · rw [if_neg h2]
      simp only [Bool.or_eq_true, beq_iff_eq, not_or] at h2
      exact ⟨c, [], rfl, h2.1⟩
theorem escT_cons (c : UInt8) (t : List UInt8) : escT (c :: t) = esc c ++ escT t := rfl
theorem escT_append (t s : List UInt8) : escT (t ++ s) = escT t ++ escT s := by unfold escT; rw [List.flatMap_append]
theorem esc_len1 (c : UInt8) : 1 ≤ (esc c).length := by
  have := esc_ne c
  cases h : esc c with
  | nil => exact absurd h this
  | cons => simp
theorem escT_ge (t : List UInt8) : t.length ≤ (escT t).length := by
  induction t with
  | nil => simp
  | cons c t ih => rw [escT_cons, List.length_append, List.length_cons]; have := esc_len1 c; omega
theorem quo_of : ∀ (t q : List UInt8) (f : Nat), t.length < f → quo f (escT t ++ 34 :: q) = some (t, (escT t).length + 1)
  | [], q, f, h => by
    obtain ⟨f, rfl⟩ : ∃ n, f = n + 1 := ⟨f - 1, by omega⟩
    show (if _ then _ else _) = _
    rw [if_pos (by simp [escT])]
    rfl
  | c :: t, q, f, h => by
    obtain ⟨f, rfl⟩ : ∃ n, f = n + 1 := ⟨f - 1, by omega⟩
    have ih := quo_of t q f (by simp at h; omega)
    rw [escT_cons, List.append_assoc]
    unfold quo
    have h34 : (esc c ++ (escT t ++ 34 :: q)).head? ≠ some 34 := by
      obtain ⟨x, r, e, hx⟩ := esc_head c
      rw [e]; simpa using hx
    rw [if_neg h34, unesc_esc]
    simp only
    rw [if_pos trivial, ih]
    simp only [Option.some.injEq, Prod.mk.injEq, true_and, List.length_append]
    omega
def Loose (r : List UInt8) (t0 : List UInt8) (k : Nat) : Prop := ∀ t q, r = escT t ++ 34 :: q → ∃ t1, t = t0 ++ t1 ∧ r.drop k = escT t1 ++ 34 :: q
theorem loose_zero (r : List UInt8) : Loose r [] 0 := fun t _ h => ⟨t, rfl, h⟩
theorem loose_step (r t0 : List UInt8) (k n : Nat) (b : UInt8) (h : Loose r t0 k) (hne : (r.drop k).head? ≠ some 34) (hb : ∀ c s, r.drop k = esc c ++ s → b = c ∧ n = (esc c).length) : Loose r (t0 ++ [b]) (k + n) := by
  intro t q e
  obtain ⟨t1, h1, h2⟩ := h t q e
  cases t1 with
  | nil => rw [h2] at hne; simp [escT] at hne
  | cons c t1 =>
    rw [escT_cons, List.append_assoc] at h2
    obtain ⟨rfl, rfl⟩ := hb c _ h2
    refine ⟨t1, by rw [h1, List.append_assoc]; rfl, ?_⟩
    rw [← List.drop_drop, h2, List.drop_left]
theorem loose_end (r t0 : List UInt8) (k : Nat) (h : Loose r t0 k) (hk : k ≤ r.length) (hend : k = r.length ∨ (r.drop k).head? = some 34) :
    (∀ t n, quo (r.length + 1) r = some (t, n) → t = t0 ∧ n = k + 1 ∧ r.take n = escT t ++ [34]) ∧ (r.take (k + 1) = escT t0 ++ [34] → quo (r.length + 1) r = some (t0, k + 1)) := by
  refine ⟨fun t n hq => ?_, fun e => ?_⟩
  · have e := quo_text _ _ _ _ hq
    have hn := quo_len _ _ _ _ hq
    have hr : r = escT t ++ 34 :: r.drop n := by
      conv => lhs; rw [← List.take_append_drop n r, e]
      simp
    obtain ⟨t1, h1, h2⟩ := h t _ hr
    have ht1 : t1 = [] := by
      rcases hend with hend | hend
      · rw [hend, List.drop_length] at h2
        cases t1 with
        | nil => rfl
        | cons c t1 => rw [escT_cons, List.append_assoc] at h2; exact absurd (List.append_eq_nil_iff.1 h2.symm).1 (esc_ne c)
      · cases t1 with
        | nil => rfl
        | cons c t1 =>
          obtain ⟨x, s, es, hx⟩ := esc_head c
          rw [h2, escT_cons, es] at hend
          simp at hend
          exact absurd hend hx
    subst ht1
    rw [List.append_nil] at h1
    subst h1
    refine ⟨rfl, ?_, e⟩
    have hl := congrArg List.length e
    have h3 := congrArg List.length h2
    rw [List.length_take] at hl
    simp only [List.length_append, List.length_cons, List.length_nil, List.length_drop] at hl h3
    simp [escT] at h3
    omega
  · have hr : r = escT t0 ++ 34 :: r.drop (k + 1) := by
      conv => lhs; rw [← List.take_append_drop (k + 1) r, e]
      simp
    have hl := congrArg List.length e
    rw [List.length_take] at hl
    simp only [List.length_append, List.length_cons, List.length_nil] at hl
    have hge := escT_ge t0
    have := quo_of t0 (r.drop (k + 1)) (r.length + 1) (by omega)
    rw [← hr] at this
    rw [this]
    have hlr := congrArg List.length hr
    simp only [List.length_append, List.length_cons, List.length_drop] at hlr
    have hkl : k + 1 ≤ r.length ∨ k = r.length := by omega
    rcases hkl with hkl | hkl
    · congr 2; omega
    · exfalso
      subst hkl
      obtain ⟨t1, h1, h2⟩ := h t0 _ hr
      rw [List.drop_length] at h2
      exact absurd h2 (by simp)
end Go.Proofs.YtlmmfhbdebfgkaaGreatDoor.Lx
namespace Go.Proofs.YtlmmfhbdebfgkaaGreatDoor.Lx
open Va
def low (c : UInt8) : UInt8 := c ||| 32
def hexD (c : UInt8) : Option Nat :=
  if 48 ≤ c.toNat ∧ c.toNat ≤ 57 then some (c.toNat - 48)
  else if 97 ≤ (low c).toNat ∧ (low c).toNat ≤ 102 then some ((low c).toNat - 87)
  else none
theorem hexD_lt {c : UInt8} {n : Nat} (h : hexD c = some n) : n < 16 := by
  unfold hexD at h
  split at h
  · obtain rfl := Option.some.inj h; omega
  · split at h
    · obtain rfl := Option.some.inj h; omega
    · cases h
def hexP (a b : UInt8) : Option Nat := match hexD a, hexD b with
  | some x, some y => some (16 * x + y)
  | _, _ => none
theorem hexP_lt {a b : UInt8} {n : Nat} (h : hexP a b = some n) : n < 256 := by
  unfold hexP at h
  split at h
  · rename_i x y h1 h2
    have := hexD_lt h1
    have := hexD_lt h2
    obtain rfl := Option.some.inj h
    omega
  · cases h
theorem hexP_esc (c : UInt8) : hexP (hexC (c.toNat / 16)) (hexC (c.toNat % 16)) = some c.toNat := by
  have : ∀ i : Fin 256, hexP (hexC (i.val / 16)) (hexC (i.val % 16)) = some i.val := by decide +kernel
  exact this ⟨c.toNat, c.toNat_lt⟩
def unescM : List UInt8 → UInt8 × Nat
  | [] => (0, 1)
  | [c] => (c, 1)
  | c :: d :: r => if c = 92 then (if d = 120 then (match r with
      | a :: b :: _ => (match hexP a b with
        | some n => (UInt8.ofNat n, 4)
        | none => (d, 2))
      | _ => (d, 2)) else (d, 2)) else (c, 1)
theorem unescM_plain (c : UInt8) (r : List UInt8) (h : c ≠ 92) : unescM (c :: r) = (c, 1) := by
  cases r with
  | nil => rfl
  | cons d r => show (if c = 92 then _ else _) = _; rw [if_neg h]
theorem unescM_two (d : UInt8) (r : List UInt8) (h : d ≠ 120) : unescM (92 :: d :: r) = (d, 2) := by
  simp [unescM, h]
theorem unescM_hex (a b : UInt8) (r : List UInt8) (n : Nat) (h : hexP a b = some n) : unescM (92 :: 120 :: a :: b :: r) = (UInt8.ofNat n, 4) := by
  have e : unescM (92 :: 120 :: a :: b :: r) = match hexP a b with
    | some n => (UInt8.ofNat n, 4)
    | none => (120, 2) := rfl
  rw [e, h]
theorem unescM_nohex (a b : UInt8) (r : List UInt8) (h : hexP a b = none) : unescM (92 :: 120 :: a :: b :: r) = (120, 2) := by
  have e : unescM (92 :: 120 :: a :: b :: r) = match hexP a b with
    | some n => (UInt8.ofNat n, 4)
    | none => (120, 2) := rfl
  rw [e, h]
theorem unescM_esc (c : UInt8) (s : List UInt8) : unescM (esc c ++ s) = (c, (esc c).length) := by
  unfold esc
  by_cases h1 : (c < 32 || 126 < c) = true
  · rw [if_pos h1]
    have := unescM_hex (hexC (c.toNat / 16)) (hexC (c.toNat % 16)) s c.toNat (hexP_esc c)
    rw [UInt8.ofNat_toNat] at this
    exact this
  · rw [if_neg h1]
    by_cases h2 : (c == 34 || c == 92) = true
    · rw [if_pos h2]
      exact unescM_two c s (by intro e; subst e; simp at h2)
    · rw [if_neg h2]
      exact unescM_plain c s (by intro e; subst e; simp at h2)
theorem unescM_len : ∀ l : List UInt8, l ≠ [] → 1 ≤ (unescM l).2 ∧ (unescM l).2 ≤ l.length
  | [], h => absurd rfl h
  | [c], _ => by simp [unescM]
  | c :: d :: r, _ => by
    by_cases hc : c = 92
    · subst hc
      by_cases hd : d = 120
      · subst hd
        match r with
        | [] => simp [unescM]
        | [_] => simp [unescM]
        | a :: b :: r =>
          cases h : hexP a b with
          | none => rw [unescM_nohex a b r h]; simp
          | some n => rw [unescM_hex a b r n h]; simp
      · rw [unescM_two d r hd]; simp
    · rw [unescM_plain c _ hc]; simp
end Go.Proofs.YtlmmfhbdebfgkaaGreatDoor.Lx
namespace Go.Proofs.YtlmmfhbdebfgkaaGreatDoor.Lx
open Va
structure ScanSt (l : List UInt8) (ts : List TA) (m : Nat) : Prop where
  ex : ∃ p, m = p + blk false (l.drop p) ∧ scanM l 0 = (ts ++ (scanM (l.drop p) p).1, (scanM (l.drop p) p).2)
theorem scan_start (l : List UInt8) : ScanSt l [] (blk false l) := ⟨0, by simp, by simp⟩
theorem scan_bad (l : List UInt8) (ts : List TA) (m : Nat) (h : ScanSt l ts m) (hlt : m < l.length) (ht : tokM (l.drop m) = none) : scanM l 0 = (ts, some m) := by
  obtain ⟨p, hm, hs⟩ := h.ex
  rw [hs, scanM_eq, List.drop_drop, ← hm]
  cases hd : l.drop m with
  | nil => have := congrArg List.length hd; rw [List.length_drop] at this; simp at this; omega
  | cons c r =>
    rw [hd] at ht
    simp only [ht, List.append_nil]
theorem scan_next (l : List UInt8) (ts : List TA) (m : Nat) (h : ScanSt l ts m) (hlt : m < l.length) (t : Tok) (ht : tokM (l.drop m) = some t) :
    ScanSt l (ts ++ [⟨t.kind, t.text, t.num, m⟩]) (m + t.len + blk false (l.drop (m + t.len))) := by
  obtain ⟨p, hm, hs⟩ := h.ex
  refine ⟨m + t.len, rfl, ?_⟩
  rw [hs, scanM_eq, List.drop_drop, ← hm]
  cases hd : l.drop m with
  | nil => have := congrArg List.length hd; rw [List.length_drop] at this; simp at this; omega
  | cons c r =>
    rw [hd] at ht
    simp only [ht]
    rw [← hd, List.drop_drop, List.append_assoc]
    rfl
theorem scan_end (l : List UInt8) (ts : List TA) (m : Nat) (h : ScanSt l ts m) (hge : l.length ≤ m) : scanM l 0 = (ts ++ [⟨0, [], 0, m⟩], none) := by
  obtain ⟨p, hm, hs⟩ := h.ex
  rw [hs, scanM_eq, List.drop_drop, ← hm, List.drop_eq_nil_of_le hge]
theorem tok_fits (l : List UInt8) (m : Nat) (t : Tok) (ht : tokM (l.drop m) = some t) (hlt : m < l.length) : 1 ≤ t.len ∧ m + t.len ≤ l.length := by
  have h := tok_len _ t ht
  rw [List.length_drop] at h
  omega
end Go.Proofs.YtlmmfhbdebfgkaaGreatDoor.Lx
namespace Go.Proofs.YtlmmfhbdebfgkaaGreatDoor.Lx
open Va
theorem scan_at : ∀ (n : Nat) (l : List UInt8) (a : Nat), l.length ≤ n → (∀ t ∈ (scanM l a).1, t.at_ ≤ a + l.length) ∧ (scanM l a).1.length ≤ l.length + 1 := by
  intro n
  induction n with
  | zero =>
    intro l a hl
    have e : l = [] := List.eq_nil_of_length_eq_zero (by omega)
    subst e
    have : scanM [] a = ([⟨0, [], 0, a⟩], none) := rfl
    rw [this]
    exact ⟨fun t ht => by simp at ht; subst ht; simp, by simp⟩
  | succ n ih =>
    intro l a hl
    have hb := blk_le false l
    rw [scanM_eq]
    cases hm : l.drop (blk false l) with
    | nil => exact ⟨fun t ht => by simp at ht; subst ht; simp; omega, by simp⟩
    | cons c r =>
      simp only
      have hlen := congrArg List.length hm
      rw [List.length_drop] at hlen
      cases ht : tokM (c :: r) with
      | none => exact ⟨fun t ht => by simp at ht, by simp⟩
      | some t =>
        simp only
        have h1 := tok_len _ t ht
        have hd : ((c :: r).drop t.len).length = (c :: r).length - t.len := List.length_drop
        obtain ⟨i1, i2⟩ := ih ((c :: r).drop t.len) (a + blk false l + t.len) (by omega)
        rw [hd] at i1 i2
        refine ⟨fun u hu => ?_, ?_⟩
        · rcases List.mem_cons.1 hu with rfl | hu
          · simp only; omega
          · have := i1 u hu; omega
        · rw [List.length_cons]; omega
end Go.Proofs.YtlmmfhbdebfgkaaGreatDoor.Lx
