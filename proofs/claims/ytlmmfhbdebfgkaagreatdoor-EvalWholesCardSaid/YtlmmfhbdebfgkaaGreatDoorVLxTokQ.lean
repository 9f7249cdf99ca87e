/-
  LxTok, LxScan, LxTake, LxBack, LxQuo, LxHex, LxScanP, LxAts, LxRBlank, LxRQuo.
-/
import Derived.Test.YtlmmfhbdebfgkaaGreatDoorVVaPureQ
set_option linter.unusedVariables false
set_option linter.unusedSimpArgs false
set_option maxRecDepth 100000
set_option maxHeartbeats 3200000
namespace Go.Proofs.YtlmmfhbdebfgkaaGreatDoor.Lx
open Va
theorem white_not (c : UInt8) (h : whiteB c = true) : wordB c = false ∧ digB c = false := by
  have : ∀ i : Fin 256, whiteB (UInt8.ofNat i.val) = true → wordB (UInt8.ofNat i.val) = false ∧ digB (UInt8.ofNat i.val) = false := by decide +kernel
  have h1 := this ⟨c.toNat, c.toNat_lt⟩
  simp only [UInt8.ofNat_toNat] at h1
  exact h1 h
theorem signs_short : ∀ s ∈ signs, s.length ≤ 2 ∧ 1 ≤ s.length ∧ ∀ b, s[1]? = some b → whiteB b = false := by
  have : signs.all (fun s => decide (s.length ≤ 2) && decide (1 ≤ s.length) && (match s[1]? with | none => true | some b => !whiteB b)) = true := by decide
  intro s hs
  have h := List.all_eq_true.1 this s hs
  simp only [Bool.and_eq_true, decide_eq_true_eq] at h
  refine ⟨h.1.1, h.1.2, fun b hb => ?_⟩
  have h2 := h.2
  rw [hb] at h2
  simpa using h2
def Dlm (q : List UInt8) : Prop := ∀ c, q.head? = some c → whiteB c = true
theorem Dlm.word {q : List UInt8} (h : Dlm q) : ∀ c, q.head? = some c → wordB c = false := fun c hc => (white_not c (h c hc)).1
theorem takeWhile_le (p : UInt8 → Bool) (l : List UInt8) : (l.takeWhile p).length ≤ l.length := by
  induction l with
  | nil => simp
  | cons c r ih => simp only [List.takeWhile_cons]; split <;> simp; omega
theorem tokM_cons (c : UInt8) (r : List UInt8) : tokM (c :: r) =
    if c = 39 then (if nameB (r.takeWhile wordB) = true then some ⟨4, r.takeWhile wordB, 0, (r.takeWhile wordB).length + 1⟩ else none)
    else if letB c = true then (if nameB ((c :: r).takeWhile wordB) = true then some ⟨1, (c :: r).takeWhile wordB, 0, ((c :: r).takeWhile wordB).length⟩ else none)
    else if digB c = true then (if digsOk ((c :: r).takeWhile digB) = true then some ⟨2, (c :: r).takeWhile digB, undig ((c :: r).takeWhile digB), ((c :: r).takeWhile digB).length⟩ else none)
    else if c = 34 then (match quo (r.length + 1) r with
      | none => none
      | some (t, n) => if t.length ≤ 64 then some ⟨3, t, 0, n + 1⟩ else none)
    else match signs.find? (fun s => s.isPrefixOf (c :: r)) with
      | none => none
      | some s => some ⟨5, s, 0, s.length⟩ := rfl
end Go.Proofs.YtlmmfhbdebfgkaaGreatDoor.Lx
namespace Go.Proofs.YtlmmfhbdebfgkaaGreatDoor.Lx
open Va
theorem quo_len : ∀ f l t n, quo f l = some (t, n) → 1 ≤ n ∧ n ≤ l.length
  | 0, l, t, n, h => by simp [quo] at h
  | f + 1, l, t, n, h => by
    unfold quo at h
    by_cases h34 : l.head? = some 34
    · rw [if_pos h34] at h
      simp only [Option.some.injEq, Prod.mk.injEq] at h
      cases l with
      | nil => simp at h34
      | cons c r => simp; omega
    · rw [if_neg h34] at h
      cases hu : unesc l with
      | none => rw [hu] at h; cases h
      | some cr =>
        obtain ⟨c, r⟩ := cr
        rw [hu] at h
        simp only at h
        by_cases he : esc c ++ r = l
        · rw [if_pos he] at h
          cases hq : quo f r with
          | none => rw [hq] at h; cases h
          | some tn =>
            obtain ⟨t', n'⟩ := tn
            rw [hq] at h
            simp only [Option.some.injEq, Prod.mk.injEq] at h
            have := quo_len f r t' n' hq
            have h2 := congrArg List.length he
            rw [List.length_append] at h2
            omega
        · rw [if_neg he] at h; cases h
theorem tok_len (l : List UInt8) (x : Tok) (h : tokM l = some x) : 1 ≤ x.len ∧ x.len ≤ l.length := by
  cases l with
  | nil => simp [tokM] at h
  | cons c r =>
    rw [tokM_cons] at h
    by_cases h39 : c = 39
    · rw [if_pos h39] at h
      split at h
      · rw [← Option.some.inj h]
        have := takeWhile_le wordB r
        simp; omega
      · cases h
    · rw [if_neg h39] at h
      by_cases hl : letB c = true
      · rw [if_pos hl] at h
        split at h
        · rename_i hn
          rw [← Option.some.inj h]
          have := takeWhile_le wordB (c :: r)
          have h0 := (nameB_ne hn).1
          exact ⟨List.length_pos_iff.2 h0, this⟩
        · cases h
      · rw [if_neg hl] at h
        by_cases hd : digB c = true
        · rw [if_pos hd] at h
          split at h
          · rw [← Option.some.inj h]
            have := takeWhile_le digB (c :: r)
            refine ⟨?_, this⟩
            simp only [List.takeWhile_cons, if_pos hd]; simp
          · cases h
        · rw [if_neg hd] at h
          by_cases h34 : c = 34
          · rw [if_pos h34] at h
            cases hu : quo (r.length + 1) r with
            | none => rw [hu] at h; cases h
            | some tn =>
              obtain ⟨t, n⟩ := tn
              rw [hu] at h
              simp only at h
              have := quo_len _ r t n hu
              split at h
              · rw [← Option.some.inj h]; simp; omega
              · cases h
          · rw [if_neg h34] at h
            cases hf : signs.find? (fun s => s.isPrefixOf (c :: r)) with
            | none => rw [hf] at h; cases h
            | some s =>
              rw [hf] at h
              rw [← Option.some.inj h]
              have h1 := signs_short s (List.mem_of_find?_eq_some hf)
              have h2 := List.find?_some hf
              have h3 := (List.isPrefixOf_iff_prefix.1 h2).length_le
              exact ⟨h1.2.1, h3⟩
theorem scan_step (f : Nat) (l : List UInt8) (a : Nat) : scanF (f + 1) l a =
    match l.drop (blk false l) with
    | [] => ([⟨0, [], 0, a + blk false l⟩], none)
    | m@(_ :: _) => match tokM m with
      | none => ([], some (a + blk false l))
      | some t => (⟨t.kind, t.text, t.num, a + blk false l⟩ :: (scanF f (m.drop t.len) (a + blk false l + t.len)).1, (scanF f (m.drop t.len) (a + blk false l + t.len)).2) := rfl
theorem scan_fuel : ∀ f g l a, l.length < f → l.length < g → scanF f l a = scanF g l a
  | 0, _, l, _, h, _ => by omega
  | _, 0, l, _, _, h => by omega
  | f + 1, g + 1, l, a, hf, hg => by
    rw [scan_step, scan_step]
    cases hm : l.drop (blk false l) with
    | nil => rfl
    | cons c r =>
      simp only
      cases ht : tokM (c :: r) with
      | none => rfl
      | some t =>
        simp only
        have h1 := tok_len _ t ht
        have h2 := congrArg List.length hm
        rw [List.length_drop] at h2
        have h3 : ((c :: r).drop t.len).length < f := by rw [List.length_drop]; omega
        have h4 : ((c :: r).drop t.len).length < g := by rw [List.length_drop]; omega
        rw [scan_fuel f g _ _ h3 h4]
def scanM (l : List UInt8) (a : Nat) : List TA × Option Nat := scanF (l.length + 1) l a
theorem scanM_eq (l : List UInt8) (a : Nat) : scanM l a =
    match l.drop (blk false l) with
    | [] => ([⟨0, [], 0, a + blk false l⟩], none)
    | m@(_ :: _) => match tokM m with
      | none => ([], some (a + blk false l))
      | some t => (⟨t.kind, t.text, t.num, a + blk false l⟩ :: (scanM (m.drop t.len) (a + blk false l + t.len)).1, (scanM (m.drop t.len) (a + blk false l + t.len)).2) := by
  unfold scanM
  rw [scan_step]
  cases hm : l.drop (blk false l) with
  | nil => rfl
  | cons c r =>
    simp only
    cases ht : tokM (c :: r) with
    | none => rfl
    | some t =>
      simp only
      have h1 := tok_len _ t ht
      have h2 := congrArg List.length hm
      rw [List.length_drop] at h2
      rw [scan_fuel l.length (((c :: r).drop t.len).length + 1) _ _ (by rw [List.length_drop]; omega) (by omega)]
end Go.Proofs.YtlmmfhbdebfgkaaGreatDoor.Lx
namespace Go.Proofs.YtlmmfhbdebfgkaaGreatDoor.Lx
open Va
theorem esc_ne (c : UInt8) : esc c ≠ [] := by
  intro h
  have h1 := unesc_esc c []
  rw [h] at h1
  simp [unesc] at h1
end Go.Proofs.YtlmmfhbdebfgkaaGreatDoor.Lx
namespace Go.Proofs.YtlmmfhbdebfgkaaGreatDoor.Lx
open Va
theorem quo_text : ∀ f l t n, quo f l = some (t, n) → l.take n = escT t ++ [34]
  | 0, l, t, n, h => by simp [quo] at h
  | f + 1, l, t, n, h => by
    unfold quo at h
    by_cases h34 : l.head? = some 34
    · rw [if_pos h34] at h
      have e : (([] : List UInt8), 1) = (t, n) := Option.some.inj h
      rw [← (Prod.mk.inj e).1, ← (Prod.mk.inj e).2]
      cases l with
      | nil => simp at h34
      | cons c r =>
        have : c = 34 := by simpa using h34
        rw [this]; rfl
    · rw [if_neg h34] at h
      cases hu : unesc l with
      | none => rw [hu] at h; cases h
      | some cr =>
        obtain ⟨c, r⟩ := cr
        rw [hu] at h
        simp only at h
        by_cases he : esc c ++ r = l
        · rw [if_pos he] at h
          cases hq : quo f r with
          | none => rw [hq] at h; cases h
          | some tn =>
            obtain ⟨t', n'⟩ := tn
            rw [hq] at h
            simp only [Option.some.injEq, Prod.mk.injEq] at h
            have ih := quo_text f r t' n' hq
            have e : escT t = esc c ++ escT t' := by rw [← h.1]; rfl
            rw [← he, ← h.2, List.take_append, List.take_of_length_le (by omega), Nat.add_sub_cancel_left, ih, e, List.append_assoc]
        · rw [if_neg he] at h; cases h
theorem mem_takeWhile (p : UInt8 → Bool) (l : List UInt8) : ∀ c ∈ l.takeWhile p, p c = true := by
  induction l with
  | nil => simp
  | cons a r ih =>
    intro c hc
    rw [List.takeWhile_cons] at hc
    split at hc
    · rename_i ha
      rcases List.mem_cons.1 hc with rfl | hc
      · exact ha
      · exact ih c hc
    · simp at hc
end Go.Proofs.YtlmmfhbdebfgkaaGreatDoor.Lx
namespace Go.Proofs.YtlmmfhbdebfgkaaGreatDoor.Lx
open Va
theorem esc_head (c : UInt8) : ∃ x r, esc c = x :: r ∧ x ≠ 34 := by
  unfold esc
  by_cases h1 : (c < 32 || 126 < c) = true
  · rw [if_pos h1]; exact ⟨92, _, rfl, by decide⟩
  · rw [if_neg h1]
    by_cases h2 : (c == 34 || c == 92) = true
    · rw [if_pos h2]; exact ⟨92, _, rfl, by decide⟩
    · rw [if_neg h2]
      simp only [Bool.or_eq_true, beq_iff_eq, not_or] at h2
      exact ⟨c, [], rfl, h2.1⟩
theorem escT_cons (c : UInt8) (t : List UInt8) : escT (c :: t) = esc c ++ escT t := rfl
theorem escT_append (t s : List UInt8) : escT (t ++ s) = escT t ++ escT s := by unfold escT; rw [List.flatMap_append]
theorem esc_len1 (c : UInt8) : 1 ≤ (esc c).length := by
  have := esc_ne c
  cases h : esc c with
  | nil => exact absurd h this
  | cons => simp
theorem escT_ge (t : List UInt8) : t.length ≤ (escT t).length := by
  induction t with
  | nil => simp
  | cons c t ih => rw [escT_cons, List.length_append, List.length_cons]; have := esc_len1 c; omega
theorem quo_of : ∀ (t q : List UInt8) (f : Nat), t.length < f → quo f (escT t ++ 34 :: q) = some (t, (escT t).length + 1)
  | [], q, f, h => by
    obtain ⟨f, rfl⟩ : ∃ n, f = n + 1 := ⟨f - 1, by omega⟩
    show (if _ then _ else _) = _
    rw [if_pos (by simp [escT])]
    rfl
  | c :: t, q, f, h => by
    obtain ⟨f, rfl⟩ : ∃ n, f = n + 1 := ⟨f - 1, by omega⟩
    have ih := quo_of t q f (by simp at h; omega)
    rw [escT_cons, List.append_assoc]
    unfold quo
    have h34 : (esc c ++ (escT t ++ 34 :: q)).head? ≠ some 34 := by
      obtain ⟨x, r, e, hx⟩ := esc_head c
      rw [e]; simpa using hx
    rw [if_neg h34, unesc_esc]
    simp only
    rw [if_pos trivial, ih]
    simp only [Option.some.injEq, Prod.mk.injEq, true_and, List.length_append]
    omega
end Go.Proofs.YtlmmfhbdebfgkaaGreatDoor.Lx
namespace Go.Proofs.YtlmmfhbdebfgkaaGreatDoor.Lx
open Va
def low (c : UInt8) : UInt8 := c ||| 32
def hexD (c : UInt8) : Option Nat :=
  if 48 ≤ c.toNat ∧ c.toNat ≤ 57 then some (c.toNat - 48)
  else if 97 ≤ (low c).toNat ∧ (low c).toNat ≤ 102 then some ((low c).toNat - 87)
  else none
def hexP (a b : UInt8) : Option Nat := match hexD a, hexD b with
  | some x, some y => some (16 * x + y)
  | _, _ => none
theorem hexP_esc (c : UInt8) : hexP (hexC (c.toNat / 16)) (hexC (c.toNat % 16)) = some c.toNat := by
  have : ∀ i : Fin 256, hexP (hexC (i.val / 16)) (hexC (i.val % 16)) = some i.val := by decide +kernel
  exact this ⟨c.toNat, c.toNat_lt⟩
def unescM : List UInt8 → UInt8 × Nat
  | [] => (0, 1)
  | [c] => (c, 1)
  | c :: d :: r => if c = 92 then (if d = 120 then (match r with
      | a :: b :: _ => (match hexP a b with
        | some n => (UInt8.ofNat n, 4)
        | none => (d, 2))
      | _ => (d, 2)) else (d, 2)) else (c, 1)
theorem unescM_plain (c : UInt8) (r : List UInt8) (h : c ≠ 92) : unescM (c :: r) = (c, 1) := by
  cases r with
  | nil => rfl
  | cons d r => show (if c = 92 then _ else _) = _; rw [if_neg h]
theorem unescM_two (d : UInt8) (r : List UInt8) (h : d ≠ 120) : unescM (92 :: d :: r) = (d, 2) := by
  simp [unescM, h]
theorem unescM_hex (a b : UInt8) (r : List UInt8) (n : Nat) (h : hexP a b = some n) : unescM (92 :: 120 :: a :: b :: r) = (UInt8.ofNat n, 4) := by
  have e : unescM (92 :: 120 :: a :: b :: r) = match hexP a b with
    | some n => (UInt8.ofNat n, 4)
    | none => (120, 2) := rfl
  rw [e, h]
theorem unescM_esc (c : UInt8) (s : List UInt8) : unescM (esc c ++ s) = (c, (esc c).length) := by
  unfold esc
  by_cases h1 : (c < 32 || 126 < c) = true
  · rw [if_pos h1]
    have := unescM_hex (hexC (c.toNat / 16)) (hexC (c.toNat % 16)) s c.toNat (hexP_esc c)
    rw [UInt8.ofNat_toNat] at this
    exact this
  · rw [if_neg h1]
    by_cases h2 : (c == 34 || c == 92) = true
    · rw [if_pos h2]
      exact unescM_two c s (by intro e; subst e; simp at h2)
    · rw [if_neg h2]
      exact unescM_plain c s (by intro e; subst e; simp at h2)
end Go.Proofs.YtlmmfhbdebfgkaaGreatDoor.Lx
namespace Go.Proofs.YtlmmfhbdebfgkaaGreatDoor.Lx
open Va
structure ScanSt (l : List UInt8) (ts : List TA) (m : Nat) : Prop where
  ex : ∃ p, m = p + blk false (l.drop p) ∧ scanM l 0 = (ts ++ (scanM (l.drop p) p).1, (scanM (l.drop p) p).2)
theorem scan_start (l : List UInt8) : ScanSt l [] (blk false l) := ⟨0, by simp, by simp⟩
theorem scan_bad (l : List UInt8) (ts : List TA) (m : Nat) (h : ScanSt l ts m) (hlt : m < l.length) (ht : tokM (l.drop m) = none) : scanM l 0 = (ts, some m) := by
  obtain ⟨p, hm, hs⟩ := h.ex
  rw [hs, scanM_eq, List.drop_drop, ← hm]
  cases hd : l.drop m with
  | nil => have := congrArg List.length hd; rw [List.length_drop] at this; simp at this; omega
  | cons c r =>
    rw [hd] at ht
    simp only [ht, List.append_nil]
theorem scan_next (l : List UInt8) (ts : List TA) (m : Nat) (h : ScanSt l ts m) (hlt : m < l.length) (t : Tok) (ht : tokM (l.drop m) = some t) :
    ScanSt l (ts ++ [⟨t.kind, t.text, t.num, m⟩]) (m + t.len + blk false (l.drop (m + t.len))) := by
  obtain ⟨p, hm, hs⟩ := h.ex
  refine ⟨m + t.len, rfl, ?_⟩
  rw [hs, scanM_eq, List.drop_drop, ← hm]
  cases hd : l.drop m with
  | nil => have := congrArg List.length hd; rw [List.length_drop] at this; simp at this; omega
  | cons c r =>
    rw [hd] at ht
    simp only [ht]
    rw [← hd, List.drop_drop, List.append_assoc]
    rfl
theorem scan_end (l : List UInt8) (ts : List TA) (m : Nat) (h : ScanSt l ts m) (hge : l.length ≤ m) : scanM l 0 = (ts ++ [⟨0, [], 0, m⟩], none) := by
  obtain ⟨p, hm, hs⟩ := h.ex
  rw [hs, scanM_eq, List.drop_drop, ← hm, List.drop_eq_nil_of_le hge]
theorem tok_fits (l : List UInt8) (m : Nat) (t : Tok) (ht : tokM (l.drop m) = some t) (hlt : m < l.length) : 1 ≤ t.len ∧ m + t.len ≤ l.length := by
  have h := tok_len _ t ht
  rw [List.length_drop] at h
  omega
end Go.Proofs.YtlmmfhbdebfgkaaGreatDoor.Lx
namespace Go.Proofs.YtlmmfhbdebfgkaaGreatDoor.Lx
open Va
theorem scan_at : ∀ (n : Nat) (l : List UInt8) (a : Nat), l.length ≤ n → (∀ t ∈ (scanM l a).1, t.at_ ≤ a + l.length) ∧ (scanM l a).1.length ≤ l.length + 1 := by
  intro n
  induction n with
  | zero =>
    intro l a hl
    have e : l = [] := List.eq_nil_of_length_eq_zero (by omega)
    subst e
    have : scanM [] a = ([⟨0, [], 0, a⟩], none) := rfl
    rw [this]
    exact ⟨fun t ht => by simp at ht; subst ht; simp, by simp⟩
  | succ n ih =>
    intro l a hl
    have hb := blk_le false l
    rw [scanM_eq]
    cases hm : l.drop (blk false l) with
    | nil => exact ⟨fun t ht => by simp at ht; subst ht; simp; omega, by simp⟩
    | cons c r =>
      simp only
      have hlen := congrArg List.length hm
      rw [List.length_drop] at hlen
      cases ht : tokM (c :: r) with
      | none => exact ⟨fun t ht => by simp at ht, by simp⟩
      | some t =>
        simp only
        have h1 := tok_len _ t ht
        have hd : ((c :: r).drop t.len).length = (c :: r).length - t.len := List.length_drop
        obtain ⟨i1, i2⟩ := ih ((c :: r).drop t.len) (a + blk false l + t.len) (by omega)
        rw [hd] at i1 i2
        refine ⟨fun u hu => ?_, ?_⟩
        · rcases List.mem_cons.1 hu with rfl | hu
          · simp only; omega
          · have := i1 u hu; omega
        · rw [List.length_cons]; omega
end Go.Proofs.YtlmmfhbdebfgkaaGreatDoor.Lx
namespace Go.Proofs.YtlmmfhbdebfgkaaGreatDoor.Lx
open Go.RowKit
open Va
theorem rbyte_ne (c d : UInt8) (h : c ≠ d) : ((c.toNat : Int) == (d.toNat : Int)) = false := by
  rw [beq_eq_false_iff_ne]
  intro e
  exact h (UInt8.toNat_inj.1 (by omega))
theorem rdrop_cons (l : List UInt8) (n : Nat) (h : n < l.length) : l.drop n = l[n] :: l.drop (n + 1) := List.drop_eq_getElem_cons h
theorem rget (s : ByteArray) (l : List UInt8) (h : s.data.toList = l) (k : Nat) (hk : k < s.size) (hl : k < l.length) : s[k] = l[k] := by
  have := getElem_list s k hk
  rw [← this, h]
  simp [List.getD, hl]
theorem ret_int {k : IntKind} {a b : Int} (h : a = b) : Ending.returned (.int k a) = .returned (.int k b) := by rw [h]
structure BlSt (l : List UInt8) (a : Nat) (c : Bool) (n : Nat) : Prop where
  eq : blk false (l.drop a) = (n - a) + blk c (l.drop n)
  le : a ≤ n
theorem bl_white (l : List UInt8) (a n : Nat) (h : BlSt l a false n) (hn : n < l.length) (hw : whiteB l[n] = true) : BlSt l a false (n + 1) := by
  have := h.eq
  rw [rdrop_cons l n hn, blk_f, if_pos hw] at this
  have := h.le
  exact ⟨by omega, by omega⟩
theorem bl_open (l : List UInt8) (a n : Nat) (h : BlSt l a false n) (hn : n + 1 < l.length) (h1 : l[n] = 47) (h2 : l[n + 1] = 47) : BlSt l a true n := by
  have he := h.eq
  rw [rdrop_cons l n (by omega), blk_f, h1, if_neg (by decide), if_pos ⟨rfl, by rw [rdrop_cons l (n + 1) hn, h2]; rfl⟩] at he
  refine ⟨?_, h.le⟩
  rw [rdrop_cons l n (by omega), h1, blk_t, if_neg (by decide)]
  exact he
theorem bl_in (l : List UInt8) (a n : Nat) (h : BlSt l a true n) (hn : n < l.length) (hc : l[n] ≠ 10) : BlSt l a true (n + 1) := by
  have he := h.eq
  rw [rdrop_cons l n hn, blk_t, if_neg hc] at he
  have := h.le
  exact ⟨by omega, by omega⟩
theorem bl_close (l : List UInt8) (a n : Nat) (h : BlSt l a true n) (hc : n = l.length ∨ ∃ hn : n < l.length, l[n] = 10) : BlSt l a false n := by
  have he := h.eq
  refine ⟨?_, h.le⟩
  rcases hc with hc | ⟨hn, hc⟩
  · have hd : l.drop n = [] := List.drop_eq_nil_of_le (by omega)
    rw [he, hd]
    rfl
  · have hd : l.drop n = 10 :: l.drop (n + 1) := by rw [rdrop_cons l n hn, hc]
    rw [he, hd, blk_t, blk_f, if_pos rfl, if_pos (show whiteB 10 = true from rfl)]
theorem bl_end (l : List UInt8) (a n : Nat) (h : BlSt l a false n) (hc : n = l.length ∨ ∃ hn : n < l.length, whiteB l[n] = false ∧ ¬ (l[n] = 47 ∧ l[n + 1]? = some 47)) : ((n : Int) - (a : Int)) = (blk false (l.drop a) : Int) := by
  have he := h.eq
  have hl := h.le
  have h0 : blk false (l.drop n) = 0 := by
    rcases hc with hc | ⟨hn, hw, hc⟩
    · rw [List.drop_eq_nil_of_le (show l.length ≤ n by omega)]; rfl
    · rw [rdrop_cons l n hn, blk_f, if_neg (by rw [hw]; decide), if_neg (by rw [List.head?_drop]; exact hc)]
  omega
theorem refBlanks_any (s : ByteArray) (a : Nat) (ha : a ≤ s.size) (hs : s.size ≤ 100000) (w : World) :
    Calls Tryz.prog 81 #[.string s, .int .i64 (a : Int)] w fun e w' => e = .returned (.int .i64 (blk false (s.data.toList.drop a) : Int)) ∧ w = w' := by
  have hls := list_size s
  obtain ⟨l, hl⟩ : ∃ l, s.data.toList = l := ⟨_, rfl⟩
  rw [hl] at hls ⊢
  have HLS := Lib.hid hls
  have HL := Lib.hid hl
  have hsi : (s.size : Int) ≤ 100000 := by omega
  have HE0 := Lib.hid (show BlSt l a false a from ⟨by omega, Nat.le_refl _⟩)
  have HGT := Lib.hid (fun (k : Nat) (hk : k < s.size) (hk2 : k < l.length) => rget s l hl k hk hk2)
  clear hl hls
  go_enter Tryz.func81, Tryz.ntmps81
  go_wp2_with fail
  go_loop [5] (fun v => ∃ n : Nat, v = .int .i64 n ∧ n ≤ s.size ∧ BlSt l a false n) (fun v => s.size - (intOf v).toNat)
  case atStart => exact ⟨a, rfl, ha, HE0.out⟩
  case round =>
    obtain ⟨n, rfl, hn, hst⟩ := hrel
    have HST := Lib.hid hst
    clear hst
    by_cases hlt : n < s.size
    · have hni : (n : Int) < (s.size : Int) := by omega
      have hnl : n < l.length := by have := HLS.out; omega
      have hg := HGT.out n hlt hnl
      obtain ⟨c, hc⟩ : ∃ c, l[n] = c := ⟨_, rfl⟩
      rw [hc] at hg
      have HC := Lib.hid hc
      clear hc
      by_cases hw : whiteB c = true
      · have HN := Lib.hid (bl_white l a n HST.out hnl (by rw [HC.out]; exact hw))
        have hcs : c = 9 ∨ c = 10 ∨ c = 13 ∨ c = 32 := by
          unfold whiteB at hw
          simpa [or_assoc] using hw
        clear hw
        rcases hcs with rfl | rfl | rfl | rfl
        all_goals
          go_wp2_with fail
          go_round
          case rel => exact ⟨n + 1, by go_num, by omega, HN.out⟩
          case measure => simp [intOf]; omega
      · have hwf : whiteB c = false := by simpa using hw
        have h9 : ((c.toNat : Int) == 9) = false := rbyte_ne c 9 (by rintro rfl; exact hw rfl)
        have h10 : ((c.toNat : Int) == 10) = false := rbyte_ne c 10 (by rintro rfl; exact hw rfl)
        have h13 : ((c.toNat : Int) == 13) = false := rbyte_ne c 13 (by rintro rfl; exact hw rfl)
        have h32 : ((c.toNat : Int) == 32) = false := rbyte_ne c 32 (by rintro rfl; exact hw rfl)
        clear hw
        by_cases hn1 : n + 1 < s.size
        · have hn1i : (n : Int) + 1 < (s.size : Int) := by omega
          have hn2i : (n : Int) + 2 ≤ (s.size : Int) := by omega
          have hex : s.extract n (n + 2) = S [c, l[n + 1]'(by have := HLS.out; omega)] := by
            rw [S_extract, HL.out, rdrop_cons l n hnl, rdrop_cons l (n + 1) (by have := HLS.out; omega), HC.out, show n + 2 - n = 2 by omega]
            rfl
          obtain ⟨d, hd⟩ : ∃ d, l[n + 1]'(by have := HLS.out; omega) = d := ⟨_, rfl⟩
          rw [hd] at hex
          have HD := Lib.hid hd
          clear hd
          by_cases hcm : c = 47 ∧ d = 47
          · have HO := Lib.hid (bl_open l a n HST.out (by have := HLS.out; omega) (by rw [HC.out]; exact hcm.1) (by rw [HD.out]; exact hcm.2))
            obtain ⟨rfl, rfl⟩ := hcm
            have heq : ((s.extract n (n + 2)).toList == ([47, 47] : List UInt8)) = true := by rw [hex, ByteArray.toList_eq, S_toList]; rfl
            clear hex
            go_wp2_with fail
            go_loop [5] (fun v => ∃ m : Nat, v = .int .i64 m ∧ n ≤ m ∧ m ≤ s.size ∧ BlSt l a true m) (fun v => s.size - (intOf v).toNat)
            case atStart => exact ⟨n, rfl, Nat.le_refl _, hn, HO.out⟩
            case round =>
              obtain ⟨m, rfl, hm1, hm2, hsm⟩ := hrel
              have HSM := Lib.hid hsm
              clear hsm
              by_cases hlt2 : m < s.size
              · have hmi : (m : Int) < (s.size : Int) := by omega
                have hml : m < l.length := by have := HLS.out; omega
                have hg2 := HGT.out m hlt2 hml
                obtain ⟨c2, hc2⟩ : ∃ c2, l[m] = c2 := ⟨_, rfl⟩
                rw [hc2] at hg2
                have HC2 := Lib.hid hc2
                clear hc2
                by_cases h10c : c2 = 10
                · subst h10c
                  have HN := Lib.hid (bl_close l a m HSM.out (.inr ⟨hml, HC2.out⟩))
                  have hmn : m ≠ n := by
                    rintro rfl
                    have := HC.out.symm.trans HC2.out
                    exact absurd this (by decide)
                  go_wp2_with fail
                  go_round
                  case rel => exact ⟨m, rfl, by omega, HN.out⟩
                  case measure => simp [intOf]; omega
                · have h10b : ((c2.toNat : Int) == 10) = false := rbyte_ne c2 10 h10c
                  have h10n : ((c2.toNat : Int) != 10) = true := by simp only [bne, h10b, Bool.not_false]
                  have HN := Lib.hid (bl_in l a m HSM.out hml (by rw [HC2.out]; exact h10c))
                  clear h10c
                  go_wp2_with fail
                  go_round
                  case rel => exact ⟨m + 1, by go_num, by omega, by omega, HN.out⟩
                  case measure => simp [intOf]; omega
              · obtain rfl : m = s.size := by omega
                have HN := Lib.hid (bl_close l a s.size HSM.out (.inl (by have := HLS.out; omega)))
                go_wp2_with fail
                go_round
                case rel => exact ⟨s.size, rfl, by omega, HN.out⟩
                case measure => simp [intOf]; omega
          · have HR := Lib.hid (bl_end l a n HST.out (.inr ⟨hnl, by rw [HC.out]; exact hwf, by
              rw [HC.out, List.getElem?_eq_getElem (show n + 1 < l.length by have := HLS.out; omega), HD.out]
              simpa using hcm⟩))
            have heq : ((s.extract n (n + 2)).toList == ([47, 47] : List UInt8)) = false := by
              rw [hex, ByteArray.toList_eq, S_toList, beq_eq_false_iff_ne]
              intro e
              exact hcm ⟨(List.cons.inj e).1, (List.cons.inj (List.cons.inj e).2).1⟩
            have hai : (a : Int) ≤ (n : Int) := by have := HST.out.le; omega
            clear hex hcm
            go_wp2_with fail
            go_ret
            exact ⟨ret_int HR.out, rfl⟩
        · have hn1i : ¬ (n : Int) + 1 < (s.size : Int) := by omega
          have HR := Lib.hid (bl_end l a n HST.out (.inr ⟨hnl, by rw [HC.out]; exact hwf, by
            rw [List.getElem?_eq_none (show l.length ≤ n + 1 by have := HLS.out; omega)]
            simp⟩))
          have hai : (a : Int) ≤ (n : Int) := by have := HST.out.le; omega
          go_wp2_with fail
          go_ret
          exact ⟨ret_int HR.out, rfl⟩
    · obtain rfl : n = s.size := by omega
      have HR := Lib.hid (bl_end l a s.size HST.out (.inl (by have := HLS.out; omega)))
      have hai : (a : Int) ≤ (s.size : Int) := by omega
      go_wp2_with fail
      go_ret
      exact ⟨ret_int HR.out, rfl⟩
end Go.Proofs.YtlmmfhbdebfgkaaGreatDoor.Lx
namespace Go.Proofs.YtlmmfhbdebfgkaaGreatDoor.Lx
open Go.RowKit
open Va
def endQ : List UInt8 → Option Nat
  | [] => none
  | [c] => if c = 92 then none else if c = 34 then some 1 else none
  | c :: d :: r => if c = 92 then (endQ r).map (· + 2) else if c = 34 then some 1 else (endQ (d :: r)).map (· + 1)
theorem endQ_esc (d : UInt8) (r : List UInt8) : endQ (92 :: d :: r) = (endQ r).map (· + 2) := by simp [endQ]
theorem endQ_quo (r : List UInt8) : endQ (34 :: r) = some 1 := by cases r <;> simp [endQ]
theorem endQ_one (c : UInt8) (r : List UInt8) (h1 : c ≠ 92) (h2 : c ≠ 34) : endQ (c :: r) = (endQ r).map (· + 1) := by
  cases r with
  | nil => simp [endQ, h1, h2]
  | cons d r => simp [endQ, h1, h2]
theorem endQ_esc1 (c : UInt8) (q : List UInt8) : endQ (esc c ++ q) = (endQ q).map (· + (esc c).length) := by
  unfold esc
  by_cases h1 : (c < 32 || 126 < c) = true
  · rw [if_pos h1]
    have hh : ∀ n, n < 16 → hexC n ≠ 92 ∧ hexC n ≠ 34 := by decide
    obtain ⟨a1, a2⟩ := hh (c.toNat / 16) (by have := c.toNat_lt; omega)
    obtain ⟨b1, b2⟩ := hh (c.toNat % 16) (by omega)
    show endQ (92 :: 120 :: hexC (c.toNat / 16) :: hexC (c.toNat % 16) :: q) = _
    rw [endQ_esc, endQ_one _ _ a1 a2, endQ_one _ _ b1 b2]
    cases endQ q <;> simp
  · rw [if_neg h1]
    by_cases h2 : (c == 34 || c == 92) = true
    · rw [if_pos h2]
      show endQ (92 :: c :: q) = _
      rw [endQ_esc]
      rfl
    · rw [if_neg h2]
      simp only [Bool.or_eq_true, beq_iff_eq, not_or] at h2
      show endQ (c :: q) = _
      rw [endQ_one _ _ h2.2 h2.1]
      rfl
theorem endQ_text (t q : List UInt8) : endQ (escT t ++ 34 :: q) = some ((escT t).length + 1) := by
  induction t with
  | nil => exact endQ_quo q
  | cons c t ih =>
    rw [escT_cons, List.append_assoc, endQ_esc1, ih]
    simp; omega
structure QeSt (l : List UInt8) (a i : Nat) : Prop where
  eq : endQ (l.drop (a + 1)) = (endQ (l.drop i)).map (· + (i - (a + 1)))
  le : a + 1 ≤ i
theorem qe_esc (l : List UInt8) (a i : Nat) (h : QeSt l a i) (hi : i < l.length) (hc : l[i] = 92) : QeSt l a (i + 2) := by
  have he := h.eq
  have hl := h.le
  refine ⟨?_, by omega⟩
  rw [he]
  by_cases h1 : i + 1 < l.length
  · rw [rdrop_cons l i hi, rdrop_cons l (i + 1) h1, hc, endQ_esc]
    cases endQ (l.drop (i + 1 + 1)) with
    | none => rfl
    | some k => simp; omega
  · have hd : l.drop i = [92] := by rw [rdrop_cons l i hi, hc, List.drop_eq_nil_of_le (by omega)]
    rw [hd, List.drop_eq_nil_of_le (show l.length ≤ i + 2 by omega)]
    rfl
theorem qe_one (l : List UInt8) (a i : Nat) (h : QeSt l a i) (hi : i < l.length) (h1 : l[i] ≠ 92) (h2 : l[i] ≠ 34) : QeSt l a (i + 1) := by
  have he := h.eq
  have hl := h.le
  refine ⟨?_, by omega⟩
  rw [he, rdrop_cons l i hi, endQ_one _ _ h1 h2]
  cases endQ (l.drop (i + 1)) with
  | none => rfl
  | some k => simp; omega
def qlen (o : Option Nat) : Nat := match o with
  | some k => k + 1
  | none => 0
theorem qe_quo (l : List UInt8) (a i : Nat) (h : QeSt l a i) (hi : i < l.length) (hc : l[i] = 34) : ((i : Int) + 1 - (a : Int)) = (qlen (endQ (l.drop (a + 1))) : Int) := by
  have hl := h.le
  rw [h.eq, rdrop_cons l i hi, hc, endQ_quo]
  show _ = (((1 + (i - (a + 1))) + 1 : Nat) : Int)
  omega
theorem qe_end (l : List UInt8) (a i : Nat) (h : QeSt l a i) (hi : l.length ≤ i) : qlen (endQ (l.drop (a + 1))) = 0 := by
  rw [h.eq, List.drop_eq_nil_of_le hi]
  rfl
theorem refQuoted_any (s : ByteArray) (a : Nat) (ha : a < s.size) (hs : s.size ≤ 100000) (w : World) :
    Calls Tryz.prog 135 #[.string s, .int .i64 (a : Int)] w fun e w' => e = .returned (.int .i64 (qlen (endQ (s.data.toList.drop (a + 1))) : Int)) ∧ w = w' := by
  have hls := list_size s
  obtain ⟨l, hl⟩ : ∃ l, s.data.toList = l := ⟨_, rfl⟩
  rw [hl] at hls ⊢
  have HLS := Lib.hid hls
  have hsi : (s.size : Int) ≤ 100000 := by omega
  have HE0 := Lib.hid (show QeSt l a (a + 1) from ⟨by
    rw [Nat.sub_self]
    cases endQ (l.drop (a + 1)) <;> rfl, Nat.le_refl _⟩)
  have HGT := Lib.hid (fun (k : Nat) (hk : k < s.size) (hk2 : k < l.length) => rget s l hl k hk hk2)
  clear hl hls
  go_enter Tryz.func135, Tryz.ntmps135
  go_wp2_with fail
  go_loop [5] (fun v => ∃ n : Nat, v = .int .i64 n ∧ n ≤ s.size + 1 ∧ QeSt l a n) (fun v => s.size + 1 - (intOf v).toNat)
  case atStart => exact ⟨a + 1, by go_num, by omega, HE0.out⟩
  case round =>
    obtain ⟨n, rfl, hn, hst⟩ := hrel
    have HST := Lib.hid hst
    clear hst
    by_cases hlt : n < s.size
    · have hni : (n : Int) < (s.size : Int) := by omega
      have hnl : n < l.length := by have := HLS.out; omega
      have hg := HGT.out n hlt hnl
      obtain ⟨c, hc⟩ : ∃ c, l[n] = c := ⟨_, rfl⟩
      rw [hc] at hg
      have HC := Lib.hid hc
      have hai : (a : Int) ≤ (n : Int) := by have := HST.out.le; omega
      clear hc
      by_cases h92 : c = 92
      · subst h92
        have HN := Lib.hid (qe_esc l a n HST.out hnl HC.out)
        go_wp2_with fail
        go_round
        case rel => exact ⟨n + 2, by go_num, by omega, HN.out⟩
        case measure => simp [intOf]; omega
      · have b92 : ((c.toNat : Int) == 92) = false := rbyte_ne c 92 h92
        by_cases h34 : c = 34
        · subst h34
          have HR := Lib.hid (qe_quo l a n HST.out hnl HC.out)
          go_wp2_with fail
          go_ret
          exact ⟨ret_int HR.out, rfl⟩
        · have b34 : ((c.toNat : Int) == 34) = false := rbyte_ne c 34 h34
          have HN := Lib.hid (qe_one l a n HST.out hnl (by rw [HC.out]; exact h92) (by rw [HC.out]; exact h34))
          clear h92 h34
          go_wp2_with fail
          go_round
          case rel => exact ⟨n + 1, by go_num, by omega, HN.out⟩
          case measure => simp [intOf]; omega
    · have hni : ¬ (n : Int) < (s.size : Int) := by omega
      have HR := Lib.hid (qe_end l a n HST.out (by have := HLS.out; omega))
      go_wp2_with fail
      go_ret
      exact ⟨by rw [HR.out]; rfl, rfl⟩
end Go.Proofs.YtlmmfhbdebfgkaaGreatDoor.Lx
