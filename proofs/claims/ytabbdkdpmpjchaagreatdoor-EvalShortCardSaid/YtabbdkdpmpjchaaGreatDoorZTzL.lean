/-
  Several texts in one: LxTok, LxScan, LxTake, LxBack, LxCuts, LxQuo, LxHex, LxScanP, LxAts.
-/
import Derived.Test.YtabbdkdpmpjchaaGreatDoorZTzA
namespace Go.Proofs.YtabbdkdpmpjchaaGreatDoor.Lx
open Va
theorem white_not (c : UInt8) (h : whiteB c = true) : wordB c = false ∧ digB c = false := by
  have : ∀ i : Fin 256, whiteB (UInt8.ofNat i.val) = true → wordB (UInt8.ofNat i.val) = false ∧ digB (UInt8.ofNat i.val) = false := by decide +kernel
  have h1 := this ⟨c.toNat, c.toNat_lt⟩
  simp only [UInt8.ofNat_toNat] at h1
  exact h1 h
theorem signs_short : ∀ s ∈ signs, s.length ≤ 2 ∧ 1 ≤ s.length ∧ ∀ b, s[1]? = some b → whiteB b = false := by
  have : signs.all (fun s => decide (s.length ≤ 2) && decide (1 ≤ s.length) && (match s[1]? with | none => true | some b => !whiteB b)) = true := by decide
  intro s hs
  have h := List.all_eq_true.1 this s hs
  simp only [Bool.and_eq_true, decide_eq_true_eq] at h
  refine ⟨h.1.1, h.1.2, fun b hb => ?_⟩
  have h2 := h.2
  rw [hb] at h2
  simpa using h2
def Dlm (q : List UInt8) : Prop := ∀ c, q.head? = some c → whiteB c = true
theorem Dlm.word {q : List UInt8} (h : Dlm q) : ∀ c, q.head? = some c → wordB c = false := fun c hc => (white_not c (h c hc)).1
theorem takeWhile_le (p : UInt8 → Bool) (l : List UInt8) : (l.takeWhile p).length ≤ l.length := by
  induction l with
  | nil => simp
  | cons c r ih => simp only [List.takeWhile_cons]; split <;> simp; omega
theorem tokM_cons (c : UInt8) (r : List UInt8) : tokM (c :: r) =
    if c = 39 then (if nameB (r.takeWhile wordB) = true then some ⟨4, r.takeWhile wordB, 0, (r.takeWhile wordB).length + 1⟩ else none)
    else if letB c = true then (if nameB ((c :: r).takeWhile wordB) = true then some ⟨1, (c :: r).takeWhile wordB, 0, ((c :: r).takeWhile wordB).length⟩ else none)
    else if digB c = true then (if digsOk ((c :: r).takeWhile digB) = true then some ⟨2, (c :: r).takeWhile digB, undig ((c :: r).takeWhile digB), ((c :: r).takeWhile digB).length⟩ else none)
    else if c = 34 then (match quo (r.length + 1) r with
      | none => none
      | some (t, n) => if t.length ≤ 64 then some ⟨3, t, 0, n + 1⟩ else none)
    else match signs.find? (fun s => s.isPrefixOf (c :: r)) with
      | none => none
      | some s => some ⟨5, s, 0, s.length⟩ := rfl
end Go.Proofs.YtabbdkdpmpjchaaGreatDoor.Lx

namespace Go.Proofs.YtabbdkdpmpjchaaGreatDoor.Lx
open Va
theorem quo_len : ∀ f l t n, quo f l = some (t, n) → 1 ≤ n ∧ n ≤ l.length
  | 0, l, t, n, h => by simp [quo] at h
  | f + 1, l, t, n, h => by
    unfold quo at h
    by_cases h34 : l.head? = some 34
    · rw [if_pos h34] at h
      simp only [Option.some.injEq, Prod.mk.injEq] at h
      cases l with
      | nil => simp at h34
      | cons c r => simp; omega
    · rw [if_neg h34] at h
      cases hu : unesc l with
      | none => rw [hu] at h; cases h
      | some cr =>
        obtain ⟨c, r⟩ := cr
        rw [hu] at h
        simp only at h
        by_cases he : esc c ++ r = l
        · rw [if_pos he] at h
          cases hq : quo f r with
          | none => rw [hq] at h; cases h
          | some tn =>
            obtain ⟨t', n'⟩ := tn
            rw [hq] at h
            simp only [Option.some.injEq, Prod.mk.injEq] at h
            have := quo_len f r t' n' hq
            have h2 := congrArg List.length he
            rw [List.length_append] at h2
            omega
        · rw [if_neg he] at h; cases h
theorem tok_len (l : List UInt8) (x : Tok) (h : tokM l = some x) : 1 ≤ x.len ∧ x.len ≤ l.length := by
  cases l with
  | nil => simp [tokM] at h
  | cons c r =>
    rw [tokM_cons] at h
    by_cases h39 : c = 39
    · rw [if_pos h39] at h
      split at h
      · rw [← Option.some.inj h]
        have := takeWhile_le wordB r
        simp; omega
      · cases h
    · rw [if_neg h39] at h
      by_cases hl : letB c = true
      · rw [if_pos hl] at h
        split at h
        · rename_i hn
          rw [← Option.some.inj h]
          have := takeWhile_le wordB (c :: r)
          have h0 := (nameB_ne hn).1
          exact ⟨List.length_pos_iff.2 h0, this⟩
        · cases h
      · rw [if_neg hl] at h
        by_cases hd : digB c = true
        · rw [if_pos hd] at h
          split at h
          · rw [← Option.some.inj h]
            have := takeWhile_le digB (c :: r)
            refine ⟨?_, this⟩
            simp only [List.takeWhile_cons, if_pos hd]; simp
          · cases h
        · rw [if_neg hd] at h
          by_cases h34 : c = 34
          · rw [if_pos h34] at h
            cases hu : quo (r.length + 1) r with
            | none => rw [hu] at h; cases h
            | some tn =>
              obtain ⟨t, n⟩ := tn
              rw [hu] at h
              simp only at h
              have := quo_len _ r t n hu
              split at h
              · rw [← Option.some.inj h]; simp; omega
              · cases h
          · rw [if_neg h34] at h
            cases hf : signs.find? (fun s => s.isPrefixOf (c :: r)) with
            | none => rw [hf] at h; cases h
            | some s =>
              rw [hf] at h
              rw [← Option.some.inj h]
              have h1 := signs_short s (List.mem_of_find?_eq_some hf)
              have h2 := List.find?_some hf
              have h3 := (List.isPrefixOf_iff_prefix.1 h2).length_le
              exact ⟨h1.2.1, h3⟩
theorem scan_step (f : Nat) (l : List UInt8) (a : Nat) : scanF (f + 1) l a =
    match l.drop (blk false l) with
    | [] => ([⟨0, [], 0, a + blk false l⟩], none)
    | m@(_ :: _) => match tokM m with
      | none => ([], some (a + blk false l))
      | some t => (⟨t.kind, t.text, t.num, a + blk false l⟩ :: (scanF f (m.drop t.len) (a + blk false l + t.len)).1, (scanF f (m.drop t.len) (a + blk false l + t.len)).2) := rfl
theorem scan_fuel : ∀ f g l a, l.length < f → l.length < g → scanF f l a = scanF g l a
  | 0, _, l, _, h, _ => by omega
  | _, 0, l, _, _, h => by omega
  | f + 1, g + 1, l, a, hf, hg => by
    rw [scan_step, scan_step]
    cases hm : l.drop (blk false l) with
    | nil => rfl
    | cons c r =>
      simp only
      cases ht : tokM (c :: r) with
      | none => rfl
      | some t =>
        simp only
        have h1 := tok_len _ t ht
        have h2 := congrArg List.length hm
        rw [List.length_drop] at h2
        have h3 : ((c :: r).drop t.len).length < f := by rw [List.length_drop]; omega
        have h4 : ((c :: r).drop t.len).length < g := by rw [List.length_drop]; omega
        rw [scan_fuel f g _ _ h3 h4]
def scanM (l : List UInt8) (a : Nat) : List TA × Option Nat := scanF (l.length + 1) l a
theorem scanM_eq (l : List UInt8) (a : Nat) : scanM l a =
    match l.drop (blk false l) with
    | [] => ([⟨0, [], 0, a + blk false l⟩], none)
    | m@(_ :: _) => match tokM m with
      | none => ([], some (a + blk false l))
      | some t => (⟨t.kind, t.text, t.num, a + blk false l⟩ :: (scanM (m.drop t.len) (a + blk false l + t.len)).1, (scanM (m.drop t.len) (a + blk false l + t.len)).2) := by
  unfold scanM
  rw [scan_step]
  cases hm : l.drop (blk false l) with
  | nil => rfl
  | cons c r =>
    simp only
    cases ht : tokM (c :: r) with
    | none => rfl
    | some t =>
      simp only
      have h1 := tok_len _ t ht
      have h2 := congrArg List.length hm
      rw [List.length_drop] at h2
      rw [scan_fuel l.length (((c :: r).drop t.len).length + 1) _ _ (by rw [List.length_drop]; omega) (by omega)]
end Go.Proofs.YtabbdkdpmpjchaaGreatDoor.Lx

namespace Go.Proofs.YtabbdkdpmpjchaaGreatDoor.Lx
open Va
theorem esc_ne (c : UInt8) : esc c ≠ [] := by
  intro h
  have h1 := unesc_esc c []
  rw [h] at h1
  simp [unesc] at h1
end Go.Proofs.YtabbdkdpmpjchaaGreatDoor.Lx

namespace Go.Proofs.YtabbdkdpmpjchaaGreatDoor.Lx
open Va
theorem quo_text : ∀ f l t n, quo f l = some (t, n) → l.take n = escT t ++ [34]
  | 0, l, t, n, h => by simp [quo] at h
  | f + 1, l, t, n, h => by
    unfold quo at h
    by_cases h34 : l.head? = some 34
    · rw [if_pos h34] at h
      have e : (([] : List UInt8), 1) = (t, n) := Option.some.inj h
      rw [← (Prod.mk.inj e).1, ← (Prod.mk.inj e).2]
      cases l with
      | nil => simp at h34
      | cons c r =>
        have : c = 34 := by simpa using h34
        rw [this]; rfl
    · rw [if_neg h34] at h
      cases hu : unesc l with
      | none => rw [hu] at h; cases h
      | some cr =>
        obtain ⟨c, r⟩ := cr
        rw [hu] at h
        simp only at h
        by_cases he : esc c ++ r = l
        · rw [if_pos he] at h
          cases hq : quo f r with
          | none => rw [hq] at h; cases h
          | some tn =>
            obtain ⟨t', n'⟩ := tn
            rw [hq] at h
            simp only [Option.some.injEq, Prod.mk.injEq] at h
            have ih := quo_text f r t' n' hq
            have e : escT t = esc c ++ escT t' := by rw [← h.1]; rfl
            rw [← he, ← h.2, List.take_append, List.take_of_length_le (by omega), Nat.add_sub_cancel_left, ih, e, List.append_assoc]
        · rw [if_neg he] at h; cases h
theorem mem_takeWhile (p : UInt8 → Bool) (l : List UInt8) : ∀ c ∈ l.takeWhile p, p c = true := by
  induction l with
  | nil => simp
  | cons a r ih =>
    intro c hc
    rw [List.takeWhile_cons] at hc
    split at hc
    · rename_i ha
      rcases List.mem_cons.1 hc with rfl | hc
      · exact ha
      · exact ih c hc
    · simp at hc
end Go.Proofs.YtabbdkdpmpjchaaGreatDoor.Lx

namespace Go.Proofs.YtabbdkdpmpjchaaGreatDoor.Lx
open Va
end Go.Proofs.YtabbdkdpmpjchaaGreatDoor.Lx

namespace Go.Proofs.YtabbdkdpmpjchaaGreatDoor.Lx
open Va
theorem esc_head (c : UInt8) : ∃ x r, esc c = x :: r ∧ x ≠ 34 := by
  unfold esc
  by_cases h1 : (c < 32 || 126 < c) = true
  · rw [if_pos h1]; exact ⟨92, _, rfl, by decide⟩
  · rw [if_neg h1]
    by_cases h2 : (c == 34 || c == 92) = true
    · rw [if_pos h2]; exact ⟨92, _, rfl, by decide⟩
    · rw [if_neg h2]
      simp only [Bool.or_eq_true, beq_iff_eq, not_or] at h2
      exact ⟨c, [], rfl, h2.1⟩
theorem escT_cons (c : UInt8) (t : List UInt8) : escT (c :: t) = esc c ++ escT t := rfl
theorem escT_append (t s : List UInt8) : escT (t ++ s) = escT t ++ escT s := by unfold escT; rw [List.flatMap_append]
theorem esc_len1 (c : UInt8) : 1 ≤ (esc c).length := by
  have := esc_ne c
  cases h : esc c with
  | nil => exact absurd h this
  | cons => simp
theorem escT_ge (t : List UInt8) : t.length ≤ (escT t).length := by
  induction t with
  | nil => simp
  | cons c t ih => rw [escT_cons, List.length_append, List.length_cons]; have := esc_len1 c; omega
theorem quo_of : ∀ (t q : List UInt8) (f : Nat), t.length < f → quo f (escT t ++ 34 :: q) = some (t, (escT t).length + 1)
  | [], q, f, h => by
    obtain ⟨f, rfl⟩ : ∃ n, f = n + 1 := ⟨f - 1, by omega⟩
    show (if _ then _ else _) = _
    rw [if_pos (by simp [escT])]
    rfl
  | c :: t, q, f, h => by
    obtain ⟨f, rfl⟩ : ∃ n, f = n + 1 := ⟨f - 1, by omega⟩
    have ih := quo_of t q f (by simp at h; omega)
    rw [escT_cons, List.append_assoc]
    unfold quo
    have h34 : (esc c ++ (escT t ++ 34 :: q)).head? ≠ some 34 := by
      obtain ⟨x, r, e, hx⟩ := esc_head c
      rw [e]; simpa using hx
    rw [if_neg h34, unesc_esc]
    simp only
    rw [if_pos trivial, ih]
    simp only [Option.some.injEq, Prod.mk.injEq, true_and, List.length_append]
    omega
end Go.Proofs.YtabbdkdpmpjchaaGreatDoor.Lx

namespace Go.Proofs.YtabbdkdpmpjchaaGreatDoor.Lx
open Va
def low (c : UInt8) : UInt8 := c ||| 32
def hexD (c : UInt8) : Option Nat :=
  if 48 ≤ c.toNat ∧ c.toNat ≤ 57 then some (c.toNat - 48)
  else if 97 ≤ (low c).toNat ∧ (low c).toNat ≤ 102 then some ((low c).toNat - 87)
  else none
def hexP (a b : UInt8) : Option Nat := match hexD a, hexD b with
  | some x, some y => some (16 * x + y)
  | _, _ => none
theorem hexP_esc (c : UInt8) : hexP (hexC (c.toNat / 16)) (hexC (c.toNat % 16)) = some c.toNat := by
  have : ∀ i : Fin 256, hexP (hexC (i.val / 16)) (hexC (i.val % 16)) = some i.val := by decide +kernel
  exact this ⟨c.toNat, c.toNat_lt⟩
def unescM : List UInt8 → UInt8 × Nat
  | [] => (0, 1)
  | [c] => (c, 1)
  | c :: d :: r => if c = 92 then (if d = 120 then (match r with
      | a :: b :: _ => (match hexP a b with
        | some n => (UInt8.ofNat n, 4)
        | none => (d, 2))
      | _ => (d, 2)) else (d, 2)) else (c, 1)
theorem unescM_plain (c : UInt8) (r : List UInt8) (h : c ≠ 92) : unescM (c :: r) = (c, 1) := by
  cases r with
  | nil => rfl
  | cons d r => show (if c = 92 then _ else _) = _; rw [if_neg h]
theorem unescM_two (d : UInt8) (r : List UInt8) (h : d ≠ 120) : unescM (92 :: d :: r) = (d, 2) := by
  simp [unescM, h]
theorem unescM_hex (a b : UInt8) (r : List UInt8) (n : Nat) (h : hexP a b = some n) : unescM (92 :: 120 :: a :: b :: r) = (UInt8.ofNat n, 4) := by
  have e : unescM (92 :: 120 :: a :: b :: r) = match hexP a b with
    | some n => (UInt8.ofNat n, 4)
    | none => (120, 2) := rfl
  rw [e, h]
theorem unescM_esc (c : UInt8) (s : List UInt8) : unescM (esc c ++ s) = (c, (esc c).length) := by
  unfold esc
  by_cases h1 : (c < 32 || 126 < c) = true
  · rw [if_pos h1]
    have := unescM_hex (hexC (c.toNat / 16)) (hexC (c.toNat % 16)) s c.toNat (hexP_esc c)
    rw [UInt8.ofNat_toNat] at this
    exact this
  · rw [if_neg h1]
    by_cases h2 : (c == 34 || c == 92) = true
    · rw [if_pos h2]
      exact unescM_two c s (by intro e; subst e; simp at h2)
    · rw [if_neg h2]
      exact unescM_plain c s (by intro e; subst e; simp at h2)
end Go.Proofs.YtabbdkdpmpjchaaGreatDoor.Lx

namespace Go.Proofs.YtabbdkdpmpjchaaGreatDoor.Lx
open Va
structure ScanSt (l : List UInt8) (ts : List TA) (m : Nat) : Prop where
  ex : ∃ p, m = p + blk false (l.drop p) ∧ scanM l 0 = (ts ++ (scanM (l.drop p) p).1, (scanM (l.drop p) p).2)
theorem scan_start (l : List UInt8) : ScanSt l [] (blk false l) := ⟨0, by simp, by simp⟩
theorem scan_bad (l : List UInt8) (ts : List TA) (m : Nat) (h : ScanSt l ts m) (hlt : m < l.length) (ht : tokM (l.drop m) = none) : scanM l 0 = (ts, some m) := by
  obtain ⟨p, hm, hs⟩ := h.ex
  rw [hs, scanM_eq, List.drop_drop, ← hm]
  cases hd : l.drop m with
  | nil => have := congrArg List.length hd; rw [List.length_drop] at this; simp at this; omega
  | cons c r =>
    rw [hd] at ht
    simp only [ht, List.append_nil]
theorem scan_next (l : List UInt8) (ts : List TA) (m : Nat) (h : ScanSt l ts m) (hlt : m < l.length) (t : Tok) (ht : tokM (l.drop m) = some t) :
    ScanSt l (ts ++ [⟨t.kind, t.text, t.num, m⟩]) (m + t.len + blk false (l.drop (m + t.len))) := by
  obtain ⟨p, hm, hs⟩ := h.ex
  refine ⟨m + t.len, rfl, ?_⟩
  rw [hs, scanM_eq, List.drop_drop, ← hm]
  cases hd : l.drop m with
  | nil => have := congrArg List.length hd; rw [List.length_drop] at this; simp at this; omega
  | cons c r =>
    rw [hd] at ht
    simp only [ht]
    rw [← hd, List.drop_drop, List.append_assoc]
    rfl
theorem scan_end (l : List UInt8) (ts : List TA) (m : Nat) (h : ScanSt l ts m) (hge : l.length ≤ m) : scanM l 0 = (ts ++ [⟨0, [], 0, m⟩], none) := by
  obtain ⟨p, hm, hs⟩ := h.ex
  rw [hs, scanM_eq, List.drop_drop, ← hm, List.drop_eq_nil_of_le hge]
theorem tok_fits (l : List UInt8) (m : Nat) (t : Tok) (ht : tokM (l.drop m) = some t) (hlt : m < l.length) : 1 ≤ t.len ∧ m + t.len ≤ l.length := by
  have h := tok_len _ t ht
  rw [List.length_drop] at h
  omega
end Go.Proofs.YtabbdkdpmpjchaaGreatDoor.Lx

namespace Go.Proofs.YtabbdkdpmpjchaaGreatDoor.Lx
open Va
theorem scan_at : ∀ (n : Nat) (l : List UInt8) (a : Nat), l.length ≤ n → (∀ t ∈ (scanM l a).1, t.at_ ≤ a + l.length) ∧ (scanM l a).1.length ≤ l.length + 1 := by
  intro n
  induction n with
  | zero =>
    intro l a hl
    have e : l = [] := List.eq_nil_of_length_eq_zero (by omega)
    subst e
    have : scanM [] a = ([⟨0, [], 0, a⟩], none) := rfl
    rw [this]
    exact ⟨fun t ht => by simp at ht; subst ht; simp, by simp⟩
  | succ n ih =>
    intro l a hl
    have hb := blk_le false l
    rw [scanM_eq]
    cases hm : l.drop (blk false l) with
    | nil => exact ⟨fun t ht => by simp at ht; subst ht; simp; omega, by simp⟩
    | cons c r =>
      simp only
      have hlen := congrArg List.length hm
      rw [List.length_drop] at hlen
      cases ht : tokM (c :: r) with
      | none => exact ⟨fun t ht => by simp at ht, by simp⟩
      | some t =>
        simp only
        have h1 := tok_len _ t ht
        have hd : ((c :: r).drop t.len).length = (c :: r).length - t.len := List.length_drop
        obtain ⟨i1, i2⟩ := ih ((c :: r).drop t.len) (a + blk false l + t.len) (by omega)
        rw [hd] at i1 i2
        refine ⟨fun u hu => ?_, ?_⟩
        · rcases List.mem_cons.1 hu with rfl | hu
          · simp only; omega
          · have := i1 u hu; omega
        · rw [List.length_cons]; omega
end Go.Proofs.YtabbdkdpmpjchaaGreatDoor.Lx
