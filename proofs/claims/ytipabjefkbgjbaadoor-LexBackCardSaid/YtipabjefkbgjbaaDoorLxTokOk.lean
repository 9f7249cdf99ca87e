/-
  What holds of every token that is scanned; the joined text; plain mathematics.
-/
import Derived.Test.YtipabjefkbgjbaaDoorLxAts
import Derived.Test.YtipabjefkbgjbaaDoorLxBack
import Derived.Lib.Join
namespace Go.Proofs.YtipabjefkbgjbaaDoor.Lx
open Va

structure TokOk (t : TA) : Prop where
  num : t.kind = 2 → 0 ≤ t.num ∧ t.num ≤ 9223372036854775807
  text : t.kind = 3 → t.text.length ≤ 64
  sym : t.kind = 4 → nameB t.text = true
  spell : (spellM t.kind t.text t.num).length ≤ 8000
theorem tok_ok (l : List UInt8) (x : Tok) (h : tokM l = some x) (hl : l.length ≤ 8000) (a : Nat) : TokOk ⟨x.kind, x.text, x.num, a⟩ := by
  have hsp : (spellM x.kind x.text x.num).length ≤ 8000 := by
    rw [spell_take l x h, List.length_take]; omega
  cases l with
  | nil => simp [tokM] at h
  | cons c r =>
    rw [tokM_cons] at h
    by_cases h39 : c = 39
    · rw [if_pos h39] at h
      by_cases hn : nameB (r.takeWhile wordB) = true
      · rw [if_pos hn] at h
        obtain rfl := Option.some.inj h
        exact ⟨fun e => by simp at e, fun e => by simp at e, fun _ => hn, hsp⟩
      · rw [if_neg hn] at h; cases h
    · rw [if_neg h39] at h
      by_cases hb : letB c = true
      · rw [if_pos hb] at h
        by_cases hn : nameB ((c :: r).takeWhile wordB) = true
        · rw [if_pos hn] at h
          obtain rfl := Option.some.inj h
          exact ⟨fun e => by simp at e, fun e => by simp at e, fun e => by simp at e, hsp⟩
        · rw [if_neg hn] at h; cases h
      · rw [if_neg hb] at h
        by_cases hd : digB c = true
        · rw [if_pos hd] at h
          by_cases hn : digsOk ((c :: r).takeWhile digB) = true
          · rw [if_pos hn] at h
            obtain rfl := Option.some.inj h
            have hu : undig ((c :: r).takeWhile digB) ≤ 9223372036854775807 := by
              unfold digsOk at hn
              simp only [Bool.and_eq_true, decide_eq_true_eq] at hn
              exact hn.2
            exact ⟨fun _ => ⟨by simp only; omega, by simp only; omega⟩, fun e => by simp at e, fun e => by simp at e, hsp⟩
          · rw [if_neg hn] at h; cases h
        · rw [if_neg hd] at h
          by_cases h34 : c = 34
          · rw [if_pos h34] at h
            cases hq : quo (r.length + 1) r with
            | none => rw [hq] at h; cases h
            | some tn =>
              obtain ⟨t, n⟩ := tn
              rw [hq] at h
              simp only at h
              by_cases ht : t.length ≤ 64
              · rw [if_pos ht] at h
                obtain rfl := Option.some.inj h
                exact ⟨fun e => by simp at e, fun _ => ht, fun e => by simp at e, hsp⟩
              · rw [if_neg ht] at h; cases h
          · rw [if_neg h34] at h
            cases hf : signs.find? (fun s => s.isPrefixOf (c :: r)) with
            | none => rw [hf] at h; cases h
            | some s =>
              rw [hf] at h
              obtain rfl := Option.some.inj h
              exact ⟨fun e => by simp at e, fun e => by simp at e, fun e => by simp at e, hsp⟩
theorem scan_toks : ∀ (n : Nat) (l : List UInt8) (a : Nat), l.length ≤ n → l.length ≤ 8000 → ∀ t ∈ (scanM l a).1, TokOk t := by
  intro n
  have hend : ∀ a, TokOk ⟨0, [], 0, a⟩ := fun a => ⟨fun e => by simp at e, fun e => by simp at e, fun e => by simp at e, by simp [spellM]⟩
  induction n with
  | zero =>
    intro l a hl _ t ht
    have e : l = [] := List.eq_nil_of_length_eq_zero (by omega)
    subst e
    have : scanM [] a = ([⟨0, [], 0, a⟩], none) := rfl
    rw [this] at ht
    simp at ht
    subst ht
    exact hend _
  | succ n ih =>
    intro l a hl h8 t ht
    rw [scanM_eq] at ht
    cases hm : l.drop (blk false l) with
    | nil =>
      rw [hm] at ht
      simp at ht
      subst ht
      exact hend _
    | cons c r =>
      rw [hm] at ht
      simp only at ht
      have hlen := congrArg List.length hm
      rw [List.length_drop] at hlen
      cases hk : tokM (c :: r) with
      | none => rw [hk] at ht; simp at ht
      | some x =>
        rw [hk] at ht
        simp only at ht
        have h1 := tok_len _ x hk
        have hd : ((c :: r).drop x.len).length = (c :: r).length - x.len := List.length_drop
        rcases List.mem_cons.1 ht with rfl | ht
        · exact tok_ok _ x hk (by omega) _
        · exact ih ((c :: r).drop x.len) _ (by omega) (by omega) t ht
def spellT (t : TA) : List UInt8 := spellM t.kind t.text t.num
theorem joinM_join : ∀ l : List TA, joinM l = Lib.join (l.map spellT) [32]
  | [] => rfl
  | [t] => by simp [joinM, Lib.join, List.intercalate, spellT]
  | t :: u :: r => by
    have ih := joinM_join (u :: r)
    show spellM t.kind t.text t.num ++ 32 :: joinM (u :: r) = _
    rw [ih]
    simp [Lib.join, List.intercalate, spellT]
theorem joinM_len : ∀ l : List TA, (∀ t ∈ l, TokOk t) → (joinM l).length ≤ 8001 * l.length
  | [], _ => by simp [joinM]
  | [t], h => by
    have := (h t (by simp)).spell
    simp only [joinM, List.length_cons, List.length_nil]
    omega
  | t :: u :: r, h => by
    have ih := joinM_len (u :: r) (fun x hx => h x (by simp at hx ⊢; exact .inr hx))
    have := (h t (by simp)).spell
    show (spellM t.kind t.text t.num ++ 32 :: joinM (u :: r)).length ≤ _
    simp only [List.length_append, List.length_cons] at ih ⊢
    omega

end Go.Proofs.YtipabjefkbgjbaaDoor.Lx
