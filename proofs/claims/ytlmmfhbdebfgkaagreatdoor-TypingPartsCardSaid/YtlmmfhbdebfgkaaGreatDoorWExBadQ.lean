/-
  ExBad, ExSh, ExTop.
-/
import Derived.Test.YtlmmfhbdebfgkaaGreatDoorWExMemQ
import Derived.Test.YtlmmfhbdebfgkaaGreatDoorWTySmallQ
import Derived.Test.YtlmmfhbdebfgkaaGreatDoorWExSnd
set_option linter.unusedVariables false
set_option linter.unusedSimpArgs false
namespace Go.Proofs.YtlmmfhbdebfgkaaGreatDoor.Ex
open Lx
def Er (ts : List TA) (e a : Nat) : Prop := (e = 25 ∨ e = 26 ∨ e = 27) ∧ a < ts.length
def RecE (ts : List TA) (o : Nat) (rec : St → R) : Prop := ∀ s e a, StOk ts s → s.open_ = o → rec s = .bad e a → Er ts e a
theorem then_bad {r : R} {k : T → St → R} {e a : Nat} (h : r.then k = .bad e a) : r = .bad e a ∨ ∃ x s1, r = .ok x s1 ∧ k x s1 = .bad e a := by
  cases r with
  | ok x s1 => exact .inr ⟨x, s1, rfl, h⟩
  | bad e' a' => cases h; exact .inl rfl
theorem leaf_bad {ts : List TA} {o n : Int} {t : List UInt8} {s : St} {e a : Nat} (hs : s.at_ < ts.length) (h : leafR o n t s = .bad e a) : Er ts e a := by
  unfold leafR at h
  split at h
  · cases h; exact ⟨by simp, hs⟩
  · cases h
theorem leave_bad {ts : List TA} {g : List UInt8} {x : T} {s : St} {e a : Nat} (hs : s.at_ < ts.length) (h : leaveR ts g x s = .bad e a) : Er ts e a := by
  unfold leaveR at h
  split at h
  · cases h
  · cases h; exact ⟨by simp, hs⟩
theorem enter_bad {ts : List TA} (he : Ends ts) {k : St → R} {s : St} {e a : Nat} (hs : StOk ts s) (hk : (tk ts s.at_).kind ≠ 0) (h : enterR s k = .bad e a) :
    Er ts e a ∨ (StOk ts ⟨s.at_ + 1, s.n + 1, s.open_ + 1⟩ ∧ k ⟨s.at_ + 1, s.n + 1, s.open_ + 1⟩ = .bad e a) := by
  unfold enterR at h
  split at h
  · cases h; exact .inl ⟨by simp, hs.at_⟩
  · split at h
    · cases h; exact .inl ⟨by simp, hs.at_⟩
    · have := he.next hs.at_ hk
      have := hs.n
      have := hs.op
      exact .inr ⟨⟨by simpa using by omega, by simp; omega, by simp; omega⟩, h⟩
theorem loop_bad {ts : List TA} (he : Ends ts) {rec : St → R} (hr : RecOk ts rec) {o : Nat} (hq : RecE ts o rec) {n : Nat} : ∀ (k : Nat) (x : T) (s : St) (e a : Nat), StOk ts s → s.open_ = o → loopR rec ts n k x s = .bad e a → Er ts e a
  | 0, x, s, e, a, hs, ho, h => by cases h
  | k + 1, x, s, e, a, hs, ho, h => by
    unfold loopR at h
    split at h
    · cases h
    · rename_i op turned hop
      split at h
      · cases h; exact ⟨by simp, hs.at_⟩
      · have hn := he.next hs.at_ (by rw [opAt_kind hop]; decide)
        have h3 := hs.n
        have ha : StOk ts ⟨s.at_ + 1, s.n + 1, s.open_⟩ := ⟨hn, by simp; omega, hs.op⟩
        rcases then_bad h with h1 | ⟨y, s2, h1, h2⟩
        · exact hq _ _ _ ha ho h1
        · have hb := hr _ _ _ ha h1
          split at h2
          · cases h2
          · exact loop_bad he hr hq k _ s2 e a (hb.ok hs.op) (by rw [hb.op]; exact ho) h2
theorem args_bad {ts : List TA} (he : Ends ts) {rec : St → R} (hr : RecOk ts rec) {o : Nat} (hq : RecE ts o rec) {op : Int} : ∀ (k : Nat) (acc : F) (s : St) (e a : Nat), StOk ts s → s.open_ = o → argsR rec ts op k acc s = .bad e a → Er ts e a
  | 0, acc, s, e, a, hs, ho, h => leave_bad hs.at_ h
  | k + 1, acc, s, e, a, hs, ho, h => by
    unfold argsR at h
    split at h
    · rename_i hi
      have hn := he.next hs.at_ (isS_ne hi)
      have ha : StOk ts ⟨s.at_ + 1, s.n, s.open_⟩ := ⟨hn, hs.n, hs.op⟩
      rcases then_bad h with h1 | ⟨y, s2, h1, h2⟩
      · exact hq _ _ _ ha ho h1
      · have hb := hr _ _ _ ha h1
        exact args_bad he hr hq k _ s2 e a (hb.ok hs.op) (by rw [hb.op]; exact ho) h2
    · cases h; exact ⟨by simp, hs.at_⟩
theorem elems_bad {ts : List TA} (he : Ends ts) {rec : St → R} (hr : RecOk ts rec) {o : Nat} (hq : RecE ts o rec) : ∀ (k : Nat) (acc : F) (s : St) (e a : Nat), StOk ts s → s.open_ = o → elemsR rec ts k acc s = .bad e a → Er ts e a
  | 0, acc, s, e, a, hs, ho, h => by cases h; exact ⟨by simp, hs.at_⟩
  | k + 1, acc, s, e, a, hs, ho, h => by
    unfold elemsR at h
    split at h
    · cases h
    · split at h
      · rcases then_bad h with h1 | ⟨y, s2, h1, h2⟩
        · exact hq _ _ _ hs ho h1
        · have hb := hr _ _ _ hs h1
          exact elems_bad he hr hq k _ s2 e a (hb.ok hs.op) (by rw [hb.op]; exact ho) h2
      · split at h
        · rename_i hi
          have hn := he.next hs.at_ (isS_ne hi)
          split at h
          · split at h
            · cases h; exact ⟨by simp, hn⟩
            · cases h; exact ⟨by simp, hn⟩
          · have ha : StOk ts ⟨s.at_ + 1, s.n, s.open_⟩ := ⟨hn, hs.n, hs.op⟩
            rcases then_bad h with h1 | ⟨y, s2, h1, h2⟩
            · exact hq _ _ _ ha ho h1
            · have hb := hr _ _ _ ha h1
              exact elems_bad he hr hq k _ s2 e a (hb.ok hs.op) (by rw [hb.op]; exact ho) h2
        · cases h; exact ⟨by simp, hs.at_⟩
theorem call_bad {ts : List TA} (he : Ends ts) {rec : St → R} (hr : RecOk ts rec) {op : Int} {n : Nat} {s : St} (hq : RecE ts (s.open_ + 1) rec) {e a : Nat} (hs : StOk ts s) (hk : (tk ts s.at_).kind ≠ 0) (h : callR rec ts op n s = .bad e a) : Er ts e a := by
  have hn := he.next hs.at_ hk
  unfold callR at h
  split at h
  · rename_i hi
    rcases enter_bad he (⟨hn, hs.n, hs.op⟩ : StOk ts ⟨s.at_ + 1, s.n, s.open_⟩) (isS_ne hi) h with h1 | ⟨ho1, h1⟩
    · exact h1
    · rcases then_bad h1 with h2 | ⟨y, s2, h2, h3⟩
      · exact hq _ _ _ ho1 rfl h2
      · have hb := hr _ _ _ ho1 h2
        exact args_bad he hr hq _ _ s2 e a (hb.ok ho1.op) hb.op h3
  · cases h; exact ⟨by simp, hn⟩
theorem field_bad {ts : List TA} (he : Ends ts) {s : St} {e a : Nat} (hs : StOk ts s) (hk : (tk ts s.at_).kind ≠ 0) (h : fieldR ts s = .bad e a) : Er ts e a := by
  have hn := he.next hs.at_ hk
  unfold fieldR at h
  split at h
  · rename_i hi
    have hn2 := he.next hn (isS_ne hi)
    split at h
    · exact leaf_bad hn2 h
    · cases h; exact ⟨by simp, hn2⟩
  · cases h; exact ⟨by simp, hn⟩
theorem group_bad {ts : List TA} (he : Ends ts) {rec : St → R} (hr : RecOk ts rec) {s : St} (hq : RecE ts (s.open_ + 1) rec) {e a : Nat} (hs : StOk ts s) (hk : (tk ts s.at_).kind ≠ 0) (h : groupR rec ts s = .bad e a) : Er ts e a := by
  unfold groupR at h
  split at h
  · cases h; exact ⟨by simp, hs.at_⟩
  · rename_i ho
    have hn := he.next hs.at_ hk
    have hop := hs.op
    have hs1 : StOk ts ⟨s.at_ + 1, s.n, s.open_ + 1⟩ := ⟨hn, hs.n, by simp; omega⟩
    rcases then_bad h with h1 | ⟨y, s2, h1, h2⟩
    · exact hq _ _ _ hs1 rfl h1
    · exact leave_bad (hr _ _ _ hs1 h1).lt h2
theorem prim_bad {ts : List TA} (he : Ends ts) {rec : St → R} (hr : RecOk ts rec) {s : St} (hq : RecE ts (s.open_ + 1) rec) {e a : Nat} (hs : StOk ts s) (h : primR rec ts s = .bad e a) : Er ts e a := by
  unfold primR at h
  split at h
  · rename_i hk
    have hk0 : (tk ts s.at_).kind ≠ 0 := by rw [hk]; decide
    unfold wordR at h
    repeat' split at h
    all_goals first | exact call_bad he hr hq hs hk0 h | exact field_bad he hs hk0 h | exact leaf_bad hs.at_ h
  · repeat' split at h
    all_goals first
      | exact leaf_bad hs.at_ h
      | (rename_i hi; exact group_bad he hr hq hs (isS_ne hi) h)
      | (rename_i hi
         rcases enter_bad he hs (isS_ne hi) h with h1 | ⟨ho1, h1⟩
         · exact h1
         · exact elems_bad he hr hq _ _ _ e a ho1 rfl h1)
      | (cases h; exact ⟨by simp, hs.at_⟩)
theorem lv_bad {ts : List TA} (he : Ends ts) : ∀ (f n : Nat), n ≤ 5 → ∀ (s : St) (e a : Nat), StOk ts s → need n s < f → lv ts f n s = .bad e a → Er ts e a
  | 0, n, _, s, e, a, hs, hf, h => by omega
  | f + 1, n, hn5, s, e, a, hs, hf, h => by
    unfold need at hf
    unfold lv at h
    split at h
    · rename_i h5
      split at h
      · rename_i op ho
        rcases enter_bad he hs (by rw [unAt_kind ho]; decide) h with h1 | ⟨ho1, h1⟩
        · exact h1
        · rcases then_bad h1 with h2 | ⟨x, s2, h2, h3⟩
          · refine lv_bad he f 5 (by omega) _ e a ho1 ?_ h2
            have := ho1.op
            unfold need
            simp only at this ⊢
            omega
          · cases h3
      · refine prim_bad he (lv_st he f 0) ?_ hs h
        intro s1 e1 a1 hs1 ho1 h1
        refine lv_bad he f 0 (by omega) s1 e1 a1 hs1 ?_ h1
        have := hs1.op
        unfold need
        omega
    · rename_i h5
      rcases then_bad h with h1 | ⟨x, s1, h1, h2⟩
      · refine lv_bad he f (n + 1) (by omega) s e a hs ?_ h1
        unfold need; omega
      · have hb := lv_st he f (n + 1) _ _ _ hs h1
        refine loop_bad he (lv_st he f (n + 1)) (o := s.open_) ?_ _ _ _ _ _ (hb.ok hs.op) hb.op h2
        intro s3 e1 a1 hs3 ho3 h3
        refine lv_bad he f (n + 1) (by omega) s3 e1 a1 hs3 ?_ h3
        unfold need
        rw [ho3]; omega
theorem parse_bad {ts : List TA} (he : Ends ts) {e a : Nat} (h : parseM ts 0 = .bad e a) : Er ts e a :=
  lv_bad he FUEL 0 (by omega) ⟨0, 0, 0⟩ e a ⟨he.pos, by simp, by simp⟩ (by unfold need FUEL; simp) h
theorem lv_none {ts : List TA} : ∀ (f n : Nat), n ≤ 5 → ∀ (s : St), s.open_ ≤ 20 → need n s < f → begins ts s.at_ = false → lv ts f n s = .bad 25 s.at_
  | 0, n, _, s, _, hf, h => by omega
  | f + 1, n, hn5, s, ho, hf, h => by
    unfold need at hf
    by_cases h5 : n = 5
    · have hb := h
      unfold begins at hb
      simp only [Bool.or_eq_false_iff, decide_eq_false_iff_not] at hb
      obtain ⟨⟨⟨⟨h1, h2⟩, h3⟩, h4⟩, h6⟩ := hb
      have hu : unAt (tk ts s.at_) = none := by
        unfold unAt
        split
        · rename_i hk
          rw [if_neg, if_neg]
          · intro e; unfold isS at h6; rw [hk, e] at h6; simp at h6
          · intro e; unfold isS at h4; rw [hk, e] at h4; simp at h4
        · rfl
      rw [lv, if_pos h5, hu]
      show primR _ ts s = _
      unfold primR
      rw [if_neg (by omega), if_neg (by omega), if_neg (by omega), if_neg (by omega), h2, h3]
      rfl
    · rw [lv, if_neg h5, lv_none f (n + 1) (by omega) s ho (by unfold need; omega) h]
      rfl
end Go.Proofs.YtlmmfhbdebfgkaaGreatDoor.Ex
namespace Go.Proofs.YtlmmfhbdebfgkaaGreatDoor.Ex
open Lx
structure Ag (ts ts' : List TA) (d : Nat) : Prop where
  mid : ∀ i, i + 1 < ts.length → bare (tk ts' (i + d)) = bare (tk ts i)
  last : (tk ts (ts.length - 1)).kind = 0
  close : bare (tk ts' (ts.length - 1 + d)) = sg [41]
section
variable {ts ts' : List TA} {d i : Nat}
end
section
variable {ts ts' : List TA} {d dn du : Nat}
end
end Go.Proofs.YtlmmfhbdebfgkaaGreatDoor.Ex
namespace Go.Proofs.YtlmmfhbdebfgkaaGreatDoor.Ex
open Lx Va
def rdM (l : List UInt8) : T × Nat × Nat := if 8000 < l.length then (⟨0, 0, [], .nil⟩, 5, 0) else match scanM l 0 with
  | (ts, none) => readM ts
  | (_, some p) => (⟨0, 0, [], .nil⟩, 24, p)
theorem tok_all {P : TA → Prop} (h0 : ∀ a, P ⟨0, [], 0, a⟩) (ht : ∀ l x, tokM l = some x → ∀ a, P ⟨x.kind, x.text, x.num, a⟩) : ∀ (n : Nat) (l : List UInt8) (a : Nat), l.length ≤ n → ∀ t ∈ (scanM l a).1, P t := by
  intro n
  induction n with
  | zero =>
    intro l a hl t htt
    have e : l = [] := List.eq_nil_of_length_eq_zero (by omega)
    subst e
    have : scanM [] a = ([⟨0, [], 0, a⟩], none) := rfl
    rw [this] at htt
    simp at htt
    subst htt
    exact h0 _
  | succ n ih =>
    intro l a hl t htt
    rw [scanM_eq] at htt
    cases hm : l.drop (blk false l) with
    | nil =>
      rw [hm] at htt
      simp at htt
      subst htt
      exact h0 _
    | cons c r =>
      rw [hm] at htt
      simp only at htt
      have hlen := congrArg List.length hm
      rw [List.length_drop] at hlen
      cases hk : tokM (c :: r) with
      | none => rw [hk] at htt; simp at htt
      | some x =>
        rw [hk] at htt
        simp only at htt
        have h1 := tok_len _ x hk
        have hd : ((c :: r).drop x.len).length = (c :: r).length - x.len := List.length_drop
        rcases List.mem_cons.1 htt with rfl | htt
        · exact ht _ x hk _
        · exact ih ((c :: r).drop x.len) _ (by omega) t htt
theorem tok_v (l : List UInt8) (x : Tok) (h : tokM l = some x) (a : Nat) : TokV ⟨x.kind, x.text, x.num, a⟩ := by
  cases l with
  | nil => simp [tokM] at h
  | cons c r =>
    rw [tokM_cons] at h
    by_cases h39 : c = 39
    · rw [if_pos h39] at h
      by_cases hn : nameB (r.takeWhile wordB) = true
      · rw [if_pos hn] at h
        obtain rfl := Option.some.inj h
        exact ⟨fun _ => hn, fun e => by simp at e, fun e => by simp at e⟩
      · rw [if_neg hn] at h; cases h
    · rw [if_neg h39] at h
      by_cases hb : letB c = true
      · rw [if_pos hb] at h
        by_cases hn : nameB ((c :: r).takeWhile wordB) = true
        · rw [if_pos hn] at h
          obtain rfl := Option.some.inj h
          exact ⟨fun _ => hn, fun e => by simp at e, fun e => by simp at e⟩
        · rw [if_neg hn] at h; cases h
      · rw [if_neg hb] at h
        by_cases hd : digB c = true
        · rw [if_pos hd] at h
          by_cases hn : digsOk ((c :: r).takeWhile digB) = true
          · rw [if_pos hn] at h
            obtain rfl := Option.some.inj h
            unfold digsOk at hn
            simp only [Bool.and_eq_true, decide_eq_true_eq] at hn
            exact ⟨fun e => by simp at e, fun _ => ⟨by simp only; omega, by simp only; omega⟩, fun e => by simp at e⟩
          · rw [if_neg hn] at h; cases h
        · rw [if_neg hd] at h
          by_cases h34 : c = 34
          · rw [if_pos h34] at h
            cases hq : quo (r.length + 1) r with
            | none => rw [hq] at h; cases h
            | some tn =>
              obtain ⟨t, n⟩ := tn
              rw [hq] at h
              simp only at h
              by_cases ht : t.length ≤ 64
              · rw [if_pos ht] at h
                obtain rfl := Option.some.inj h
                exact ⟨fun e => by simp at e, fun e => by simp at e, fun _ => ht⟩
              · rw [if_neg ht] at h; cases h
          · rw [if_neg h34] at h
            cases hf : signs.find? (fun s => s.isPrefixOf (c :: r)) with
            | none => rw [hf] at h; cases h
            | some s =>
              rw [hf] at h
              obtain rfl := Option.some.inj h
              exact ⟨fun e => by simp at e, fun e => by simp at e, fun e => by simp at e⟩
theorem tokV_end (a : Nat) : TokV ⟨0, [], 0, a⟩ := ⟨fun e => by simp at e, fun e => by simp at e, fun e => by simp at e⟩
theorem tk_of {P : TA → Prop} {ts : List TA} (h0 : P ⟨0, [], 0, 0⟩) (h : ∀ t ∈ ts, P t) (i : Nat) : P (tk ts i) := by
  unfold tk
  by_cases hi : i < ts.length
  · rw [List.getD_eq_getElem?_getD, List.getElem?_eq_getElem hi]
    exact h _ (List.getElem_mem _)
  · rw [List.getD_eq_getElem?_getD, List.getElem?_eq_none (by omega)]
    exact h0
theorem scan_v {l : List UInt8} {ts : List TA} {a : Nat} {o : Option Nat} (h : scanM l a = (ts, o)) (i : Nat) : TokV (tk ts i) := by
  refine tk_of (tokV_end 0) ?_ i
  have := tok_all (P := TokV) tokV_end tok_v l.length l a (Nat.le_refl _)
  rw [h] at this
  exact this
theorem scan_len : ∀ (n : Nat) (l : List UInt8) (a : Nat), l.length ≤ n → ((scanM l a).1.map tlen).sum ≤ l.length := by
  intro n
  induction n with
  | zero =>
    intro l a hl
    have e : l = [] := List.eq_nil_of_length_eq_zero (by omega)
    subst e
    have : scanM [] a = ([⟨0, [], 0, a⟩], none) := rfl
    rw [this]
    simp [tlen, bare, spB, spellM]
  | succ n ih =>
    intro l a hl
    rw [scanM_eq]
    cases hm : l.drop (blk false l) with
    | nil => simp [tlen, bare, spB, spellM]
    | cons c r =>
      simp only
      have hlen := congrArg List.length hm
      rw [List.length_drop] at hlen
      cases hk : tokM (c :: r) with
      | none => simp
      | some x =>
        simp only
        have h1 := tok_len _ x hk
        have hd : ((c :: r).drop x.len).length = (c :: r).length - x.len := List.length_drop
        have h2 := ih ((c :: r).drop x.len) (a + blk false l + x.len) (by omega)
        have h3 : tlen ⟨x.kind, x.text, x.num, a + blk false l⟩ = x.len := by
          unfold tlen bare spB
          simp only
          rw [spell_take _ x hk, List.length_take]; omega
        simp only [List.map_cons, List.sum_cons, h3]
        omega
theorem tokM_neP {l : List UInt8} {t : Tok} (h : tokM l = some t) : t.kind ≠ 0 := by
  unfold tokM at h
  split at h
  · cases h
  · simp only at h
    repeat' split at h
    all_goals first
      | (obtain rfl := Option.some.inj h; simp)
      | cases h
theorem scanF_endsP : ∀ (f : Nat) (l : List UInt8) (a : Nat) (ts : List TA), scanF f l a = (ts, none) → ∃ m e, ts = m ++ [e] ∧ e.kind = 0 ∧ ∀ t ∈ m, t.kind ≠ 0
  | 0, l, a, ts, h => by
    unfold scanF at h
    cases h
  | f + 1, l, a, ts, h => by
    unfold scanF at h
    simp only at h
    split at h
    · cases h
      exact ⟨[], _, rfl, rfl, by simp⟩
    · rename_i c r hm
      split at h
      · cases h
      · rename_i t ht
        obtain ⟨us, o, hu⟩ : ∃ us o, scanF f ((c :: r).drop t.len) (a + blk false l + t.len) = (us, o) := ⟨_, _, rfl⟩
        rw [hu] at h
        simp only [Prod.mk.injEq] at h
        obtain ⟨rfl, rfl⟩ := h
        obtain ⟨m, e, rfl, he, hk⟩ := scanF_endsP f _ _ us hu
        exact ⟨_ :: m, e, rfl, he, fun x hx => by
          rcases List.mem_cons.1 hx with rfl | hx
          · exact tokM_neP ht
          · exact hk x hx⟩
theorem scan_two {l : List UInt8} {ts : List TA} {a : Nat} (h : scanM l a = (ts, none)) : ∃ m e, ts = m ++ [e] ∧ e.kind = 0 ∧ ∀ t ∈ m, t.kind ≠ 0 := scanF_endsP _ l a ts h
theorem ends_two {m : List TA} {e : TA} (he : e.kind = 0) (hk : ∀ t ∈ m, t.kind ≠ 0) : Ends (m ++ [e]) := by
  refine ⟨by simp, fun i hi => ?_, ?_⟩
  · have h1 : i < m.length := by simp at hi; omega
    have e1 : tk (m ++ [e]) i = m[i] := by
      simp [tk, List.getD_eq_getElem?_getD, List.getElem?_append_left h1, h1]
    rw [e1]
    exact hk _ (List.getElem_mem _)
  · have e1 : tk (m ++ [e]) ((m ++ [e]).length - 1) = e := by simp [tk, List.getD_eq_getElem?_getD]
    rw [e1]; exact he
structure IsX (l : List UInt8) (x : T) (m : List TA) (e : TA) (s : St) : Prop where
  scan : scanM l 0 = (m ++ [e], none)
  kind : e.kind = 0
  mid : ∀ t ∈ m, t.kind ≠ 0
  parse : parseM (m ++ [e]) 0 = .ok x s
  at_ : s.at_ = m.length
theorem rd_ok {l : List UInt8} {x : T} {p : Nat} (h : rdM l = (x, 0, p)) : l.length ≤ 8000 ∧ p = 0 ∧ ∃ m e s, IsX l x m e s := by
  unfold rdM at h
  split at h
  · cases h
  · rename_i hl
    obtain ⟨ts, o, ho⟩ : ∃ ts o, scanM l 0 = (ts, o) := ⟨_, _, rfl⟩
    rw [ho] at h
    cases o with
    | some p => cases h
    | none =>
      obtain ⟨m, e, rfl, he, hm⟩ := scan_two ho
      have hE := ends_two he hm
      simp only at h
      unfold readM at h
      cases hp : parseM (m ++ [e]) 0 with
      | bad er a =>
        rw [hp] at h
        have := (parse_bad hE hp).1
        simp only [Prod.mk.injEq] at h
        obtain ⟨_, h, _⟩ := h
        omega
      | ok t s =>
        rw [hp] at h
        simp only at h
        split at h
        · rename_i hat
          simp only [Prod.mk.injEq] at h
          obtain ⟨rfl, _, rfl⟩ := h
          exact ⟨by omega, rfl, m, e, s, ho, he, hm, hp, by simpa using hat⟩
        · simp only [Prod.mk.injEq] at h
          obtain ⟨_, h, _⟩ := h
          omega
theorem IsX.ends {l : List UInt8} {x : T} {m : List TA} {e : TA} {s : St} (h : IsX l x m e s) : Ends (m ++ [e]) := ends_two h.kind h.mid
structure Fine (x : T) : Prop where
  wf : WfF x.row
  num : NumF x.row
  size : x.size ≤ 200
  dep : x.tp.open_ ≤ 20
theorem IsX.fine {l : List UInt8} {x : T} {m : List TA} {e : TA} {s : St} (h : IsX l x m e s) : Fine x ∧ x.tx.text.length ≤ l.length + 600 ∧ s.n = x.size := by
  have hE := h.ends
  have hs0 : StOk (m ++ [e]) ⟨0, 0, 0⟩ := ⟨hE.pos, by simp, by simp⟩
  have hp : lv (m ++ [e]) FUEL 0 ⟨0, 0, 0⟩ = .ok x s := h.parse
  have hS := lv_snd hE (fun i => scan_v h.scan i) FUEL 0 (by omega) _ _ _ hs0 hp
  have hA := lv_st hE FUEL 0 _ _ _ hs0 hp
  obtain ⟨h1, h2⟩ := hS.zero
  have h3 := hS.size
  have h4 := hA.le
  simp only at h1 h2 h3
  have h5 : cw (m ++ [e]) s.at_ ≤ l.length := by
    have hl := scan_len l.length l 0 (Nat.le_refl _)
    rw [h.scan] at hl
    simp only at hl
    refine Nat.le_trans ?_ hl
    unfold cw
    have hq : ((m ++ [e]).map tlen).sum = (((m ++ [e]).take s.at_).map tlen).sum + (((m ++ [e]).drop s.at_).map tlen).sum := by
      rw [← List.sum_append, ← List.map_append, List.take_append_drop]
    omega
  refine ⟨⟨hS.wf, hS.num, by omega, by omega⟩, ?_, by omega⟩
  have ht : x.tx.text = flat x.tp.ps := by rw [T.tx_tp]; rfl
  rw [ht]
  omega
theorem Fine.print {x : T} (h : Fine x) : printM x = (x.tx.text, 0) := by
  have hc : (x.chk 0).1 = 0 := (wf_chk x.row 0 h.wf (by rw [row_size]; have := h.size; omega)).1
  have ho : x.tx.open_ = x.tp.open_ := by rw [T.tx_tp]; rfl
  unfold printM
  rw [if_neg (by rw [hc]; simp), if_neg (by rw [ho]; have := h.dep; omega)]
end Go.Proofs.YtlmmfhbdebfgkaaGreatDoor.Ex
