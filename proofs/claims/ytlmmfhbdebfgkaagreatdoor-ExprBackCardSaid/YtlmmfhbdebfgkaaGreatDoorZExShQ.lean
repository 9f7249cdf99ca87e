/-
  ExSh, ExTop.
-/
import Derived.Test.YtlmmfhbdebfgkaaGreatDoorZExBadQ
import Derived.Test.YtlmmfhbdebfgkaaGreatDoorZExPrs
import Derived.Test.YtlmmfhbdebfgkaaGreatDoorZExSnd
namespace Go.Proofs.YtlmmfhbdebfgkaaGreatDoor.Ex
open Lx
set_option linter.unusedVariables false
set_option linter.unusedSimpArgs false
structure Ag (ts ts' : List TA) (d : Nat) : Prop where
  mid : ∀ i, i + 1 < ts.length → bare (tk ts' (i + d)) = bare (tk ts i)
  last : (tk ts (ts.length - 1)).kind = 0
  close : bare (tk ts' (ts.length - 1 + d)) = sg [41]
section
variable {ts ts' : List TA} {d i : Nat}
theorem Ag.either (h : Ag ts ts' d) (hi : i < ts.length) : bare (tk ts' (i + d)) = bare (tk ts i) ∨ ((tk ts i).kind = 0 ∧ bare (tk ts' (i + d)) = sg [41]) := by
  by_cases e : i + 1 < ts.length
  · exact .inl (h.mid i e)
  · obtain rfl : i = ts.length - 1 := by omega
    exact .inr ⟨h.last, h.close⟩
theorem Ag.opAt (h : Ag ts ts' d) (hi : i < ts.length) (m : Nat) : opAt m (tk ts' (i + d)) = opAt m (tk ts i) := by
  rcases h.either hi with e | ⟨e1, e2⟩
  · unfold Ex.opAt
    rw [show (tk ts' (i + d)).kind = (tk ts i).kind from congrArg Prod.fst e, show (tk ts' (i + d)).text = (tk ts i).text from congrArg (fun p => p.2.1) e]
  · rw [opAt_sg e2, opOf_close (by simp), opAt_no (by rw [e1]; decide)]
theorem Ag.unAt (h : Ag ts ts' d) (hi : i < ts.length) : unAt (tk ts' (i + d)) = unAt (tk ts i) := by
  rcases h.either hi with e | ⟨e1, e2⟩
  · unfold Ex.unAt
    rw [show (tk ts' (i + d)).kind = (tk ts i).kind from congrArg Prod.fst e, show (tk ts' (i + d)).text = (tk ts i).text from congrArg (fun p => p.2.1) e]
  · rw [unAt_sg e2, unAt_no (by rw [e1]; decide)]; rfl
theorem Ag.kind (h : Ag ts ts' d) (hi : i < ts.length) {c : Int} (hc : c = 1 ∨ c = 2 ∨ c = 3 ∨ c = 4) : ((tk ts' (i + d)).kind = c) = ((tk ts i).kind = c) := by
  rcases h.either hi with e | ⟨e1, e2⟩
  · rw [show (tk ts' (i + d)).kind = (tk ts i).kind from congrArg Prod.fst e]
  · rw [e1, bare_kind e2]
    rcases hc with rfl | rfl | rfl | rfl <;> simp [sg]
theorem Ag.same (h : Ag ts ts' d) (hi : i < ts.length) (hk : (tk ts i).kind ≠ 0) : bare (tk ts' (i + d)) = bare (tk ts i) := by
  rcases h.either hi with e | ⟨e1, e2⟩
  · exact e
  · exact absurd e1 hk
theorem Ag.isS (h : Ag ts ts' d) (hi : i < ts.length) {g : List UInt8} (hg : g ≠ [41]) : isS ts' (i + d) g = isS ts i g := by
  rcases h.either hi with e | ⟨e1, e2⟩
  · unfold Ex.isS
    rw [show (tk ts' (i + d)).kind = (tk ts i).kind from congrArg Prod.fst e, show (tk ts' (i + d)).text = (tk ts i).text from congrArg (fun p => p.2.1) e]
  · rw [isS_sg e2]
    unfold Ex.isS
    rw [e1]
    simp [Ne.symm hg]
theorem Ag.begins (h : Ag ts ts' d) (hi : i < ts.length) : begins ts' (i + d) = begins ts i := by
  unfold Ex.begins
  rw [h.isS hi (by decide), h.isS hi (by decide), h.isS hi (by decide), h.isS hi (by decide)]
  rcases h.either hi with e | ⟨e1, e2⟩
  · rw [show (tk ts' (i + d)).kind = (tk ts i).kind from congrArg Prod.fst e]
  · rw [e1, bare_kind e2]; rfl
end
def Out (d dn du : Nat) (r : R) (x : T) (s : St) : Prop :=
  (r = .ok x ⟨s.at_ + d, s.n + dn, s.open_ + du⟩ ∧ s.n + dn ≤ 200) ∨ (∃ a, r = .bad 26 a) ∨ (dn ≠ 0 ∧ ∃ a, r = .bad 27 a)
def Mov (d dn du : Nat) (s : St) : St := ⟨s.at_ + d, s.n + dn, s.open_ + du⟩
section
variable {ts ts' : List TA} {d dn du : Nat}
theorem Out.then {r : R} {x t : T} {s1 s' : St} {k : T → St → R} (h : Out d dn du r x s1) (hk : s1.n + dn ≤ 200 → Out d dn du (k x (Mov d dn du s1)) t s') : Out d dn du (r.then k) t s' := by
  rcases h with ⟨rfl, h⟩ | ⟨a, rfl⟩ | ⟨h, a, rfl⟩
  · exact hk h
  · exact .inr (.inl ⟨a, rfl⟩)
  · exact .inr (.inr ⟨h, a, rfl⟩)
end
end Go.Proofs.YtlmmfhbdebfgkaaGreatDoor.Ex
namespace Go.Proofs.YtlmmfhbdebfgkaaGreatDoor.Ex
open Lx Va
set_option linter.unusedVariables false
set_option linter.unusedSimpArgs false
def rdM (l : List UInt8) : T × Nat × Nat := if 8000 < l.length then (⟨0, 0, [], .nil⟩, 5, 0) else match scanM l 0 with
  | (ts, none) => readM ts
  | (_, some p) => (⟨0, 0, [], .nil⟩, 24, p)
theorem tok_all {P : TA → Prop} (h0 : ∀ a, P ⟨0, [], 0, a⟩) (ht : ∀ l x, tokM l = some x → ∀ a, P ⟨x.kind, x.text, x.num, a⟩) : ∀ (n : Nat) (l : List UInt8) (a : Nat), l.length ≤ n → ∀ t ∈ (scanM l a).1, P t := by
  intro n
  induction n with
  | zero =>
    intro l a hl t htt
    have e : l = [] := List.eq_nil_of_length_eq_zero (by omega)
    subst e
    have : scanM [] a = ([⟨0, [], 0, a⟩], none) := rfl
    rw [this] at htt
    simp at htt
    subst htt
    exact h0 _
  | succ n ih =>
    intro l a hl t htt
    rw [scanM_eq] at htt
    cases hm : l.drop (blk false l) with
    | nil =>
      rw [hm] at htt
      simp at htt
      subst htt
      exact h0 _
    | cons c r =>
      rw [hm] at htt
      simp only at htt
      have hlen := congrArg List.length hm
      rw [List.length_drop] at hlen
      cases hk : tokM (c :: r) with
      | none => rw [hk] at htt; simp at htt
      | some x =>
        rw [hk] at htt
        simp only at htt
        have h1 := tok_len _ x hk
        have hd : ((c :: r).drop x.len).length = (c :: r).length - x.len := List.length_drop
        rcases List.mem_cons.1 htt with rfl | htt
        · exact ht _ x hk _
        · exact ih ((c :: r).drop x.len) _ (by omega) t htt
theorem tok_v (l : List UInt8) (x : Tok) (h : tokM l = some x) (a : Nat) : TokV ⟨x.kind, x.text, x.num, a⟩ := by
  cases l with
  | nil => simp [tokM] at h
  | cons c r =>
    rw [tokM_cons] at h
    by_cases h39 : c = 39
    · rw [if_pos h39] at h
      by_cases hn : nameB (r.takeWhile wordB) = true
      · rw [if_pos hn] at h
        obtain rfl := Option.some.inj h
        exact ⟨fun _ => hn, fun e => by simp at e, fun e => by simp at e⟩
      · rw [if_neg hn] at h; cases h
    · rw [if_neg h39] at h
      by_cases hb : letB c = true
      · rw [if_pos hb] at h
        by_cases hn : nameB ((c :: r).takeWhile wordB) = true
        · rw [if_pos hn] at h
          obtain rfl := Option.some.inj h
          exact ⟨fun _ => hn, fun e => by simp at e, fun e => by simp at e⟩
        · rw [if_neg hn] at h; cases h
      · rw [if_neg hb] at h
        by_cases hd : digB c = true
        · rw [if_pos hd] at h
          by_cases hn : digsOk ((c :: r).takeWhile digB) = true
          · rw [if_pos hn] at h
            obtain rfl := Option.some.inj h
            unfold digsOk at hn
            simp only [Bool.and_eq_true, decide_eq_true_eq] at hn
            exact ⟨fun e => by simp at e, fun _ => ⟨by simp only; omega, by simp only; omega⟩, fun e => by simp at e⟩
          · rw [if_neg hn] at h; cases h
        · rw [if_neg hd] at h
          by_cases h34 : c = 34
          · rw [if_pos h34] at h
            cases hq : quo (r.length + 1) r with
            | none => rw [hq] at h; cases h
            | some tn =>
              obtain ⟨t, n⟩ := tn
              rw [hq] at h
              simp only at h
              by_cases ht : t.length ≤ 64
              · rw [if_pos ht] at h
                obtain rfl := Option.some.inj h
                exact ⟨fun e => by simp at e, fun e => by simp at e, fun _ => ht⟩
              · rw [if_neg ht] at h; cases h
          · rw [if_neg h34] at h
            cases hf : signs.find? (fun s => s.isPrefixOf (c :: r)) with
            | none => rw [hf] at h; cases h
            | some s =>
              rw [hf] at h
              obtain rfl := Option.some.inj h
              exact ⟨fun e => by simp at e, fun e => by simp at e, fun e => by simp at e⟩
theorem tokV_end (a : Nat) : TokV ⟨0, [], 0, a⟩ := ⟨fun e => by simp at e, fun e => by simp at e, fun e => by simp at e⟩
theorem tk_of {P : TA → Prop} {ts : List TA} (h0 : P ⟨0, [], 0, 0⟩) (h : ∀ t ∈ ts, P t) (i : Nat) : P (tk ts i) := by
  unfold tk
  by_cases hi : i < ts.length
  · rw [List.getD_eq_getElem?_getD, List.getElem?_eq_getElem hi]
    exact h _ (List.getElem_mem _)
  · rw [List.getD_eq_getElem?_getD, List.getElem?_eq_none (by omega)]
    exact h0
theorem scan_v {l : List UInt8} {ts : List TA} {a : Nat} {o : Option Nat} (h : scanM l a = (ts, o)) (i : Nat) : TokV (tk ts i) := by
  refine tk_of (tokV_end 0) ?_ i
  have := tok_all (P := TokV) tokV_end tok_v l.length l a (Nat.le_refl _)
  rw [h] at this
  exact this
theorem scan_len : ∀ (n : Nat) (l : List UInt8) (a : Nat), l.length ≤ n → ((scanM l a).1.map tlen).sum ≤ l.length := by
  intro n
  induction n with
  | zero =>
    intro l a hl
    have e : l = [] := List.eq_nil_of_length_eq_zero (by omega)
    subst e
    have : scanM [] a = ([⟨0, [], 0, a⟩], none) := rfl
    rw [this]
    simp [tlen, bare, spB, spellM]
  | succ n ih =>
    intro l a hl
    rw [scanM_eq]
    cases hm : l.drop (blk false l) with
    | nil => simp [tlen, bare, spB, spellM]
    | cons c r =>
      simp only
      have hlen := congrArg List.length hm
      rw [List.length_drop] at hlen
      cases hk : tokM (c :: r) with
      | none => simp
      | some x =>
        simp only
        have h1 := tok_len _ x hk
        have hd : ((c :: r).drop x.len).length = (c :: r).length - x.len := List.length_drop
        have h2 := ih ((c :: r).drop x.len) (a + blk false l + x.len) (by omega)
        have h3 : tlen ⟨x.kind, x.text, x.num, a + blk false l⟩ = x.len := by
          unfold tlen bare spB
          simp only
          rw [spell_take _ x hk, List.length_take]; omega
        simp only [List.map_cons, List.sum_cons, h3]
        omega
theorem tokM_neP {l : List UInt8} {t : Tok} (h : tokM l = some t) : t.kind ≠ 0 := by
  unfold tokM at h
  split at h
  · cases h
  · simp only at h
    repeat' split at h
    all_goals first
      | (obtain rfl := Option.some.inj h; simp)
      | cases h
theorem scanF_endsP : ∀ (f : Nat) (l : List UInt8) (a : Nat) (ts : List TA), scanF f l a = (ts, none) → ∃ m e, ts = m ++ [e] ∧ e.kind = 0 ∧ ∀ t ∈ m, t.kind ≠ 0
  | 0, l, a, ts, h => by
    unfold scanF at h
    cases h
  | f + 1, l, a, ts, h => by
    unfold scanF at h
    simp only at h
    split at h
    · cases h
      exact ⟨[], _, rfl, rfl, by simp⟩
    · rename_i c r hm
      split at h
      · cases h
      · rename_i t ht
        obtain ⟨us, o, hu⟩ : ∃ us o, scanF f ((c :: r).drop t.len) (a + blk false l + t.len) = (us, o) := ⟨_, _, rfl⟩
        rw [hu] at h
        simp only [Prod.mk.injEq] at h
        obtain ⟨rfl, rfl⟩ := h
        obtain ⟨m, e, rfl, he, hk⟩ := scanF_endsP f _ _ us hu
        exact ⟨_ :: m, e, rfl, he, fun x hx => by
          rcases List.mem_cons.1 hx with rfl | hx
          · exact tokM_neP ht
          · exact hk x hx⟩
theorem scan_two {l : List UInt8} {ts : List TA} {a : Nat} (h : scanM l a = (ts, none)) : ∃ m e, ts = m ++ [e] ∧ e.kind = 0 ∧ ∀ t ∈ m, t.kind ≠ 0 := scanF_endsP _ l a ts h
theorem ends_two {m : List TA} {e : TA} (he : e.kind = 0) (hk : ∀ t ∈ m, t.kind ≠ 0) : Ends (m ++ [e]) := by
  refine ⟨by simp, fun i hi => ?_, ?_⟩
  · have h1 : i < m.length := by simp at hi; omega
    have e1 : tk (m ++ [e]) i = m[i] := by
      simp [tk, List.getD_eq_getElem?_getD, List.getElem?_append_left h1, h1]
    rw [e1]
    exact hk _ (List.getElem_mem _)
  · have e1 : tk (m ++ [e]) ((m ++ [e]).length - 1) = e := by simp [tk, List.getD_eq_getElem?_getD]
    rw [e1]; exact he
structure IsX (l : List UInt8) (x : T) (m : List TA) (e : TA) (s : St) : Prop where
  scan : scanM l 0 = (m ++ [e], none)
  kind : e.kind = 0
  mid : ∀ t ∈ m, t.kind ≠ 0
  parse : parseM (m ++ [e]) 0 = .ok x s
  at_ : s.at_ = m.length
theorem rd_ok {l : List UInt8} {x : T} {p : Nat} (h : rdM l = (x, 0, p)) : l.length ≤ 8000 ∧ p = 0 ∧ ∃ m e s, IsX l x m e s := by
  unfold rdM at h
  split at h
  · cases h
  · rename_i hl
    obtain ⟨ts, o, ho⟩ : ∃ ts o, scanM l 0 = (ts, o) := ⟨_, _, rfl⟩
    rw [ho] at h
    cases o with
    | some p => cases h
    | none =>
      obtain ⟨m, e, rfl, he, hm⟩ := scan_two ho
      have hE := ends_two he hm
      simp only at h
      unfold readM at h
      cases hp : parseM (m ++ [e]) 0 with
      | bad er a =>
        rw [hp] at h
        have := (parse_bad hE hp).1
        simp only [Prod.mk.injEq] at h
        obtain ⟨_, h, _⟩ := h
        omega
      | ok t s =>
        rw [hp] at h
        simp only at h
        split at h
        · rename_i hat
          simp only [Prod.mk.injEq] at h
          obtain ⟨rfl, _, rfl⟩ := h
          exact ⟨by omega, rfl, m, e, s, ho, he, hm, hp, by simpa using hat⟩
        · simp only [Prod.mk.injEq] at h
          obtain ⟨_, h, _⟩ := h
          omega
theorem IsX.ends {l : List UInt8} {x : T} {m : List TA} {e : TA} {s : St} (h : IsX l x m e s) : Ends (m ++ [e]) := ends_two h.kind h.mid
structure Fine (x : T) : Prop where
  wf : WfF x.row
  num : NumF x.row
  size : x.size ≤ 200
  dep : x.tp.open_ ≤ 20
theorem IsX.fine {l : List UInt8} {x : T} {m : List TA} {e : TA} {s : St} (h : IsX l x m e s) : Fine x ∧ x.tx.text.length ≤ l.length + 600 ∧ s.n = x.size := by
  have hE := h.ends
  have hs0 : StOk (m ++ [e]) ⟨0, 0, 0⟩ := ⟨hE.pos, by simp, by simp⟩
  have hp : lv (m ++ [e]) FUEL 0 ⟨0, 0, 0⟩ = .ok x s := h.parse
  have hS := lv_snd hE (fun i => scan_v h.scan i) FUEL 0 (by omega) _ _ _ hs0 hp
  have hA := lv_st hE FUEL 0 _ _ _ hs0 hp
  obtain ⟨h1, h2⟩ := hS.zero
  have h3 := hS.size
  have h4 := hA.le
  simp only at h1 h2 h3
  have h5 : cw (m ++ [e]) s.at_ ≤ l.length := by
    have hl := scan_len l.length l 0 (Nat.le_refl _)
    rw [h.scan] at hl
    simp only at hl
    refine Nat.le_trans ?_ hl
    unfold cw
    have hq : ((m ++ [e]).map tlen).sum = (((m ++ [e]).take s.at_).map tlen).sum + (((m ++ [e]).drop s.at_).map tlen).sum := by
      rw [← List.sum_append, ← List.map_append, List.take_append_drop]
    omega
  refine ⟨⟨hS.wf, hS.num, by omega, by omega⟩, ?_, by omega⟩
  have ht : x.tx.text = flat x.tp.ps := by rw [T.tx_tp]; rfl
  rw [ht]
  omega
theorem print_fine {x : T} {t : List UInt8} (hm : NumF x.row) (h : printM x = (t, 0)) : Fine x ∧ t = x.tx.text := by
  unfold printM at h
  split at h
  · rename_i hc
    simp only [Prod.mk.injEq] at h
    omega
  · rename_i hc
    split at h
    · cases h
    · rename_i ho
      simp only [Prod.mk.injEq, and_true] at h
      have hc0 : (x.chk 0).1 = 0 := by omega
      obtain ⟨w, _, b⟩ := chk_wf x.row 0 hc0
      have := b (by omega)
      rw [row_size] at this
      have hoo : x.tx.open_ = x.tp.open_ := by rw [T.tx_tp]; rfl
      exact ⟨⟨w, hm, by omega, by omega⟩, h.symm⟩
theorem Fine.back {x : T} (h : Fine x) (hl : x.tx.text.length ≤ 8000) : rdM x.tx.text = (x, 0, 0) := by
  obtain ⟨ts, h1, h2⟩ := read_text h.wf h.num h.size h.dep
  unfold rdM
  rw [if_neg (by omega), h1]
  exact h2
end Go.Proofs.YtlmmfhbdebfgkaaGreatDoor.Ex
