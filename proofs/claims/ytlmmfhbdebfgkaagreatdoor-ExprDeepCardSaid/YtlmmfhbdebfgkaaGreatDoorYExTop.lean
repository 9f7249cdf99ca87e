/-
  ExTop.
-/
import Derived.Test.YtlmmfhbdebfgkaaGreatDoorYExSnd
import Derived.Test.YtlmmfhbdebfgkaaGreatDoorYExSh
namespace Go.Proofs.YtlmmfhbdebfgkaaGreatDoor.Ex
open Lx Va
set_option linter.unusedVariables false
set_option linter.unusedSimpArgs false
def rdM (l : List UInt8) : T × Nat × Nat := if 8000 < l.length then (⟨0, 0, [], .nil⟩, 5, 0) else match scanM l 0 with
  | (ts, none) => readM ts
  | (_, some p) => (⟨0, 0, [], .nil⟩, 24, p)
theorem tok_all {P : TA → Prop} (h0 : ∀ a, P ⟨0, [], 0, a⟩) (ht : ∀ l x, tokM l = some x → ∀ a, P ⟨x.kind, x.text, x.num, a⟩) : ∀ (n : Nat) (l : List UInt8) (a : Nat), l.length ≤ n → ∀ t ∈ (scanM l a).1, P t := by
  intro n
  induction n with
  | zero =>
    intro l a hl t htt
    have e : l = [] := List.eq_nil_of_length_eq_zero (by omega)
    subst e
    have : scanM [] a = ([⟨0, [], 0, a⟩], none) := rfl
    rw [this] at htt
    simp at htt
    subst htt
    exact h0 _
  | succ n ih =>
    intro l a hl t htt
    rw [scanM_eq] at htt
    cases hm : l.drop (blk false l) with
    | nil =>
      rw [hm] at htt
      simp at htt
      subst htt
      exact h0 _
    | cons c r =>
      rw [hm] at htt
      simp only at htt
      have hlen := congrArg List.length hm
      rw [List.length_drop] at hlen
      cases hk : tokM (c :: r) with
      | none => rw [hk] at htt; simp at htt
      | some x =>
        rw [hk] at htt
        simp only at htt
        have h1 := tok_len _ x hk
        have hd : ((c :: r).drop x.len).length = (c :: r).length - x.len := List.length_drop
        rcases List.mem_cons.1 htt with rfl | htt
        · exact ht _ x hk _
        · exact ih ((c :: r).drop x.len) _ (by omega) t htt
theorem tok_v (l : List UInt8) (x : Tok) (h : tokM l = some x) (a : Nat) : TokV ⟨x.kind, x.text, x.num, a⟩ := by
  cases l with
  | nil => simp [tokM] at h
  | cons c r =>
    rw [tokM_cons] at h
    by_cases h39 : c = 39
    · rw [if_pos h39] at h
      by_cases hn : nameB (r.takeWhile wordB) = true
      · rw [if_pos hn] at h
        obtain rfl := Option.some.inj h
        exact ⟨fun _ => hn, fun e => by simp at e, fun e => by simp at e⟩
      · rw [if_neg hn] at h; cases h
    · rw [if_neg h39] at h
      by_cases hb : letB c = true
      · rw [if_pos hb] at h
        by_cases hn : nameB ((c :: r).takeWhile wordB) = true
        · rw [if_pos hn] at h
          obtain rfl := Option.some.inj h
          exact ⟨fun _ => hn, fun e => by simp at e, fun e => by simp at e⟩
        · rw [if_neg hn] at h; cases h
      · rw [if_neg hb] at h
        by_cases hd : digB c = true
        · rw [if_pos hd] at h
          by_cases hn : digsOk ((c :: r).takeWhile digB) = true
          · rw [if_pos hn] at h
            obtain rfl := Option.some.inj h
            unfold digsOk at hn
            simp only [Bool.and_eq_true, decide_eq_true_eq] at hn
            exact ⟨fun e => by simp at e, fun _ => ⟨by simp only; omega, by simp only; omega⟩, fun e => by simp at e⟩
          · rw [if_neg hn] at h; cases h
        · rw [if_neg hd] at h
          by_cases h34 : c = 34
          · rw [if_pos h34] at h
            cases hq : quo (r.length + 1) r with
            | none => rw [hq] at h; cases h
            | some tn =>
              obtain ⟨t, n⟩ := tn
              rw [hq] at h
              simp only at h
              by_cases ht : t.length ≤ 64
              · rw [if_pos ht] at h
                obtain rfl := Option.some.inj h
                exact ⟨fun e => by simp at e, fun e => by simp at e, fun _ => ht⟩
              · rw [if_neg ht] at h; cases h
          · rw [if_neg h34] at h
            cases hf : signs.find? (fun s => s.isPrefixOf (c :: r)) with
            | none => rw [hf] at h; cases h
            | some s =>
              rw [hf] at h
              obtain rfl := Option.some.inj h
              exact ⟨fun e => by simp at e, fun e => by simp at e, fun e => by simp at e⟩
theorem tokV_end (a : Nat) : TokV ⟨0, [], 0, a⟩ := ⟨fun e => by simp at e, fun e => by simp at e, fun e => by simp at e⟩
theorem tk_of {P : TA → Prop} {ts : List TA} (h0 : P ⟨0, [], 0, 0⟩) (h : ∀ t ∈ ts, P t) (i : Nat) : P (tk ts i) := by
  unfold tk
  by_cases hi : i < ts.length
  · rw [List.getD_eq_getElem?_getD, List.getElem?_eq_getElem hi]
    exact h _ (List.getElem_mem _)
  · rw [List.getD_eq_getElem?_getD, List.getElem?_eq_none (by omega)]
    exact h0
theorem scan_v {l : List UInt8} {ts : List TA} {a : Nat} {o : Option Nat} (h : scanM l a = (ts, o)) (i : Nat) : TokV (tk ts i) := by
  refine tk_of (tokV_end 0) ?_ i
  have := tok_all (P := TokV) tokV_end tok_v l.length l a (Nat.le_refl _)
  rw [h] at this
  exact this
theorem scan_len : ∀ (n : Nat) (l : List UInt8) (a : Nat), l.length ≤ n → ((scanM l a).1.map tlen).sum ≤ l.length := by
  intro n
  induction n with
  | zero =>
    intro l a hl
    have e : l = [] := List.eq_nil_of_length_eq_zero (by omega)
    subst e
    have : scanM [] a = ([⟨0, [], 0, a⟩], none) := rfl
    rw [this]
    simp [tlen, bare, spB, spellM]
  | succ n ih =>
    intro l a hl
    rw [scanM_eq]
    cases hm : l.drop (blk false l) with
    | nil => simp [tlen, bare, spB, spellM]
    | cons c r =>
      simp only
      have hlen := congrArg List.length hm
      rw [List.length_drop] at hlen
      cases hk : tokM (c :: r) with
      | none => simp
      | some x =>
        simp only
        have h1 := tok_len _ x hk
        have hd : ((c :: r).drop x.len).length = (c :: r).length - x.len := List.length_drop
        have h2 := ih ((c :: r).drop x.len) (a + blk false l + x.len) (by omega)
        have h3 : tlen ⟨x.kind, x.text, x.num, a + blk false l⟩ = x.len := by
          unfold tlen bare spB
          simp only
          rw [spell_take _ x hk, List.length_take]; omega
        simp only [List.map_cons, List.sum_cons, h3]
        omega
theorem tokM_neP {l : List UInt8} {t : Tok} (h : tokM l = some t) : t.kind ≠ 0 := by
  unfold tokM at h
  split at h
  · cases h
  · simp only at h
    repeat' split at h
    all_goals first
      | (obtain rfl := Option.some.inj h; simp)
      | cases h
theorem scanF_endsP : ∀ (f : Nat) (l : List UInt8) (a : Nat) (ts : List TA), scanF f l a = (ts, none) → ∃ m e, ts = m ++ [e] ∧ e.kind = 0 ∧ ∀ t ∈ m, t.kind ≠ 0
  | 0, l, a, ts, h => by
    unfold scanF at h
    cases h
  | f + 1, l, a, ts, h => by
    unfold scanF at h
    simp only at h
    split at h
    · cases h
      exact ⟨[], _, rfl, rfl, by simp⟩
    · rename_i c r hm
      split at h
      · cases h
      · rename_i t ht
        obtain ⟨us, o, hu⟩ : ∃ us o, scanF f ((c :: r).drop t.len) (a + blk false l + t.len) = (us, o) := ⟨_, _, rfl⟩
        rw [hu] at h
        simp only [Prod.mk.injEq] at h
        obtain ⟨rfl, rfl⟩ := h
        obtain ⟨m, e, rfl, he, hk⟩ := scanF_endsP f _ _ us hu
        exact ⟨_ :: m, e, rfl, he, fun x hx => by
          rcases List.mem_cons.1 hx with rfl | hx
          · exact tokM_neP ht
          · exact hk x hx⟩
theorem scan_two {l : List UInt8} {ts : List TA} {a : Nat} (h : scanM l a = (ts, none)) : ∃ m e, ts = m ++ [e] ∧ e.kind = 0 ∧ ∀ t ∈ m, t.kind ≠ 0 := scanF_endsP _ l a ts h
theorem ends_two {m : List TA} {e : TA} (he : e.kind = 0) (hk : ∀ t ∈ m, t.kind ≠ 0) : Ends (m ++ [e]) := by
  refine ⟨by simp, fun i hi => ?_, ?_⟩
  · have h1 : i < m.length := by simp at hi; omega
    have e1 : tk (m ++ [e]) i = m[i] := by
      simp [tk, List.getD_eq_getElem?_getD, List.getElem?_append_left h1, h1]
    rw [e1]
    exact hk _ (List.getElem_mem _)
  · have e1 : tk (m ++ [e]) ((m ++ [e]).length - 1) = e := by simp [tk, List.getD_eq_getElem?_getD]
    rw [e1]; exact he
structure IsX (l : List UInt8) (x : T) (m : List TA) (e : TA) (s : St) : Prop where
  scan : scanM l 0 = (m ++ [e], none)
  kind : e.kind = 0
  mid : ∀ t ∈ m, t.kind ≠ 0
  parse : parseM (m ++ [e]) 0 = .ok x s
  at_ : s.at_ = m.length
theorem rd_ok {l : List UInt8} {x : T} {p : Nat} (h : rdM l = (x, 0, p)) : l.length ≤ 8000 ∧ p = 0 ∧ ∃ m e s, IsX l x m e s := by
  unfold rdM at h
  split at h
  · cases h
  · rename_i hl
    obtain ⟨ts, o, ho⟩ : ∃ ts o, scanM l 0 = (ts, o) := ⟨_, _, rfl⟩
    rw [ho] at h
    cases o with
    | some p => cases h
    | none =>
      obtain ⟨m, e, rfl, he, hm⟩ := scan_two ho
      have hE := ends_two he hm
      simp only at h
      unfold readM at h
      cases hp : parseM (m ++ [e]) 0 with
      | bad er a =>
        rw [hp] at h
        have := (parse_bad hE hp).1
        simp only [Prod.mk.injEq] at h
        obtain ⟨_, h, _⟩ := h
        omega
      | ok t s =>
        rw [hp] at h
        simp only at h
        split at h
        · rename_i hat
          simp only [Prod.mk.injEq] at h
          obtain ⟨rfl, _, rfl⟩ := h
          exact ⟨by omega, rfl, m, e, s, ho, he, hm, hp, by simpa using hat⟩
        · simp only [Prod.mk.injEq] at h
          obtain ⟨_, h, _⟩ := h
          omega
theorem IsX.ends {l : List UInt8} {x : T} {m : List TA} {e : TA} {s : St} (h : IsX l x m e s) : Ends (m ++ [e]) := ends_two h.kind h.mid
structure Fine (x : T) : Prop where
  wf : WfF x.row
  num : NumF x.row
  size : x.size ≤ 200
  dep : x.tp.open_ ≤ 20
theorem IsX.fine {l : List UInt8} {x : T} {m : List TA} {e : TA} {s : St} (h : IsX l x m e s) : Fine x ∧ x.tx.text.length ≤ l.length + 600 ∧ s.n = x.size := by
  have hE := h.ends
  have hs0 : StOk (m ++ [e]) ⟨0, 0, 0⟩ := ⟨hE.pos, by simp, by simp⟩
  have hp : lv (m ++ [e]) FUEL 0 ⟨0, 0, 0⟩ = .ok x s := h.parse
  have hS := lv_snd hE (fun i => scan_v h.scan i) FUEL 0 (by omega) _ _ _ hs0 hp
  have hA := lv_st hE FUEL 0 _ _ _ hs0 hp
  obtain ⟨h1, h2⟩ := hS.zero
  have h3 := hS.size
  have h4 := hA.le
  simp only at h1 h2 h3
  have h5 : cw (m ++ [e]) s.at_ ≤ l.length := by
    have hl := scan_len l.length l 0 (Nat.le_refl _)
    rw [h.scan] at hl
    simp only at hl
    refine Nat.le_trans ?_ hl
    unfold cw
    have hq : ((m ++ [e]).map tlen).sum = (((m ++ [e]).take s.at_).map tlen).sum + (((m ++ [e]).drop s.at_).map tlen).sum := by
      rw [← List.sum_append, ← List.map_append, List.take_append_drop]
    omega
  refine ⟨⟨hS.wf, hS.num, by omega, by omega⟩, ?_, by omega⟩
  have ht : x.tx.text = flat x.tp.ps := by rw [T.tx_tp]; rfl
  rw [ht]
  omega
theorem Fine.print {x : T} (h : Fine x) : printM x = (x.tx.text, 0) := by
  have hc : (x.chk 0).1 = 0 := (wf_chk x.row 0 h.wf (by rw [row_size]; have := h.size; omega)).1
  have ho : x.tx.open_ = x.tp.open_ := by rw [T.tx_tp]; rfl
  unfold printM
  rw [if_neg (by rw [hc]; simp), if_neg (by rw [ho]; have := h.dep; omega)]
theorem Fine.back {x : T} (h : Fine x) (hl : x.tx.text.length ≤ 8000) : rdM x.tx.text = (x, 0, 0) := by
  obtain ⟨ts, h1, h2⟩ := read_text h.wf h.num h.size h.dep
  unfold rdM
  rw [if_neg (by omega), h1]
  exact h2
theorem read_again {l : List UInt8} {x : T} {p : Nat} (h : rdM l = (x, 0, p)) (hl : l.length ≤ 7000) : printM x = (x.tx.text, 0) ∧ x.tx.text.length ≤ 8000 ∧ rdM x.tx.text = (x, 0, 0) := by
  obtain ⟨_, _, m, e, s, hx⟩ := rd_ok h
  obtain ⟨hf, ht, _⟩ := hx.fine
  exact ⟨hf.print, by omega, hf.back (by omega)⟩
theorem lift_bad {ts : List TA} {e a : Nat} {b : Nat} (hb : b ≤ 5) : ∀ (d lev : Nat), lev + d = b → ∀ (f : Nat) (s : St), lv ts f b s = .bad e a → lv ts (f + d) lev s = .bad e a
  | 0, lev, h, f, s, h1 => by rw [show lev = b by omega]; exact h1
  | d + 1, lev, h, f, s, h1 => by
    have ih := lift_bad hb d (lev + 1) (by omega) f s h1
    show lv ts (f + d + 1) lev s = _
    rw [lv_low (by omega), ih]
    rfl
theorem paren_sh {m : List TA} {e : TA} {l : List UInt8} {x : T} {s : St} (h : IsX l x m e s) {ts' : List TA} {d dn : Nat} (hg : Ag (m ++ [e]) ts' d) {i : Nat} (hi : i + 1 = d) (ho : bare (tk ts' i) = sg [40]) (hn : dn ≤ 200) {f : Nat} (hf : 130 ≤ f) :
    (lv ts' (f + 1) 5 ⟨i, dn, 0⟩ = .ok x ⟨d + m.length + 1, dn + x.size, 0⟩ ∧ dn + x.size ≤ 200) ∨ (∃ a, lv ts' (f + 1) 5 ⟨i, dn, 0⟩ = .bad 26 a) ∨ (dn ≠ 0 ∧ ∃ a, lv ts' (f + 1) 5 ⟨i, dn, 0⟩ = .bad 27 a) := by
  have hE := h.ends
  have hs0 : StOk (m ++ [e]) ⟨0, 0, 0⟩ := ⟨hE.pos, by simp, by simp⟩
  have hp : lv (m ++ [e]) FUEL 0 ⟨0, 0, 0⟩ = .ok x s := h.parse
  have hA := lv_st hE FUEL 0 _ _ _ hs0 hp
  have hsz := h.fine.2.2
  have hO := lv_sh (d := d) (dn := dn) (du := 1) hE hg FUEL f 0 (by omega) _ _ _ hs0 (by simp only; omega) (by simp only; omega) (by unfold need Mov; simp only; omega) hp
  have hM : Mov d dn 1 ⟨0, 0, 0⟩ = ⟨i + 1, dn, 0 + 1⟩ := by
    unfold Mov
    simp only [St.mk.injEq]
    exact ⟨by omega, by omega, trivial⟩
  rw [hM] at hO
  have hso : s.open_ = 0 := hA.op
  have hcl : bare (tk ts' (s.at_ + d)) = sg [41] := by
    have := hg.close
    rw [show (m ++ [e]).length - 1 + d = s.at_ + d by rw [h.at_]; simp] at this
    exact this
  have key : lv ts' (f + 1) 5 ⟨i, dn, 0⟩ = (lv ts' f 0 ⟨i + 1, dn, 0 + 1⟩).then fun y s2 => leaveR ts' [41] y s2 := by
    rw [lv5 (by rw [unAt_sg ho]; rfl), prim_sg ho]
    unfold groupR
    rw [if_neg (by simp)]
  rw [key]
  rcases hO with ⟨h1, h2⟩ | ⟨a, h1⟩ | ⟨h0, a, h1⟩
  · left
    rw [h1]
    refine ⟨?_, by omega⟩
    show leaveR ts' [41] x _ = _
    unfold leaveR
    simp only
    rw [isS_sg hcl, if_pos (by decide)]
    simp only [R.ok.injEq, St.mk.injEq, true_and]
    have := h.at_
    exact ⟨by omega, by omega, by omega⟩
  · exact .inr (.inl ⟨a, by rw [h1]; rfl⟩)
  · exact .inr (.inr ⟨h0, a, by rw [h1]; rfl⟩)
theorem scan_sign {s B : List UInt8} (h : NextOk (sg s) B) (a : Nat) : scanM (s ++ B) a = (⟨5, s, 0, a⟩ :: (scanM B (a + s.length)).1, (scanM B (a + s.length)).2) := by
  obtain ⟨hb, ht⟩ := h
  rw [spB_sign] at hb ht
  have hd : (s ++ B).drop s.length = B := by simp
  generalize hX : s ++ B = X at *
  rw [scanM_eq X, hb, List.drop_zero]
  cases X with
  | nil => simp [tokM] at ht
  | cons x y =>
    have ht2 : tokM (x :: y) = some ⟨5, s, 0, s.length⟩ := ht
    simp only [ht2, hd, Nat.add_zero]
theorem scan_at_any {l : List UInt8} {ts : List TA} (h : scanM l 0 = (ts, none)) (k : Nat) : ∃ us : List TA, scanM l k = (us, none) ∧ us.map bare = ts.map bare := by
  have hm := scan_move l.length l 0 k (Nat.le_refl _)
  rw [h, Nat.zero_add] at hm
  refine ⟨_, hm, ?_⟩
  simp [bare, Function.comp_def]
theorem scan_close {l : List UInt8} {x : T} {m : List TA} {e : TA} {s : St} (h : IsX l x m e s) (B : List UInt8) (k : Nat) : ∃ us : List TA, us.map bare = m.map bare ∧ scanM (l ++ 10 :: 41 :: B) k = (us ++ ⟨5, [41], 0, k + l.length + 1⟩ :: (scanM B (k + l.length + 2)).1, (scanM B (k + l.length + 2)).2) := by
  obtain ⟨us, h1, h2⟩ := scan_at_any h.scan k
  have h3 := scan_glue l.length l (41 :: B) k us (Nat.le_refl _) h1
  have h4 := scan_sign (s := [41]) (B := B) (next_any (by simp) B) (k + l.length + 1)
  have h5 : scanM (41 :: B) (k + l.length + 1) = (⟨5, [41], 0, k + l.length + 1⟩ :: (scanM B (k + l.length + 2)).1, (scanM B (k + l.length + 2)).2) := h4
  rw [h5] at h3
  refine ⟨us.dropLast, ?_, h3⟩
  rw [List.map_dropLast, h2]
  simp
theorem bare_of_map {a b : List TA} (h : a.map bare = b.map bare) (i : Nat) (hi : i < b.length) : bare (tk a i) = bare (tk b i) := by
  have hl : a.length = b.length := by have := congrArg List.length h; simpa using this
  have e := congrArg (fun q => q[i]?) h
  simp only [List.getElem?_map] at e
  unfold tk
  rw [List.getD_eq_getElem?_getD, List.getD_eq_getElem?_getD]
  rw [List.getElem?_eq_getElem (by omega), List.getElem?_eq_getElem hi] at e ⊢
  simpa using e
theorem tk_mid (p a q : List TA) (i : Nat) (hi : i < a.length) : tk (p ++ (a ++ q)) (i + p.length) = tk a i := by
  unfold tk
  rw [List.getD_eq_getElem?_getD, List.getD_eq_getElem?_getD, List.getElem?_append_right (by omega), Nat.add_sub_cancel, List.getElem?_append_left hi]
theorem tk_here (p : List TA) (t : TA) (q : List TA) : tk (p ++ t :: q) p.length = t := by
  unfold tk
  simp [List.getD]
theorem ag_of {m us : List TA} {e c : TA} (p q : List TA) (hu : us.map bare = m.map bare) (hk : e.kind = 0) (hc : bare c = sg [41]) : Ag (m ++ [e]) (p ++ (us ++ c :: q)) p.length := by
  have hl : us.length = m.length := by have := congrArg List.length hu; simpa using this
  refine ⟨fun i hi => ?_, ?_, ?_⟩
  · have him : i < m.length := by simp at hi; omega
    rw [tk_mid p us (c :: q) i (by omega), bare_of_map hu i him]
    congr 1
    unfold tk
    rw [List.getD_eq_getElem?_getD, List.getD_eq_getElem?_getD, List.getElem?_append_left him]
  · have e1 : tk (m ++ [e]) ((m ++ [e]).length - 1) = e := by simp [tk, List.getD_eq_getElem?_getD]
    rw [e1]; exact hk
  · have e2 : (m ++ [e]).length - 1 + p.length = (p ++ us).length := by simp; omega
    rw [e2, ← List.append_assoc, tk_here]
    exact hc
theorem read_paren {l : List UInt8} {x : T} {p : Nat} (h : rdM l = (x, 0, p)) (hl : l.length ≤ 7000) : (∃ q, rdM (40 :: (l ++ [10, 41])) = (x, 0, q)) ∨ ∃ y q, rdM (40 :: (l ++ [10, 41])) = (y, 26, q) := by
  obtain ⟨_, _, m, e, s, hx⟩ := rd_ok h
  obtain ⟨us, hu, hsc⟩ := scan_close hx [] 1
  have h0 := scan_sign (s := [40]) (B := l ++ [10, 41]) (next_any (by simp) _) 0
  have h1 : scanM (40 :: (l ++ [10, 41])) 0 = (⟨5, [40], 0, 0⟩ :: (scanM (l ++ [10, 41]) 1).1, (scanM (l ++ [10, 41]) 1).2) := h0
  have hE0 : scanM [] (1 + l.length + 2) = ([⟨0, [], 0, 1 + l.length + 2⟩], none) := rfl
  rw [hE0] at hsc
  rw [hsc] at h1
  simp only at h1
  have hul : us.length = m.length := by have := congrArg List.length hu; simpa using this
  have hg : Ag (m ++ [e]) ([⟨5, [40], 0, 0⟩] ++ (us ++ ⟨5, [41], 0, 1 + l.length + 1⟩ :: [⟨0, [], 0, 1 + l.length + 2⟩])) 1 := ag_of [⟨5, [40], 0, 0⟩] [⟨0, [], 0, 1 + l.length + 2⟩] hu hx.kind rfl
  have hts : ⟨5, [40], 0, 0⟩ :: (us ++ ⟨5, [41], 0, 1 + l.length + 1⟩ :: [⟨0, [], 0, 1 + l.length + 2⟩]) = [⟨5, [40], 0, 0⟩] ++ (us ++ ⟨5, [41], 0, 1 + l.length + 1⟩ :: [(⟨0, [], 0, 1 + l.length + 2⟩ : TA)]) := rfl
  rw [hts] at h1
  generalize hT : [⟨5, [40], 0, 0⟩] ++ (us ++ ⟨5, [41], 0, 1 + l.length + 1⟩ :: [(⟨0, [], 0, 1 + l.length + 2⟩ : TA)]) = ts' at *
  have hlen : ts'.length = m.length + 3 := by rw [← hT]; simp; omega
  have ho : bare (tk ts' 0) = sg [40] := by rw [← hT]; rfl
  have hend : (tk ts' (1 + m.length + 1)).kind = 0 := by
    rw [← hT]
    have e1 : [(⟨5, [40], 0, 0⟩ : TA)] ++ (us ++ ⟨5, [41], 0, 1 + l.length + 1⟩ :: [(⟨0, [], 0, 1 + l.length + 2⟩ : TA)]) = ([(⟨5, [40], 0, 0⟩ : TA)] ++ us ++ [⟨5, [41], 0, 1 + l.length + 1⟩]) ++ (⟨0, [], 0, 1 + l.length + 2⟩ : TA) :: [] := by simp
    have e2 : 1 + m.length + 1 = ([(⟨5, [40], 0, 0⟩ : TA)] ++ us ++ [(⟨5, [41], 0, 1 + l.length + 1⟩ : TA)]).length := by simp; omega
    rw [e1, e2, tk_here]
  have hrd : rdM (40 :: (l ++ [10, 41])) = readM ts' := by
    unfold rdM
    rw [if_neg (by simp; omega), h1]
  rw [hrd]
  unfold readM
  rcases paren_sh hx hg rfl ho (Nat.zero_le _) (f := 194) (by omega) with ⟨hk, _⟩ | ⟨a, hk⟩ | ⟨hk, _⟩
  · have hp : parseM ts' 0 = .ok x ⟨1 + m.length + 1, 0 + x.size, 0⟩ := lift (Nat.le_refl 5) 5 0 (by omega) 195 _ hk (fun k _ => opAt_no (by rw [hend]; decide) k)
    rw [hp]
    simp only
    rw [if_pos (by rw [hlen]; omega)]
    exact .inl ⟨_, rfl⟩
  · have hp : parseM ts' 0 = .bad 26 a := lift_bad (Nat.le_refl 5) 5 0 (by omega) 195 _ hk
    rw [hp]
    exact .inr ⟨⟨0, 0, [], .nil⟩, (tk ts' a).at_, rfl⟩
  · exact absurd rfl hk
theorem next_op {o : Int} (ho : o = 41 ∨ o = 40 ∨ o = 30 ∨ o = 31 ∨ o = 32 ∨ o = 33 ∨ o = 23 ∨ o = 24 ∨ o = 20 ∨ o = 21 ∨ o = 22) (r : List UInt8) : NextOk (sg (signL o)) (40 :: r) := by
  rcases ho with rfl | rfl | rfl | rfl | rfl | rfl | rfl | rfl | rfl | rfl | rfl
  all_goals
    refine next_sign (fun d hd => ?_) ⟨by rfl, by rfl⟩
    simp at hd
    subst hd
    exact ⟨by rfl, by rfl⟩
def joinT (a : List UInt8) (o : Int) (b : List UInt8) : List UInt8 := 40 :: (a ++ 10 :: 41 :: (signL o ++ 40 :: (b ++ [10, 41])))
theorem read_join {a b : List UInt8} {x y : T} {p q : Nat} (ha : rdM a = (x, 0, p)) (hb : rdM b = (y, 0, q)) (hla : a.length ≤ 3000) (hlb : b.length ≤ 3000) {o : Int} (ho : o = 41 ∨ o = 40 ∨ o = 30 ∨ o = 31 ∨ o = 32 ∨ o = 33 ∨ o = 23 ∨ o = 24 ∨ o = 20 ∨ o = 21 ∨ o = 22) :
    (∃ j, rdM (joinT a o b) = (⟨o, 0, [], two x y⟩, 0, j)) ∨ (∃ z j, rdM (joinT a o b) = (z, 26, j)) ∨ ∃ z j, rdM (joinT a o b) = (z, 27, j) := by
  obtain ⟨_, _, m1, e1, s1, hx⟩ := rd_ok ha
  obtain ⟨_, _, m2, e2, s2, hy⟩ := rd_ok hb
  obtain ⟨hsg, hsn⟩ := bin_sign ho
  have hbo : bound o ≤ 4 := by rcases ho with rfl | rfl | rfl | rfl | rfl | rfl | rfl | rfl | rfl | rfl | rfl <;> decide
  have hsl : (signL o).length ≤ 2 := by rcases ho with rfl | rfl | rfl | rfl | rfl | rfl | rfl | rfl | rfl | rfl | rfl <;> decide
  obtain ⟨us, hu, hs1⟩ := scan_close hx (signL o ++ 40 :: (b ++ [10, 41])) 1
  have hs2 := scan_sign (next_op ho (b ++ [10, 41])) (1 + a.length + 2)
  obtain ⟨K2, hK2⟩ : ∃ K, 1 + a.length + 2 + (signL o).length = K := ⟨_, rfl⟩
  rw [hK2] at hs2
  have hs3 : scanM (40 :: (b ++ [10, 41])) K2 = (⟨5, [40], 0, K2⟩ :: (scanM (b ++ [10, 41]) (K2 + 1)).1, (scanM (b ++ [10, 41]) (K2 + 1)).2) := scan_sign (s := [40]) (next_any (by simp) _) K2
  obtain ⟨vs, hv, hs4⟩ := scan_close hy [] (K2 + 1)
  have hE0 : scanM [] (K2 + 1 + b.length + 2) = ([⟨0, [], 0, K2 + 1 + b.length + 2⟩], none) := rfl
  rw [hE0] at hs4
  rw [hs4] at hs3
  rw [hs3] at hs2
  rw [hs2] at hs1
  have hs0 : scanM (joinT a o b) 0 = (⟨5, [40], 0, 0⟩ :: (scanM (a ++ 10 :: 41 :: (signL o ++ 40 :: (b ++ [10, 41]))) 1).1, (scanM (a ++ 10 :: 41 :: (signL o ++ 40 :: (b ++ [10, 41]))) 1).2) := scan_sign (s := [40]) (next_any (by simp) _) 0
  rw [hs1] at hs0
  simp only at hs0
  have hul : us.length = m1.length := by have := congrArg List.length hu; simpa using this
  have hvl : vs.length = m2.length := by have := congrArg List.length hv; simpa using this
  obtain ⟨P0, hP0⟩ : ∃ t : TA, t = ⟨5, [40], 0, 0⟩ := ⟨_, rfl⟩
  obtain ⟨C1, hC1⟩ : ∃ t : TA, t = ⟨5, [41], 0, 1 + a.length + 1⟩ := ⟨_, rfl⟩
  obtain ⟨OP, hOP⟩ : ∃ t : TA, t = ⟨5, signL o, 0, 1 + a.length + 2⟩ := ⟨_, rfl⟩
  obtain ⟨P2, hP2⟩ : ∃ t : TA, t = ⟨5, [40], 0, K2⟩ := ⟨_, rfl⟩
  obtain ⟨C2, hC2⟩ : ∃ t : TA, t = ⟨5, [41], 0, K2 + 1 + b.length + 1⟩ := ⟨_, rfl⟩
  obtain ⟨EE, hEE⟩ : ∃ t : TA, t = ⟨0, [], 0, K2 + 1 + b.length + 2⟩ := ⟨_, rfl⟩
  rw [← hP0, ← hC1, ← hOP, ← hP2, ← hC2, ← hEE] at hs0
  have hg1 : Ag (m1 ++ [e1]) ([P0] ++ (us ++ C1 :: (OP :: P2 :: (vs ++ [C2, EE])))) 1 := ag_of [P0] _ hu hx.kind (by rw [hC1]; rfl)
  have hg2 : Ag (m2 ++ [e2]) (([P0] ++ us ++ [C1, OP, P2]) ++ (vs ++ C2 :: [EE])) ([P0] ++ us ++ [C1, OP, P2]).length := ag_of _ _ hv hy.kind (by rw [hC2]; rfl)
  have hd2 : ([P0] ++ us ++ [C1, OP, P2]).length = m1.length + 4 := by simp; omega
  rw [hd2] at hg2
  have t1 : P0 :: (us ++ C1 :: OP :: P2 :: (vs ++ C2 :: [EE])) = [P0] ++ (us ++ C1 :: (OP :: P2 :: (vs ++ [C2, EE]))) := rfl
  have t2 : ([P0] ++ us ++ [C1, OP, P2]) ++ (vs ++ C2 :: [EE]) = [P0] ++ (us ++ C1 :: (OP :: P2 :: (vs ++ [C2, EE]))) := by simp
  have t3 : ([P0] ++ us ++ [C1]) ++ OP :: (P2 :: (vs ++ [C2, EE])) = [P0] ++ (us ++ C1 :: (OP :: P2 :: (vs ++ [C2, EE]))) := by simp
  have t4 : ([P0] ++ us ++ [C1, OP]) ++ P2 :: (vs ++ [C2, EE]) = [P0] ++ (us ++ C1 :: (OP :: P2 :: (vs ++ [C2, EE]))) := by simp
  have t5 : ([P0] ++ us ++ [C1, OP, P2] ++ vs ++ [C2]) ++ EE :: [] = [P0] ++ (us ++ C1 :: (OP :: P2 :: (vs ++ [C2, EE]))) := by simp
  have b1 : bare (tk ([P0] ++ (us ++ C1 :: (OP :: P2 :: (vs ++ [C2, EE])))) 0) = sg [40] := by
    show bare P0 = _
    rw [hP0]; rfl
  have b2 : bare (tk ([P0] ++ (us ++ C1 :: (OP :: P2 :: (vs ++ [C2, EE])))) (m1.length + 2)) = sg (signL o) := by
    rw [← t3, show m1.length + 2 = ([P0] ++ us ++ [C1]).length by simp; omega, tk_here, hOP]; rfl
  have b3 : bare (tk ([P0] ++ (us ++ C1 :: (OP :: P2 :: (vs ++ [C2, EE])))) (m1.length + 3)) = sg [40] := by
    rw [← t4, show m1.length + 3 = ([P0] ++ us ++ [C1, OP]).length by simp; omega, tk_here, hP2]; rfl
  have b4 : (tk ([P0] ++ (us ++ C1 :: (OP :: P2 :: (vs ++ [C2, EE])))) (m1.length + 4 + m2.length + 1)).kind = 0 := by
    rw [← t5, show m1.length + 4 + m2.length + 1 = ([P0] ++ us ++ [C1, OP, P2] ++ vs ++ [C2]).length by simp; omega, tk_here, hEE]
  have hlen : ([P0] ++ (us ++ C1 :: (OP :: P2 :: (vs ++ [C2, EE])))).length = m1.length + m2.length + 6 := by simp; omega
  rw [t2] at hg2
  rw [t1] at hs0
  generalize [P0] ++ (us ++ C1 :: (OP :: P2 :: (vs ++ [C2, EE]))) = ts' at *
  have hrd : rdM (joinT a o b) = readM ts' := by
    unfold rdM
    rw [if_neg (by unfold joinT; simp; omega), hs0]
  rw [hrd]
  unfold readM
  have hstop : ∀ lev, Stop ts' lev (m1.length + 4 + m2.length + 1) := fun lev k _ => opAt_no (by rw [b4]; decide) k
  obtain ⟨f, hf⟩ : ∃ f, f + 1 + (4 - bound o) + 1 + bound o = 200 := ⟨194, by omega⟩
  have hpar : parseM ts' 0 = lv ts' (f + 1 + (4 - bound o) + 1 + bound o) 0 ⟨0, 0, 0⟩ := by rw [hf]; rfl
  have hbad : ∀ {er j}, lv ts' (f + 1 + (4 - bound o) + 1) (bound o) ⟨0, 0, 0⟩ = .bad er j → parseM ts' 0 = .bad er j := fun h => by
    rw [hpar]
    exact lift_bad (b := bound o) (by omega) (bound o) 0 (by omega) _ _ h
  rcases paren_sh hx hg1 rfl b1 (Nat.zero_le _) (f := f) (by omega) with ⟨hk, hk2⟩ | ⟨j, hk⟩ | ⟨hk, _⟩
  · have hl : lv ts' (f + 1 + (4 - bound o)) (bound o + 1) ⟨0, 0, 0⟩ = .ok x ⟨1 + m1.length + 1, 0 + x.size, 0⟩ := lift (Nat.le_refl 5) (4 - bound o) (bound o + 1) (by omega) (f + 1) _ hk (fun k hkk => by
      show opAt k (tk ts' (1 + m1.length + 1)) = none
      rw [show 1 + m1.length + 1 = m1.length + 2 by omega, opAt_sg b2]
      exact hsn k (by omega))
    rw [show 1 + m1.length + 1 = m1.length + 2 by omega, Nat.zero_add] at hl
    have hstep : lv ts' (f + 1 + (4 - bound o) + 1) (bound o) ⟨0, 0, 0⟩ = loopR (lv ts' (f + 1 + (4 - bound o)) (bound o + 1)) ts' (bound o) 201 x ⟨m1.length + 2, x.size, 0⟩ := by
      rw [lv_low (by omega), hl]; rfl
    by_cases h200 : x.size = 200
    · have : lv ts' (f + 1 + (4 - bound o) + 1) (bound o) ⟨0, 0, 0⟩ = .bad 27 (m1.length + 2) := by
        rw [hstep, loopR, opAt_sg b2, hsg]
        simp only
        rw [if_pos h200]
      rw [hbad this]
      exact .inr (.inr ⟨⟨0, 0, [], .nil⟩, (tk ts' (m1.length + 2)).at_, rfl⟩)
    · rcases paren_sh hy hg2 (i := m1.length + 3) rfl b3 (dn := x.size + 1) (by omega) (f := f) (by omega) with ⟨hr, hr2⟩ | ⟨j, hr⟩ | ⟨_, j, hr⟩
      · have hrl : lv ts' (f + 1 + (4 - bound o)) (bound o + 1) ⟨m1.length + 2 + 1, x.size + 1, 0⟩ = .ok y ⟨m1.length + 4 + m2.length + 1, x.size + 1 + y.size, 0⟩ := lift (Nat.le_refl 5) (4 - bound o) (bound o + 1) (by omega) (f + 1) _ hr (hstop _)
        have : lv ts' (f + 1 + (4 - bound o) + 1) (bound o) ⟨0, 0, 0⟩ = .ok ⟨o, 0, [], two x y⟩ ⟨m1.length + 4 + m2.length + 1, x.size + 1 + y.size, 0⟩ := by
          rw [hstep, loopR_op (by rw [opAt_sg b2]; exact hsg) h200 hrl]
          split
          · rfl
          · exact loopR_stop (hstop _ _ (Nat.le_refl _))
        have hp : parseM ts' 0 = .ok ⟨o, 0, [], two x y⟩ ⟨m1.length + 4 + m2.length + 1, x.size + 1 + y.size, 0⟩ := by
          rw [hpar]
          exact lift (b := bound o) (by omega) (bound o) 0 (by omega) _ _ this (hstop 0)
        rw [hp]
        simp only
        rw [if_pos (by rw [hlen]; omega)]
        exact .inl ⟨_, rfl⟩
      · have hrl : lv ts' (f + 1 + (4 - bound o)) (bound o + 1) ⟨m1.length + 2 + 1, x.size + 1, 0⟩ = .bad 26 j := lift_bad (Nat.le_refl 5) (4 - bound o) (bound o + 1) (by omega) (f + 1) _ hr
        have : lv ts' (f + 1 + (4 - bound o) + 1) (bound o) ⟨0, 0, 0⟩ = .bad 26 j := by
          rw [hstep, loopR, opAt_sg b2, hsg]
          simp only
          rw [if_neg h200, hrl]; rfl
        rw [hbad this]
        exact .inr (.inl ⟨⟨0, 0, [], .nil⟩, (tk ts' j).at_, rfl⟩)
      · have hrl : lv ts' (f + 1 + (4 - bound o)) (bound o + 1) ⟨m1.length + 2 + 1, x.size + 1, 0⟩ = .bad 27 j := lift_bad (Nat.le_refl 5) (4 - bound o) (bound o + 1) (by omega) (f + 1) _ hr
        have : lv ts' (f + 1 + (4 - bound o) + 1) (bound o) ⟨0, 0, 0⟩ = .bad 27 j := by
          rw [hstep, loopR, opAt_sg b2, hsg]
          simp only
          rw [if_neg h200, hrl]; rfl
        rw [hbad this]
        exact .inr (.inr ⟨⟨0, 0, [], .nil⟩, (tk ts' j).at_, rfl⟩)
  · have : lv ts' (f + 1 + (4 - bound o) + 1) (bound o) ⟨0, 0, 0⟩ = .bad 26 j := by
      rw [lv_low (by omega), lift_bad (Nat.le_refl 5) (4 - bound o) (bound o + 1) (by omega) (f + 1) _ hk]; rfl
    rw [hbad this]
    exact .inr (.inl ⟨⟨0, 0, [], .nil⟩, (tk ts' j).at_, rfl⟩)
  · exact absurd rfl hk
end Go.Proofs.YtlmmfhbdebfgkaaGreatDoor.Ex
