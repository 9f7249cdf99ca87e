/-
  ExScn.
-/
import Derived.Test.YtlmmfhbdebfgkaaGreatDoorYExPrsB
namespace Go.Proofs.YtlmmfhbdebfgkaaGreatDoor.Ex
open Lx Va
set_option linter.unusedVariables false
set_option linter.unusedSimpArgs false
def NextOk (t : Bare) (B : List UInt8) : Prop := blk false (spB t ++ B) = 0 ∧ tokM (spB t ++ B) = some ⟨t.1, t.2.1, t.2.2, (spB t).length⟩
def Sp : List Pc → List UInt8 → Prop
  | [], _ => True
  | none :: r, Z => Sp r Z
  | some t :: r, Z => NextOk t (flat r ++ Z) ∧ Sp r Z
theorem Sp.mk : ∀ {a b : List Pc} {Z : List UInt8}, Sp a (flat b ++ Z) → Sp b Z → Sp (a ++ b) Z
  | [], _, _, _, h => h
  | none :: r, b, Z, h1, h2 => Sp.mk (a := r) h1 h2
  | some t :: r, b, Z, h1, h2 => by
    refine ⟨?_, Sp.mk (a := r) h1.2 h2⟩
    show NextOk t (flat (r ++ b) ++ Z)
    rw [flat_append, List.append_assoc]
    exact h1.1
theorem scan_flat : ∀ (ps : List Pc) (Z : List UInt8) (a : Nat), Sp ps Z → ∃ ts : List TA, scanM (flat ps ++ Z) a = (ts ++ (scanM Z (a + (flat ps).length)).1, (scanM Z (a + (flat ps).length)).2) ∧ ts.map bare = toks ps
  | [], Z, a, _ => ⟨[], by simp [flat], rfl⟩
  | none :: r, Z, a, h => by
    obtain ⟨ts, h1, h2⟩ := scan_flat r Z (a + 1) h
    refine ⟨ts, ?_, by rw [toks_none]; exact h2⟩
    have e : flat (none :: r) ++ Z = 32 :: (flat r ++ Z) := rfl
    have e2 : a + (flat (none :: r)).length = a + 1 + (flat r).length := by rw [flat_cons]; simp [spP]; omega
    rw [e, scan_white 32 _ _ rfl, h1, e2]
  | some t :: r, Z, a, ⟨⟨hb, ht⟩, h⟩ => by
    obtain ⟨ts, h1, h2⟩ := scan_flat r Z (a + (spB t).length) h
    have e : flat (some t :: r) ++ Z = spB t ++ (flat r ++ Z) := by rw [flat_cons, List.append_assoc]; rfl
    have e2 : a + (flat (some t :: r)).length = a + (spB t).length + (flat r).length := by rw [flat_cons]; simp [spP]; omega
    refine ⟨⟨t.1, t.2.1, t.2.2, a⟩ :: ts, ?_, by rw [toks_some, List.map_cons, h2]; rfl⟩
    have hd : (spB t ++ (flat r ++ Z)).drop (spB t).length = flat r ++ Z := by simp
    rw [e, e2]
    generalize hX : spB t ++ (flat r ++ Z) = X at *
    rw [scanM_eq X, hb, List.drop_zero]
    cases X with
    | nil => simp [tokM] at ht
    | cons x y =>
      simp only [ht, hd, Nat.add_zero]
      rw [h1]
      rfl
def softB (c : UInt8) : Bool := c == 32 || c == 41 || c == 44 || c == 93 || c == 40 || c == 46
def Soft (B : List UInt8) : Prop := ∀ c, B.head? = some c → softB c = true
theorem soft_not (c : UInt8) (h : softB c = true) : wordB c = false ∧ digB c = false := by
  unfold softB at h
  simp only [Bool.or_eq_true, beq_iff_eq] at h
  rcases h with ((((rfl | rfl) | rfl) | rfl) | rfl) | rfl <;> decide
theorem soft_cons {c : UInt8} {r : List UInt8} (h : softB c = true) : Soft (c :: r) := fun d hd => by simp at hd; subst hd; exact h
theorem takeWhile_all (p : UInt8 → Bool) (l q : List UInt8) (hl : ∀ c ∈ l, p c = true) (hq : ∀ c, q.head? = some c → p c = false) : (l ++ q).takeWhile p = l := by
  induction l with
  | nil =>
    cases q with
    | nil => rfl
    | cons c s => rw [List.nil_append, List.takeWhile_cons, hq c rfl]; simp
  | cons c r ih => rw [List.cons_append, List.takeWhile_cons, if_pos (hl c (by simp)), ih fun d hd => hl d (by simp [hd])]
theorem blk_ne {c : UInt8} {r : List UInt8} (hw : whiteB c = false) (hc : c ≠ 47) : blk false (c :: r) = 0 := by
  rw [blk_f, if_neg (by rw [hw]; decide), if_neg (fun h => hc h.1)]
theorem let_not (c : UInt8) (h : letB c = true) : c ≠ 39 ∧ whiteB c = false ∧ c ≠ 47 ∧ c ≠ 61 ∧ c ≠ 62 ∧ c ≠ 46 := by
  have : ∀ i : Fin 256, letB (UInt8.ofNat i.val) = true → UInt8.ofNat i.val ≠ 39 ∧ whiteB (UInt8.ofNat i.val) = false ∧ UInt8.ofNat i.val ≠ 47 ∧ UInt8.ofNat i.val ≠ 61 ∧ UInt8.ofNat i.val ≠ 62 ∧ UInt8.ofNat i.val ≠ 46 := by decide +kernel
  have h1 := this ⟨c.toNat, c.toNat_lt⟩
  simp only [UInt8.ofNat_toNat] at h1
  exact h1 h
theorem dig_not (c : UInt8) (h : digB c = true) : c ≠ 39 ∧ whiteB c = false ∧ c ≠ 47 ∧ letB c = false ∧ c ≠ 61 ∧ c ≠ 62 := by
  have : ∀ i : Fin 256, digB (UInt8.ofNat i.val) = true → UInt8.ofNat i.val ≠ 39 ∧ whiteB (UInt8.ofNat i.val) = false ∧ UInt8.ofNat i.val ≠ 47 ∧ letB (UInt8.ofNat i.val) = false ∧ UInt8.ofNat i.val ≠ 61 ∧ UInt8.ofNat i.val ≠ 62 := by decide +kernel
  have h1 := this ⟨c.toNat, c.toNat_lt⟩
  simp only [UInt8.ofNat_toNat] at h1
  exact h1 h
theorem nameB_head {s : List UInt8} (h : nameB s = true) : ∃ c r, s = c :: r ∧ letB c = true := by
  cases s with
  | nil => simp [nameB] at h
  | cons c r => simp [nameB] at h; exact ⟨c, r, rfl, h.1.1⟩
theorem next_name {t : List UInt8} {B : List UInt8} (ht : nameB t = true) (hB : Soft B) : NextOk (1, t, 0) B := by
  obtain ⟨c, r, rfl, hc⟩ := nameB_head ht
  have hn := let_not c hc
  have e : spB (1, c :: r, 0) = c :: r := spB_name _
  have hw : (c :: r ++ B).takeWhile wordB = c :: r := takeWhile_all _ _ _ (nameB_ne ht).2.2 fun d hd => (soft_not d (hB d hd)).1
  rw [List.cons_append] at hw
  refine ⟨by rw [e, List.cons_append]; exact blk_ne hn.2.1 hn.2.2.1, ?_⟩
  rw [e, List.cons_append, tokM_cons, if_neg hn.1, if_pos hc]
  simp only [hw]
  rw [if_pos ht]
theorem next_sym {t : List UInt8} {B : List UInt8} (ht : nameB t = true) (hB : Soft B) : NextOk (4, t, 0) B := by
  have e : spB (4, t, 0) = 39 :: t := by simp [spB, spellM]
  have hw : (t ++ B).takeWhile wordB = t := takeWhile_all _ _ _ (nameB_ne ht).2.2 fun d hd => (soft_not d (hB d hd)).1
  refine ⟨by rw [e, List.cons_append]; exact blk_ne (by decide) (by decide), ?_⟩
  rw [e, List.cons_append, tokM_cons, if_pos rfl]
  simp only [hw]
  rw [if_pos ht]
  rfl
theorem digs_head : ∀ n : Nat, 1 ≤ n → (digs n).head? ≠ some 48 := by
  intro n
  induction n using Nat.strongRecOn with
  | ind n ih =>
    intro h
    rw [digs]
    by_cases hn : n < 10
    · rw [dif_pos hn]
      simp only [List.head?_cons, ne_eq, Option.some.injEq]
      intro e
      have := congrArg UInt8.toNat e
      rw [dig_nat n hn] at this
      simp at this
      omega
    · rw [dif_neg hn]
      have h1 := ih (n / 10) (by omega) (by omega)
      have h2 := (digs_dig (n / 10)).2
      cases hd : digs (n / 10) with
      | nil => exact absurd hd h2
      | cons c r => rw [hd] at h1; simpa using h1
theorem next_int {n : Int} {B : List UInt8} (h0 : 0 ≤ n) (hm : n ≤ 9223372036854775807) (hB : Soft B) : NextOk (2, decZ n, n) B := by
  have e : spB (2, decZ n, n) = decZ n := by simp [spB, spellM]
  have ed : decZ n = digs n.toNat := by unfold decZ; rw [if_neg (by omega)]
  obtain ⟨hd, hne⟩ := digs_dig n.toNat
  have hu := undig_digs n.toNat
  have hok : digsOk (digs n.toNat) = true := by
    unfold digsOk
    rw [hu]
    simp only [Bool.and_eq_true, Bool.or_eq_true, beq_iff_eq, bne_iff_ne, decide_eq_true_eq]
    refine ⟨?_, by omega⟩
    by_cases h : n.toNat = 0
    · left; rw [h]; rw [digs]; rfl
    · right; exact digs_head _ (by omega)
  rw [NextOk, e, ed]
  simp only
  have hw : (digs n.toNat ++ B).takeWhile digB = digs n.toNat := takeWhile_all _ _ _ hd fun d hd => (soft_not d (hB d hd)).2
  have hnn : ((n.toNat : Nat) : Int) = n := by omega
  cases hc : digs n.toNat with
  | nil => exact absurd hc hne
  | cons c r =>
    rw [hc] at hd hu hok hw
    have hdc := dig_not c (hd c (by simp))
    rw [List.cons_append] at hw ⊢
    refine ⟨blk_ne hdc.2.1 hdc.2.2.1, ?_⟩
    rw [tokM_cons, if_neg hdc.1, if_neg (by rw [hdc.2.2.2.1]; decide), if_pos (hd c (by simp))]
    simp only [hw]
    rw [if_pos hok, hu, hnn]
theorem esc_head (c : UInt8) (r : List UInt8) : (esc c ++ r).head? ≠ some 34 := by
  unfold esc
  split
  · simp
  · split
    · simp
    · rename_i h
      simp only [Bool.or_eq_true, beq_iff_eq, not_or] at h
      simpa using h.1
theorem quo_esc : ∀ (t B : List UInt8) (f : Nat), t.length < f → quo f (escT t ++ 34 :: B) = some (t, (escT t).length + 1)
  | [], B, f, h => by
    obtain ⟨f, rfl⟩ : ∃ g, f = g + 1 := ⟨f - 1, by simp at h; omega⟩
    rfl
  | c :: t, B, f, h => by
    obtain ⟨f, rfl⟩ : ∃ g, f = g + 1 := ⟨f - 1, by omega⟩
    have e : escT (c :: t) ++ 34 :: B = esc c ++ (escT t ++ 34 :: B) := by simp [escT]
    have e2 : escT (c :: t) = esc c ++ escT t := by simp [escT]
    rw [e, quo, if_neg (esc_head c _), unesc_esc]
    simp only [↓reduceIte]
    rw [quo_esc t B f (by simp at h; omega), e2]
    simp; omega
theorem escT_ge (t : List UInt8) : t.length ≤ (escT t).length := by
  induction t with
  | nil => simp
  | cons c r ih =>
    have e2 : escT (c :: r) = esc c ++ escT r := by simp [escT]
    have := List.length_pos_iff.2 (esc_ne c)
    rw [e2, List.length_append, List.length_cons]; omega
theorem next_text {t B : List UInt8} (h : t.length ≤ 64) : NextOk (3, t, 0) B := by
  have e : spB (3, t, 0) ++ B = 34 :: (escT t ++ 34 :: B) := by simp [spB, spellM]
  have e2 : (spB (3, t, 0)).length = (escT t).length + 1 + 1 := by simp [spB, spellM]
  have hl := escT_ge t
  rw [NextOk, e, e2]
  refine ⟨blk_ne (by decide) (by decide), ?_⟩
  rw [tokM_cons, if_neg (by decide), if_neg (by decide), if_neg (by decide), if_pos rfl, quo_esc t B _ (by simp; omega)]
  simp only
  rw [if_pos h]
theorem next_sign {s B : List UInt8} (h1 : ∀ c, B.head? = some c → blk false (s ++ [c]) = 0 ∧ tokM (s ++ [c]) = some ⟨5, s, 0, s.length⟩) (h0 : blk false s = 0 ∧ tokM s = some ⟨5, s, 0, s.length⟩) : NextOk (sg s) B := by
  have e : spB (sg s) = s := spB_sign s
  rw [NextOk, e]
  cases B with
  | nil => rw [List.append_nil]; exact h0
  | cons c r =>
    obtain ⟨hb, ht⟩ := h1 c rfl
    have e2 : s ++ c :: r = (s ++ [c]) ++ r := by simp
    have hx := tok_append (s ++ [c]) r _ ht (.inl (by simp))
    rw [e2]
    refine ⟨?_, hx⟩
    cases s with
    | nil => simp [tokM] at h0
    | cons a q =>
      have hne : ¬ whiteB a = true := by
        intro hw
        have h := h0.1
        rw [blk_f, if_pos hw] at h
        omega
      rw [List.cons_append] at hb ⊢
      rw [blk_f, if_neg hne] at hb
      rw [List.cons_append, blk_f, if_neg hne]
      by_cases hc : a = 47 ∧ (q ++ [c]).head? = some 47
      · rw [if_pos hc] at hb; omega
      · rw [if_neg]
        rintro ⟨g1, g2⟩
        apply hc
        refine ⟨g1, ?_⟩
        cases q with
        | nil => simpa using g2
        | cons b q => simpa using g2
theorem all_bytes {p : UInt8 → Bool} (h : ∀ i : Fin 256, p (UInt8.ofNat i.val) = true) (c : UInt8) : p c = true := by
  have h1 := h ⟨c.toNat, c.toNat_lt⟩
  simp only [UInt8.ofNat_toNat] at h1
  exact h1
def sigB (s : List UInt8) (c : UInt8) : Bool := blk false (s ++ [c]) == 0 && tokM (s ++ [c]) == some ⟨5, s, 0, s.length⟩
theorem sigB_iff {s : List UInt8} {c : UInt8} (h : sigB s c = true) : blk false (s ++ [c]) = 0 ∧ tokM (s ++ [c]) = some ⟨5, s, 0, s.length⟩ := by
  unfold sigB at h
  simpa using h
theorem next_any {s : List UInt8} (hs : s = [40] ∨ s = [41] ∨ s = [91] ∨ s = [93] ∨ s = [44]) (B : List UInt8) : NextOk (sg s) B := by
  rcases hs with rfl | rfl | rfl | rfl | rfl
  all_goals exact next_sign (fun c _ => sigB_iff (all_bytes (p := fun c => sigB _ c) (by decide +kernel) c)) ⟨by rfl, by rfl⟩
theorem next_un {s B : List UInt8} (hs : s = [33] ∨ s = [45]) (hB : ∀ c, B.head? = some c → c ≠ 61 ∧ c ≠ 62) : NextOk (sg s) B := by
  have key : ∀ c, sigB s c = true ∨ c = 61 ∨ c = 62 := by
    intro c
    rcases hs with rfl | rfl
    · have h := all_bytes (p := fun c => (c == 61 || c == 62) || sigB [33] c) (by decide +kernel) c
      simp only [Bool.or_eq_true, beq_iff_eq] at h
      rcases h with (h | h) | h
      · exact .inr (.inl h)
      · exact .inr (.inr h)
      · exact .inl h
    · have h := all_bytes (p := fun c => (c == 61 || c == 62) || sigB [45] c) (by decide +kernel) c
      simp only [Bool.or_eq_true, beq_iff_eq] at h
      rcases h with (h | h) | h
      · exact .inr (.inl h)
      · exact .inr (.inr h)
      · exact .inl h
  refine next_sign (fun c hc => ?_) (by rcases hs with rfl | rfl <;> exact ⟨by rfl, by rfl⟩)
  rcases key c with h | h | h
  · exact sigB_iff h
  · exact absurd h (hB c hc).1
  · exact absurd h (hB c hc).2
theorem next_dot {c : UInt8} {r : List UInt8} (h : letB c = true) : NextOk (sg [46]) (c :: r) := by
  refine next_sign (fun d hd => ?_) ⟨by rfl, by rfl⟩
  simp at hd
  subst hd
  have h2 := all_bytes (p := fun c => !letB c || sigB [46] c) (by decide +kernel) c
  simp only [h, Bool.not_true, Bool.false_or] at h2
  exact sigB_iff h2
theorem next_bin {o : Int} (ho : o = 41 ∨ o = 40 ∨ o = 30 ∨ o = 31 ∨ o = 32 ∨ o = 33 ∨ o = 23 ∨ o = 24 ∨ o = 20 ∨ o = 21 ∨ o = 22) (r : List UInt8) : NextOk (sg (signL o)) (32 :: r) := by
  rcases ho with rfl | rfl | rfl | rfl | rfl | rfl | rfl | rfl | rfl | rfl | rfl
  all_goals
    refine next_sign (fun d hd => ?_) ⟨by rfl, by rfl⟩
    simp at hd
    subst hd
    exact ⟨by rfl, by rfl⟩
def NumF : F → Prop
  | .nil => True
  | .cons _ n _ a r => n ≤ 9223372036854775807 ∧ NumF a ∧ NumF r
def Hd (l : List Pc) : Prop := ∃ c r, flat l = c :: r ∧ c ≠ 61 ∧ c ≠ 62
theorem Hd.app {a b : List Pc} (h : Hd a) : Hd (a ++ b) := by
  obtain ⟨c, r, e, h1⟩ := h
  exact ⟨c, r ++ flat b, by rw [flat_append, e]; rfl, h1⟩
theorem Hd.paren (l : List Pc) : Hd (some (sg [40]) :: l) := ⟨40, flat l, by rw [flat_cons]; simp [spP, spB_sign], by decide, by decide⟩
theorem Hd.within {y : Tp} (h : Hd y.ps) (k : Nat) : Hd (y.within k).1 := by
  unfold Tp.within
  split
  · exact Hd.paren _
  · exact h
theorem hd_sign {s : List UInt8} {l : List Pc} (h : s = [91] ∨ s = [33] ∨ s = [45]) : Hd (some (sg s) :: l) := by
  rcases h with rfl | rfl | rfl
  all_goals exact ⟨_, flat l, by rw [flat_cons]; simp only [spP, spB_sign]; rfl, by decide, by decide⟩
theorem hd_name {t : List UInt8} {l : List Pc} (h : nameB t = true) : Hd (some (1, t, 0) :: l) := by
  obtain ⟨c, r, rfl, hc⟩ := nameB_head h
  have := let_not c hc
  exact ⟨c, r ++ flat l, by rw [flat_cons]; simp [spP, spB_name], this.2.2.2.1, this.2.2.2.2.1⟩
theorem named_six {o : Int} {t : List UInt8} (h : namedB o t = true) (ho : o = 4 ∨ o = 6 ∨ o = 7) : nameB t = true := by
  unfold namedB at h
  rcases ho with rfl | rfl | rfl <;> simp at h
  · exact h
  · exact h.1
  · exact h
theorem hd_leaf {o n : Int} {t : List UInt8} (hf : Frm o n t 0) (hn : namedB o t = true) (ho : o = 1 ∨ o = 2 ∨ o = 3 ∨ o = 4 ∨ o = 6 ∨ o = 7) : Hd (leafP o n t) := by
  rcases ho with rfl | rfl | rfl | rfl | rfl | rfl
  · have ed : decZ n = digs n.toNat := by unfold decZ; rw [if_neg (by have := hf.pos; omega)]
    obtain ⟨hd, hne⟩ := digs_dig n.toNat
    cases hc : digs n.toNat with
    | nil => exact absurd hc hne
    | cons c r =>
      rw [hc] at hd ed
      have := dig_not c (hd c (by simp))
      exact ⟨c, r, by simp [leafP, flat, spP, spB, spellM, ed], this.2.2.2.2.1, this.2.2.2.2.2⟩
  · exact ⟨34, escT t ++ [34], by simp [leafP, flat, spP, spB, spellM], by decide, by decide⟩
  · by_cases h : n = 1
    · exact ⟨116, _, by simp [leafP, flat, spP, spB_name, h, wTrue]; rfl, by decide, by decide⟩
    · exact ⟨102, _, by simp [leafP, flat, spP, spB_name, h, wFalse]; rfl, by decide, by decide⟩
  · exact ⟨39, t, by simp [leafP, flat, spP, spB, spellM], by decide, by decide⟩
  · exact hd_name (named_six hn (by simp))
  · exact hd_name (t := wMsg) (by decide)
theorem callW_name (o : Int) : nameB (callW o) = true := by
  unfold callW
  split
  · decide
  · split <;> decide
theorem head_all : ∀ f : F, WfF f → AllF (fun x => Hd x.tp.ps) f
  | .nil, _ => trivial
  | .cons o n t a r, ⟨h1, h2, h3, h4⟩ => by
    refine ⟨?_, head_all r h4⟩
    have ha := head_all a h3
    have hf := frm h1
    show Hd (T.tp ⟨o, n, t, a⟩).ps
    rcases node_kinds hf with ⟨ho, rfl⟩ | ⟨rfl, _⟩ | ⟨ho, x, rfl⟩ | ⟨rfl, x, rfl⟩ | ⟨ho, x, y, rfl⟩ | ⟨ho, x, y, rfl⟩
    · rw [tp_leaf ho]; exact hd_leaf hf h2 ho
    · rw [tp_list]; exact hd_sign (by simp)
    · rw [tp_un ho]; exact hd_sign (by split <;> simp)
    · rw [tp_call (.inl rfl)]; exact hd_name (callW_name _)
    · rw [tp_call (.inr ho)]; exact hd_name (callW_name _)
    · rw [tp_two ho]
      have hx : Hd x.tp.ps := ha.1
      exact (hx.within _).app
def SpT (x : T) : Prop := ∀ Z, Soft Z → Sp x.tp.ps Z
theorem SpT.within {x : T} (h : SpT x) (k : Nat) {Z : List UInt8} (hZ : Soft Z) : Sp (x.tp.within k).1 Z := by
  unfold Tp.within
  split
  · refine ⟨next_any (by simp) _, Sp.mk ?_ ⟨next_any (by simp) _, trivial⟩⟩
    refine h _ ?_
    rw [flat_cons]
    simp only [spP, spB_sign, flat_nil]
    exact soft_cons (by decide)
  · exact h Z hZ
theorem sp_commas : ∀ f : F, AllF SpT f → ∀ Z, Soft Z → Sp (commaP (tpF f)) Z
  | .nil, _, Z, _ => trivial
  | .cons o n t a .nil, h, Z, hZ => h.1 Z hZ
  | .cons o n t a (.cons o' n' t' a' r), h, Z, hZ => by
    have ih := sp_commas (.cons o' n' t' a' r) h.2 Z hZ
    show Sp ((T.tp ⟨o, n, t, a⟩).ps ++ some (sg [44]) :: none :: commaP (tpF (.cons o' n' t' a' r))) Z
    refine Sp.mk (h.1 _ ?_) ⟨next_any (by simp) _, ih⟩
    rw [flat_cons]
    simp only [spP, spB_sign]
    exact soft_cons (by decide)
theorem sp_call {w : List UInt8} (hw : nameB w = true) {f : F} (h : AllF SpT f) {Z : List UInt8} : Sp (callP w (tpF f)) Z := by
  refine ⟨next_name hw ?_, next_any (by simp) _, Sp.mk (sp_commas f h _ ?_) ⟨next_any (by simp) _, trivial⟩⟩
  · rw [flat_cons]
    simp only [spP, spB_sign]
    exact soft_cons (by decide)
  · rw [flat_cons]
    simp only [spP, spB_sign, flat_nil]
    exact soft_cons (by decide)
theorem sp_leaf {o n : Int} {t : List UInt8} (hf : Frm o n t 0) (hn : namedB o t = true) (hm : n ≤ 9223372036854775807) (ho : o = 1 ∨ o = 2 ∨ o = 3 ∨ o = 4 ∨ o = 6 ∨ o = 7) {Z : List UInt8} (hZ : Soft Z) : Sp (leafP o n t) Z := by
  rcases ho with rfl | rfl | rfl | rfl | rfl | rfl
  · exact ⟨next_int hf.pos hm hZ, trivial⟩
  · exact ⟨next_text (hf.short rfl), trivial⟩
  · by_cases h : n = 1
    · subst h; exact ⟨next_name (by decide) hZ, trivial⟩
    · have e : leafP 3 n t = [some (1, wFalse, 0)] := by simp [leafP, h]
      rw [e]
      exact ⟨next_name (by decide) hZ, trivial⟩
  · exact ⟨next_sym (named_six hn (by simp)) hZ, trivial⟩
  · exact ⟨next_name (named_six hn (by simp)) hZ, trivial⟩
  · have hnm := named_six hn (by simp)
    obtain ⟨c, r, rfl, hc⟩ := nameB_head hnm
    refine ⟨next_name (by decide) ?_, ?_, next_name hnm hZ, trivial⟩
    · rw [flat_cons]
      simp only [spP, spB_sign]
      exact soft_cons (by decide)
    · rw [flat_cons]
      simp only [spP, spB_name]
      exact next_dot hc
theorem sp_all : ∀ f : F, WfF f → NumF f → AllF SpT f
  | .nil, _, _ => trivial
  | .cons o n t a r, ⟨h1, h2, h3, h4⟩, ⟨g1, g2, g3⟩ => by
    refine ⟨?_, sp_all r h4 g3⟩
    have ha := sp_all a h3 g2
    have hh := head_all a h3
    have hf := frm h1
    show SpT ⟨o, n, t, a⟩
    intro Z hZ
    rcases node_kinds hf with ⟨ho, rfl⟩ | ⟨rfl, _⟩ | ⟨ho, x, rfl⟩ | ⟨rfl, x, rfl⟩ | ⟨ho, x, y, rfl⟩ | ⟨ho, x, y, rfl⟩
    · rw [tp_leaf ho]; exact sp_leaf hf h2 g1 ho hZ
    · rw [tp_list]
      refine ⟨next_any (by simp) _, Sp.mk (sp_commas a ha _ ?_) ⟨next_any (by simp) _, trivial⟩⟩
      rw [flat_cons]
      simp only [spP, spB_sign, flat_nil]
      exact soft_cons (by decide)
    · rw [tp_un ho]
      have hx : SpT x := ha.1
      have hd : Hd x.tp.ps := hh.1
      refine ⟨next_un (by split <;> simp) ?_, hx.within 5 hZ⟩
      obtain ⟨c, r', e, hc⟩ := hd.within 5
      intro d hdd
      rw [e] at hdd
      simp at hdd
      subst hdd
      exact hc
    · rw [tp_call (.inl rfl)]; exact sp_call (callW_name _) ha
    · rw [tp_call (.inr ho)]; exact sp_call (callW_name _) ha
    · rw [tp_two ho]
      have hx : SpT x := ha.1
      have hy : SpT y := ha.2.1
      refine Sp.mk (hx.within _ ?_) ⟨?_, hy.within _ hZ⟩
      · rw [flat_cons]
        exact soft_cons (by decide)
      · rw [flat_cons]
        exact next_bin ho _
theorem has_map : ∀ (a : List TA) (p b : List TA), Has (p ++ a ++ b) p.length (a.map bare)
  | [], p, b => trivial
  | t :: r, p, b => by
    refine ⟨?_, ?_⟩
    · have : tk (p ++ t :: r ++ b) p.length = t := by
        unfold tk
        simp [List.getD]
      rw [this]
    · have h := has_map r (p ++ [t]) b
      simp only [List.append_assoc, List.singleton_append, List.length_append, List.length_cons, List.length_nil, Nat.zero_add] at h
      simpa using h
theorem read_text {x : T} (hw : WfF x.row) (hm : NumF x.row) (hn : x.size ≤ 200) (ho : x.tp.open_ ≤ 20) : ∃ ts : List TA, scanM x.tx.text 0 = (ts, none) ∧ readM ts = (x, 0, 0) := by
  have hs : SpT x := (sp_all x.row hw hm).1
  obtain ⟨ts, h1, h2⟩ := scan_flat x.tp.ps [] 0 (hs [] (fun c hc => by simp at hc))
  rw [List.append_nil] at h1
  have hl : ts.length = (toks x.tp.ps).length := by rw [← h2, List.length_map]
  have ht : x.tx.text = flat x.tp.ps := by rw [T.tx_tp]; rfl
  rw [ht]
  have he : (scanM [] (0 + (flat x.tp.ps).length)) = ([⟨0, [], 0, 0 + (flat x.tp.ps).length⟩], none) := rfl
  rw [he] at h1
  refine ⟨_, h1, ?_⟩
  have hp := parse_toks hw hn ho (ts := ts ++ [⟨0, [], 0, 0 + (flat x.tp.ps).length⟩]) (by have := has_map ts [] [⟨0, [], 0, 0 + (flat x.tp.ps).length⟩]; rw [h2] at this; exact this) (by
    rw [← hl]
    unfold tk
    simp [List.getD])
  unfold readM
  simp only
  rw [hp]
  simp only
  rw [if_pos (by rw [← hl]; simp)]
end Go.Proofs.YtlmmfhbdebfgkaaGreatDoor.Ex
