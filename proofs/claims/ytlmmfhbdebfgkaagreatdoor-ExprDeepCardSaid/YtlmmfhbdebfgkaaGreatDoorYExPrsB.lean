/-
  ExPrsB.
-/
import Derived.Test.YtlmmfhbdebfgkaaGreatDoorYLxToksQ
namespace Go.Proofs.YtlmmfhbdebfgkaaGreatDoor.Ex
open Lx Va
set_option linter.unusedVariables false
set_option linter.unusedSimpArgs false
def startT (t : Bare) : Prop := (t.1 = 1 ∨ t.1 = 2 ∨ t.1 = 3 ∨ t.1 = 4) ∨ t = sg [40] ∨ t = sg [91] ∨ t = sg [33] ∨ t = sg [45]
def Fst (l : List Pc) : Prop := ∃ t r, l = some t :: r ∧ startT t
theorem Fst.app {a b : List Pc} (h : Fst a) : Fst (a ++ b) := by
  obtain ⟨t, r, rfl, hs⟩ := h
  exact ⟨t, r ++ b, rfl, hs⟩
theorem Fst.within {y : Tp} (h : Fst y.ps) (k : Nat) : Fst (y.within k).1 := by
  unfold Tp.within
  split
  · exact ⟨_, _, rfl, .inr (.inl rfl)⟩
  · exact h
theorem node_kinds {o n : Int} {t : List UInt8} {a : F} (hf : Frm o n t a.len) :
    ((o = 1 ∨ o = 2 ∨ o = 3 ∨ o = 4 ∨ o = 6 ∨ o = 7) ∧ a = .nil) ∨ (o = 5 ∧ a.len ≤ 16) ∨ ((o = 10 ∨ o = 11) ∧ ∃ x : T, a = x.row) ∨ (o = 12 ∧ ∃ x : T, a = x.row) ∨ ((o = 25 ∨ o = 26) ∧ ∃ x y : T, a = two x y) ∨
    ((o = 41 ∨ o = 40 ∨ o = 30 ∨ o = 31 ∨ o = 32 ∨ o = 33 ∨ o = 23 ∨ o = 24 ∨ o = 20 ∨ o = 21 ∨ o = 22) ∧ ∃ x y : T, a = two x y) := by
  have hc := hf.cnt
  unfold cntB at hc
  by_cases h5 : o = 5
  · rw [if_pos h5] at hc; exact .inr (.inl ⟨h5, by simpa using hc⟩)
  rw [if_neg h5] at hc
  by_cases h7 : 1 ≤ o ∧ o ≤ 7
  · rw [if_pos h7] at hc; exact .inl ⟨by omega, F.none_of (by simpa using hc)⟩
  rw [if_neg h7] at hc
  by_cases h10 : 10 ≤ o ∧ o ≤ 12
  · rw [if_pos h10] at hc
    have := F.one_of (a := a) (by simpa using hc)
    by_cases h12 : o = 12
    · exact .inr (.inr (.inr (.inl ⟨h12, this⟩)))
    · exact .inr (.inr (.inl ⟨by omega, this⟩))
  rw [if_neg h10] at hc
  by_cases h20 : 20 ≤ o ∧ o ≤ 26 ∨ 30 ≤ o ∧ o ≤ 33 ∨ o = 40 ∨ o = 41
  · rw [if_pos h20] at hc
    have := F.two_of (a := a) (by simpa using hc)
    by_cases h25 : o = 25 ∨ o = 26
    · exact .inr (.inr (.inr (.inr (.inl ⟨h25, this⟩))))
    · exact .inr (.inr (.inr (.inr (.inr ⟨by omega, this⟩))))
  · rw [if_neg h20] at hc; cases hc
def AllF (p : T → Prop) : F → Prop
  | .nil => True
  | .cons o n t a r => p ⟨o, n, t, a⟩ ∧ AllF p r
theorem tp_un {o n : Int} {t : List UInt8} {x : T} (ho : o = 10 ∨ o = 11) : T.tp ⟨o, n, t, x.row⟩ = ⟨o, some (sg (if o = 10 then [33] else [45])) :: (x.tp.within 5).1, (x.tp.within 5).2 + 1⟩ := by
  show nodeTp o n t [x.tp] = _
  unfold nodeTp
  rw [if_pos ho]
theorem tp_leaf {o n : Int} {t : List UInt8} {a : F} (ho : o = 1 ∨ o = 2 ∨ o = 3 ∨ o = 4 ∨ o = 6 ∨ o = 7) : T.tp ⟨o, n, t, a⟩ = ⟨o, leafP o n t, 0⟩ := by
  show nodeTp o n t (tpF a) = _
  unfold nodeTp
  rw [if_neg (by omega), if_neg (by omega), if_neg (by omega), if_neg (by omega), if_neg (by omega), if_pos (by omega)]
theorem tp_list {n : Int} {t : List UInt8} {a : F} : T.tp ⟨5, n, t, a⟩ = ⟨5, some (sg [91]) :: (commaP (tpF a) ++ [some (sg [93])]), mostP (tpF a) + 1⟩ := by
  show nodeTp 5 n t (tpF a) = _
  unfold nodeTp
  rw [if_neg (by omega), if_pos rfl]
def callW (o : Int) : List UInt8 := if o = 12 then wLen else if o = 25 then wAt else wPush
theorem tp_call {o n : Int} {t : List UInt8} {a : F} (ho : o = 12 ∨ o = 25 ∨ o = 26) : T.tp ⟨o, n, t, a⟩ = ⟨o, callP (callW o) (tpF a), mostP (tpF a) + 1⟩ := by
  show nodeTp o n t (tpF a) = _
  unfold nodeTp
  rcases ho with rfl | rfl | rfl <;> rfl
theorem leaf_fst {o n : Int} {t : List UInt8} : Fst (leafP o n t) := by
  unfold leafP
  repeat' split
  all_goals exact ⟨_, _, rfl, by simp [startT]⟩
theorem first_all : ∀ f : F, WfF f → AllF (fun x => Fst x.tp.ps) f
  | .nil, _ => trivial
  | .cons o n t a r, ⟨h1, h2, h3, h4⟩ => by
    refine ⟨?_, first_all r h4⟩
    have ha := first_all a h3
    have hf := frm h1
    show Fst (T.tp ⟨o, n, t, a⟩).ps
    rcases node_kinds hf with ⟨ho, rfl⟩ | ⟨rfl, _⟩ | ⟨ho, x, rfl⟩ | ⟨rfl, x, rfl⟩ | ⟨ho, x, y, rfl⟩ | ⟨ho, x, y, rfl⟩
    · rw [tp_leaf ho]; exact leaf_fst
    · rw [tp_list]; exact ⟨_, _, rfl, by simp [startT]⟩
    · rw [tp_un ho]
      refine ⟨_, _, rfl, ?_⟩
      by_cases h : o = 10
      · rw [if_pos h]; simp [startT]
      · rw [if_neg h]; simp [startT]
    · rw [tp_call (.inl rfl)]; exact ⟨_, _, rfl, by simp [startT]⟩
    · rw [tp_call (.inr ho)]; exact ⟨_, _, rfl, by simp [startT]⟩
    · rw [tp_two ho]
      have hx : Fst x.tp.ps := ha.1
      exact (hx.within _).app
theorem leafR_ok {o n : Int} {t : List UInt8} {s : St} (h : s.n < 200) : leafR o n t s = .ok ⟨o, n, t, .nil⟩ ⟨s.at_ + 1, s.n + 1, s.open_⟩ := by
  unfold leafR; rw [if_neg (by omega)]
theorem word_leaf {rec : St → R} {l : List TA} {t : List UInt8} {s : St} (h : takenB t = false) : wordR rec l t s = leafR 6 0 t s := by
  unfold takenB at h
  simp only [Bool.or_eq_false_iff, beq_eq_false_iff_ne] at h
  obtain ⟨⟨⟨⟨⟨h1, h2⟩, h3⟩, h4⟩, h5⟩, h6⟩ := h
  unfold wordR
  rw [if_neg h4, if_neg h5, if_neg h6, if_neg h3, if_neg h1, if_neg h2]
theorem leaf_plain {o n : Int} {t : List UInt8} (hf : Frm o n t 0) (hn : namedB o t = true) (ho : o = 1 ∨ o = 2 ∨ o = 3 ∨ o = 4 ∨ o = 6 ∨ o = 7) : Plain ⟨o, n, t, .nil⟩ 5 := by
  intro ts f i n0 o0 h200 hop hh hs hfu
  obtain ⟨f, rfl⟩ : ∃ g, f = g + 1 := ⟨f - 1, by unfold need at hfu; omega⟩
  rw [tp_leaf ho] at hop hh hs ⊢
  have hsz : T.size ⟨o, n, t, .nil⟩ = 1 := rfl
  rw [hsz] at h200 ⊢
  have e0 : o ≠ 1 → o ≠ 3 → n = 0 := fun h1 h3 => by rcases hf.num with h | h | h <;> first | exact h | exact absurd h h1 | exact absurd h h3
  have e1 : o ≠ 2 → o ≠ 4 → o ≠ 6 → o ≠ 7 → t = [] := fun h1 h2 h3 h4 => by rcases hf.text with h | h | h | h | h <;> first | exact h | exact absurd h h1 | exact absurd h h2 | exact absurd h h3 | exact absurd h h4
  have hp := hf.pos
  have hbl := hf.bool
  rcases ho with rfl | rfl | rfl | rfl | rfl | rfl
  · obtain rfl := e1 (by decide) (by decide) (by decide) (by decide)
    simp only [leafP, ↓reduceIte, toks_some, toks_nil, List.length_cons, List.length_nil] at hh ⊢
    have hb := hh.1
    rw [lv5 (unAt_no (by rw [bare_kind hb]; simp))]
    unfold primR
    rw [bare_kind hb, bare_num hb]
    exact leafR_ok (by simp only; omega)
  · obtain rfl := e0 (by decide) (by decide)
    simp only [leafP, toks_some, toks_nil, List.length_cons, List.length_nil] at hh ⊢
    have hb : bare (tk ts i) = (3, t, 0) := hh.1
    rw [lv5 (unAt_no (by rw [bare_kind hb]; simp))]
    unfold primR
    rw [bare_kind hb, bare_text hb]
    exact leafR_ok (by simp only; omega)
  · obtain rfl := e1 (by decide) (by decide) (by decide) (by decide)
    have hb : bare (tk ts i) = (1, if n = 1 then wTrue else wFalse, 0) := hh.1
    rw [lv5 (unAt_no (by rw [bare_kind hb]; simp))]
    unfold primR
    rw [bare_kind hb, bare_text hb]
    have hb2 := hbl rfl
    by_cases h1 : n = 1
    · subst h1; exact leafR_ok (by simp only; omega)
    · obtain rfl : n = 0 := by omega
      exact leafR_ok (by simp only; omega)
  · obtain rfl := e0 (by decide) (by decide)
    have hb : bare (tk ts i) = (4, t, 0) := hh.1
    rw [lv5 (unAt_no (by rw [bare_kind hb]; simp))]
    unfold primR
    rw [bare_kind hb, bare_text hb]
    exact leafR_ok (by simp only; omega)
  · obtain rfl := e0 (by decide) (by decide)
    have hb : bare (tk ts i) = (1, t, 0) := hh.1
    rw [lv5 (unAt_no (by rw [bare_kind hb]; simp))]
    unfold primR
    rw [bare_kind hb, bare_text hb]
    have ht : takenB t = false := by
      unfold namedB at hn
      simp at hn
      exact hn.2
    show wordR _ ts t _ = _
    rw [word_leaf ht]
    exact leafR_ok (by simp only; omega)
  · obtain rfl := e0 (by decide) (by decide)
    have hb : bare (tk ts i) = (1, wMsg, 0) := hh.1
    have hb2 : bare (tk ts (i + 1)) = sg [46] := hh.2.1
    have hb3 : bare (tk ts (i + 2)) = (1, t, 0) := hh.2.2.1
    rw [lv5 (unAt_no (by rw [bare_kind hb]; simp))]
    unfold primR
    rw [bare_kind hb, bare_text hb]
    show fieldR ts ⟨i, n0, o0⟩ = _
    unfold fieldR
    simp only
    rw [isS_sg hb2, if_pos (by decide), bare_kind hb3, if_pos rfl, bare_text hb3]
    exact leafR_ok (by simp only; omega)
theorem un_plain {o n : Int} {t : List UInt8} {x : T} (hf : Frm o n t 1) (ho : o = 10 ∨ o = 11) (hx : Main x) : Plain ⟨o, n, t, x.row⟩ 5 := by
  intro ts f i n0 o0 h200 hop hh hs hfu
  obtain ⟨f, rfl⟩ : ∃ g, f = g + 1 := ⟨f - 1, by unfold need at hfu; omega⟩
  have e0 : n = 0 := by rcases hf.num with h | h | h <;> omega
  have e1 : t = [] := by rcases hf.text with h | h | h | h | h <;> first | exact h | omega
  subst e0 e1
  rw [tp_un ho] at hop hh hs ⊢
  simp only [toks_some, List.length_cons] at hop hh hs ⊢
  have hsz : T.size ⟨o, 0, [], x.row⟩ = x.size + 1 := by show F.size x.row + 1 = _; simp only [T.row, F.size, T.size] <;> omega
  rw [hsz] at h200 ⊢
  obtain ⟨h1, h2⟩ := hh
  have hu : unAt (tk ts i) = some o := by
    rw [unAt_sg h1]
    rcases ho with rfl | rfl <;> rfl
  rw [lv, if_pos rfl, hu]
  simp only
  unfold enterR
  rw [if_neg (by simp only; omega), if_neg (by simp only; omega)]
  simp only
  unfold need at hfu
  simp only at hfu
  rw [hx 5 (by omega) ts f (i + 1) (n0 + 1) (o0 + 1) (by omega) (by omega) h2 (by rw [show i + 1 + (toks (x.tp.within 5).1).length = i + ((toks (x.tp.within 5).1).length + 1) by omega]; exact hs) (by unfold need; simp only; omega)]
  show R.ok _ _ = R.ok _ _
  simp only [R.ok.injEq, St.mk.injEq, true_and]
  exact ⟨by omega, by omega, by omega⟩
theorem Main.zero {x : T} (h : Main x) {ts : List TA} {f i n0 o0 : Nat} (hn : n0 + x.size ≤ 200) (ho : o0 + x.tp.open_ ≤ 20) (hh : Has ts i (toks x.tp.ps)) (hs : Stop ts 0 (i + (toks x.tp.ps).length)) (hf : need 0 ⟨i, n0, o0⟩ < f) :
    lv ts f 0 ⟨i, n0, o0⟩ = .ok x ⟨i + (toks x.tp.ps).length, n0 + x.size, o0⟩ := by
  have e : x.tp.within 0 = (x.tp.ps, x.tp.open_) := within_no (by omega)
  have := h 0 (by omega) ts f i n0 o0 hn (by rw [e]; exact ho) (by rw [e]; exact hh) (by rw [e]; exact hs) hf
  rw [e] at this
  exact this
theorem prim_word {rec : St → R} {l : List TA} {s : St} {t : List UInt8} (h : bare (tk l s.at_) = (1, t, 0)) : primR rec l s = wordR rec l t s := by
  unfold primR
  rw [bare_kind h, bare_text h, if_pos rfl]
theorem word_call {rec : St → R} {l : List TA} {s : St} {o : Int} (ho : o = 12 ∨ o = 25 ∨ o = 26) : wordR rec l (callW o) s = callR rec l o (if o = 12 then 1 else 2) s := by
  rcases ho with rfl | rfl | rfl <;> rfl
theorem call1_plain {n : Int} {t : List UInt8} {x : T} (hf : Frm 12 n t 1) (hx : Main x) : Plain ⟨12, n, t, x.row⟩ 5 := by
  intro ts f i n0 o0 h200 hop hh hs hfu
  obtain ⟨f, rfl⟩ : ∃ g, f = g + 1 := ⟨f - 1, by unfold need at hfu; omega⟩
  have e0 : n = 0 := by rcases hf.num with h | h | h <;> omega
  have e1 : t = [] := by rcases hf.text with h | h | h | h | h <;> first | exact h | omega
  subst e0 e1
  rw [tp_call (.inl rfl)] at hop hh hs ⊢
  have e : tpF x.row = [x.tp] := rfl
  rw [e] at hop hh hs ⊢
  simp only [callP, commaP, mostP, toks_some, toks_append, toks_nil, List.length_cons, List.length_append, List.length_nil, Nat.max_zero] at hop hh hs ⊢
  have hsz : T.size ⟨12, 0, [], x.row⟩ = x.size + 1 := by show F.size x.row + 1 = _; simp only [T.row, F.size, T.size] <;> omega
  rw [hsz] at h200 ⊢
  obtain ⟨h1, h2, h3⟩ := hh
  obtain ⟨h4, h5, _⟩ := Has.app _ h3
  rw [lv5 (unAt_no (by rw [bare_kind h1]; simp)), prim_word h1, word_call (.inl rfl)]
  unfold callR enterR
  simp only
  rw [isS_sg h2, if_pos (by decide), if_neg (by omega), if_neg (by omega)]
  unfold need at hfu
  simp only at hfu
  rw [hx.zero (f := f) (i := i + 1 + 1) (n0 := n0 + 1) (o0 := o0 + 1) (by omega) (by omega) h4 (Stop.close h5 (by simp) 0) (by unfold need; simp only; omega)]
  show leaveR ts [41] ⟨12, 0, [], x.row⟩ _ = _
  unfold leaveR
  simp only
  rw [isS_sg h5, if_pos (by decide)]
  simp only [R.ok.injEq, St.mk.injEq, true_and]
  exact ⟨by omega, by omega, by omega⟩
theorem call2_plain {o n : Int} {t : List UInt8} {x y : T} (hf : Frm o n t 2) (ho : o = 25 ∨ o = 26) (hx : Main x) (hy : Main y) : Plain ⟨o, n, t, two x y⟩ 5 := by
  intro ts f i n0 o0 h200 hop hh hs hfu
  obtain ⟨f, rfl⟩ : ∃ g, f = g + 1 := ⟨f - 1, by unfold need at hfu; omega⟩
  have e0 : n = 0 := by rcases hf.num with h | h | h <;> omega
  have e1 : t = [] := by rcases hf.text with h | h | h | h | h <;> first | exact h | omega
  subst e0 e1
  rw [tp_call (.inr ho)] at hop hh hs ⊢
  have e : tpF (two x y) = [x.tp, y.tp] := rfl
  rw [e] at hop hh hs ⊢
  simp only [callP, commaP, mostP, toks_some, toks_none, toks_append, toks_nil, List.length_cons, List.length_append, List.length_nil, Nat.max_zero] at hop hh hs ⊢
  have hsz : T.size ⟨o, 0, [], two x y⟩ = x.size + y.size + 1 := by show F.size (two x y) + 1 = _; rw [two_size]
  rw [hsz] at h200 ⊢
  obtain ⟨h1, h2, h3⟩ := hh
  obtain ⟨h3, h8, _⟩ := Has.app _ h3
  obtain ⟨h4, h5, h6⟩ := Has.app _ h3
  simp only [List.length_append, List.length_cons] at h8
  have hy1 : 1 ≤ y.size := by unfold T.size; omega
  rw [lv5 (unAt_no (by rw [bare_kind h1]; simp)), prim_word h1, word_call (.inr ho), if_neg (by omega)]
  unfold callR enterR
  simp only
  rw [isS_sg h2, if_pos (by decide), if_neg (by omega), if_neg (by omega)]
  unfold need at hfu
  simp only at hfu
  rw [hx.zero (f := f) (i := i + 1 + 1) (n0 := n0 + 1) (o0 := o0 + 1) (by omega) (by omega) h4 (Stop.close h5 (by simp) 0) (by unfold need; simp only; omega)]
  show argsR (lv ts f 0) ts o 1 x.row _ = _
  unfold argsR
  simp only
  rw [isS_sg h5, if_pos (by decide)]
  have e8 : i + 1 + 1 + (toks x.tp.ps).length + 1 + (toks y.tp.ps).length = i + 1 + 1 + ((toks x.tp.ps).length + ((toks y.tp.ps).length + 1)) := by omega
  rw [← e8] at h8
  rw [hy.zero (f := f) (i := i + 1 + 1 + (toks x.tp.ps).length + 1) (n0 := n0 + 1 + x.size) (o0 := o0 + 1) (by omega) (by omega) h6 (Stop.close h8 (by simp) 0) (by unfold need; simp only; omega)]
  show leaveR ts [41] ⟨o, 0, [], two x y⟩ _ = _
  unfold leaveR
  simp only
  rw [isS_sg h8, if_pos (by decide)]
  simp only [R.ok.injEq, St.mk.injEq, true_and]
  exact ⟨by omega, by omega, by omega⟩
theorem F.app_nil : ∀ a : F, a.app .nil = a
  | .nil => rfl
  | .cons o n t a r => by rw [F.app, F.app_nil r]
theorem F.app_assoc : ∀ a b c : F, (a.app b).app c = a.app (b.app c)
  | .nil, _, _ => rfl
  | .cons o n t a r, b, c => by rw [F.app, F.app, F.app, F.app_assoc r b c]
theorem fst_93 {l : List Pc} {ts : List TA} {i : Nat} (h : Fst l) (hh : Has ts i (toks l)) : isS ts i [93] = false := by
  obtain ⟨t, r, rfl, hs⟩ := h
  rw [toks_some] at hh
  rcases hs with hk | rfl | rfl | rfl | rfl
  · refine isS_no hh.1 ?_ _
    rcases hk with h | h | h | h <;> rw [h] <;> decide
  all_goals (rw [isS_sg hh.1]; decide)
theorem elems_all {ts : List TA} {f : Nat} : ∀ (r : F), AllF Main r → AllF (fun x => Fst x.tp.ps) r → ∀ (acc : F) (k i n0 o0 : Nat), r.len < k → acc.len + r.len ≤ 16 → n0 + r.size ≤ 200 → 1 ≤ o0 → o0 + mostP (tpF r) ≤ 20 → need 0 ⟨i, n0, o0⟩ < f →
    Has ts i ((if acc.len ≠ 0 ∧ r.len ≠ 0 then [sg [44]] else []) ++ toks (commaP (tpF r)) ++ [sg [93]]) →
    elemsR (lv ts f 0) ts k acc ⟨i, n0, o0⟩ = .ok ⟨5, 0, [], acc.app r⟩ ⟨i + ((if acc.len ≠ 0 ∧ r.len ≠ 0 then [sg [44]] else []) ++ toks (commaP (tpF r)) ++ [sg [93]]).length, n0 + r.size, o0 - 1⟩
  | .nil, _, _, acc, k, i, n0, o0, hk, h16, h200, ho1, ho, hf, hh => by
    obtain ⟨k, rfl⟩ : ∃ g, k = g + 1 := ⟨k - 1, by omega⟩
    have e : F.nil.len = 0 := rfl
    rw [e] at hh ⊢
    simp only [ne_eq, not_true_eq_false, and_false, ↓reduceIte, tpF, commaP, toks_nil, List.nil_append, List.length_cons, List.length_nil] at hh ⊢
    unfold elemsR
    simp only
    rw [isS_sg hh.1, if_pos (by decide), F.app_nil]
    rfl
  | .cons o n t a r, ⟨hm, hr⟩, ⟨hfs, hfr⟩, acc, k, i, n0, o0, hk, h16, h200, ho1, ho, hf, hh => by
    obtain ⟨k, rfl⟩ : ∃ g, k = g + 1 := ⟨k - 1, by omega⟩
    have hlen : (F.cons o n t a r).len = r.len + 1 := rfl
    have hsz : (F.cons o n t a r).size = T.size ⟨o, n, t, a⟩ + r.size := rfl
    have htp : tpF (.cons o n t a r) = T.tp ⟨o, n, t, a⟩ :: tpF r := rfl
    have happ : acc.app (.cons o n t a r) = (acc.snoc ⟨o, n, t, a⟩).app r := by
      unfold F.snoc; rw [F.app_assoc]; rfl
    have hal : (acc.snoc ⟨o, n, t, a⟩).len = acc.len + 1 := F.len_snoc _ _
    rw [hlen] at hk h16 hh ⊢
    rw [hsz] at h200 ⊢
    rw [htp] at ho hh ⊢
    rw [happ]
    generalize (⟨o, n, t, a⟩ : T) = x at *
    have hcm : toks (commaP (x.tp :: tpF r)) = toks x.tp.ps ++ ((if r.len ≠ 0 then [sg [44]] else []) ++ toks (commaP (tpF r))) := by
      cases r with
      | nil => show toks x.tp.ps = toks x.tp.ps ++ ([] ++ []); simp
      | cons o' n' t' a' r' =>
        show toks (x.tp.ps ++ some (sg [44]) :: none :: commaP (tpF (.cons o' n' t' a' r'))) = _
        rw [toks_append, toks_some, toks_none, if_pos (by simp [F.len])]
        rfl
    have hmo : mostP (x.tp :: tpF r) = max x.tp.open_ (mostP (tpF r)) := rfl
    rw [hmo] at ho
    rw [hcm] at hh ⊢
    have hnext : ∀ j n1, n1 = n0 + x.size → Has ts j ((if r.len ≠ 0 then [sg [44]] else []) ++ toks (commaP (tpF r)) ++ [sg [93]]) → elemsR (lv ts f 0) ts k (acc.snoc x) ⟨j, n1, o0⟩ = .ok ⟨5, 0, [], (acc.snoc x).app r⟩ ⟨j + ((if r.len ≠ 0 then [sg [44]] else []) ++ toks (commaP (tpF r)) ++ [sg [93]]).length, n0 + (x.size + r.size), o0 - 1⟩ := by
      intro j n1 hn1 hj
      have hc : ((acc.snoc x).len ≠ 0 ∧ r.len ≠ 0) = (r.len ≠ 0) := by rw [hal]; simp
      have h := elems_all r hr hfr (acc.snoc x) k j n1 o0 (by omega) (by rw [hal]; omega) (by omega) ho1 (by omega) (by unfold need at hf ⊢; exact hf) (by simp only [hc]; exact hj)
      simp only [hc] at h
      rw [h, hn1, Nat.add_assoc]
    have hstop : ∀ j, Has ts j ((if r.len ≠ 0 then [sg [44]] else []) ++ toks (commaP (tpF r)) ++ [sg [93]]) → Stop ts 0 j := by
      intro j hj
      by_cases hr0 : r.len = 0
      · obtain rfl := F.none_of hr0
        exact Stop.close hj.1 (by simp) 0
      · rw [if_pos hr0] at hj
        exact Stop.close hj.1 (by simp) 0
    unfold elemsR
    simp only
    by_cases h0 : acc.len = 0
    · have hcc : ¬ (acc.len ≠ 0 ∧ r.len + 1 ≠ 0) := by simp [h0]
      rw [if_neg hcc] at hh
      rw [if_neg hcc]
      rw [List.nil_append, List.append_assoc] at hh ⊢
      obtain ⟨h1, h2⟩ := Has.app _ hh
      rw [fst_93 hfs h1, if_neg (by decide), if_pos h0, hm.zero (by omega) (by omega) h1 (hstop _ h2) hf]
      show elemsR _ ts k (acc.snoc x) _ = _
      rw [hnext _ _ rfl h2]
      simp only [List.length_append, R.ok.injEq, St.mk.injEq, true_and, and_true]
      omega
    · have hcc : acc.len ≠ 0 ∧ r.len + 1 ≠ 0 := ⟨h0, by omega⟩
      rw [if_pos hcc] at hh
      rw [if_pos hcc]
      rw [List.append_assoc, List.append_assoc] at hh ⊢
      rw [List.cons_append, List.nil_append] at hh
      obtain ⟨h3, h4⟩ := hh
      obtain ⟨h1, h2⟩ := Has.app _ h4
      rw [isS_sg h3, if_neg (by decide), if_neg h0, isS_sg h3, if_pos (by decide), if_neg (by omega)]
      rw [hm.zero (i := i + 1) (by omega) (by omega) h1 (hstop _ h2) (by unfold need at hf ⊢; exact hf)]
      show elemsR _ ts k (acc.snoc x) _ = _
      rw [hnext _ _ rfl h2]
      simp only [List.length_append, List.length_cons, List.length_nil, R.ok.injEq, St.mk.injEq, true_and, and_true]
      omega
theorem list_plain {n : Int} {t : List UInt8} {a : F} (hf : Frm 5 n t a.len) (h16 : a.len ≤ 16) (hm : AllF Main a) (hfs : AllF (fun x => Fst x.tp.ps) a) : Plain ⟨5, n, t, a⟩ 5 := by
  intro ts f i n0 o0 h200 hop hh hs hfu
  obtain ⟨f, rfl⟩ : ∃ g, f = g + 1 := ⟨f - 1, by unfold need at hfu; omega⟩
  have e0 : n = 0 := by rcases hf.num with h | h | h <;> omega
  have e1 : t = [] := by rcases hf.text with h | h | h | h | h <;> first | exact h | omega
  subst e0 e1
  rw [tp_list] at hop hh hs ⊢
  simp only [toks_some, toks_append, toks_nil, List.length_cons, List.length_append, List.length_nil] at hop hh hs ⊢
  have hsz : T.size ⟨5, 0, [], a⟩ = a.size + 1 := rfl
  rw [hsz] at h200 ⊢
  obtain ⟨h1, h2⟩ := hh
  have hp : primR (lv ts f 0) ts ⟨i, n0, o0⟩ = enterR ⟨i, n0, o0⟩ fun s1 => elemsR (lv ts f 0) ts 18 .nil s1 := by
    unfold primR
    rw [bare_kind h1, isS_sg h1, isS_sg h1]
    rfl
  rw [lv5 (by rw [unAt_sg h1]; rfl), hp]
  unfold enterR
  simp only
  rw [if_neg (by omega), if_neg (by omega)]
  unfold need at hfu
  simp only at hfu
  have e : F.nil.len = 0 := rfl
  rw [elems_all a hm hfs .nil 18 (i + 1) (n0 + 1) (o0 + 1) (by omega) (by rw [e]; omega) (by omega) (by omega) (by omega) (by unfold need; simp only; omega) (by rw [e]; simpa using h2)]
  rw [e]
  simp only [ne_eq, not_true_eq_false, false_and, ↓reduceIte, List.nil_append, List.length_append, List.length_cons, List.length_nil, F.app, R.ok.injEq, St.mk.injEq, true_and]
  exact ⟨by omega, by omega, by omega⟩
theorem bound_six {o : Int} (h : (o = 1 ∨ o = 2 ∨ o = 3 ∨ o = 4 ∨ o = 6 ∨ o = 7) ∨ o = 5 ∨ o = 12 ∨ o = 25 ∨ o = 26) : bound o = 6 := by
  rcases h with (rfl | rfl | rfl | rfl | rfl | rfl) | rfl | rfl | rfl | rfl <;> rfl
theorem chain_all {x : T} (h : Main x) (hb : 5 ≤ bound x.op) : Chain x := fun m hm hm2 ts f i n0 o0 K hn ho hh hs hf hK =>
  ⟨K, by omega, chain_of h m hm (by omega) ts f i n0 o0 K hn ho hh hs hf⟩
theorem all_main : ∀ f : F, WfF f → AllF (fun x => Main x ∧ Chain x) f
  | .nil, _ => trivial
  | .cons o n t a r, ⟨h1, h2, h3, h4⟩ => by
    refine ⟨?_, all_main r h4⟩
    have ha := all_main a h3
    have hfs := first_all a h3
    have hf := frm h1
    show Main ⟨o, n, t, a⟩ ∧ Chain ⟨o, n, t, a⟩
    rcases node_kinds hf with ⟨ho, rfl⟩ | ⟨rfl, h16⟩ | ⟨ho, x, rfl⟩ | ⟨rfl, x, rfl⟩ | ⟨ho, x, y, rfl⟩ | ⟨ho, x, y, rfl⟩
    · have hb : bound o = 6 := bound_six (.inl ho)
      have hM : Main ⟨o, n, t, .nil⟩ := main_of (by show Plain _ (min (bound o) 5); rw [hb]; exact leaf_plain hf h2 ho)
      exact ⟨hM, chain_all hM (by show 5 ≤ bound o; omega)⟩
    · have hM : Main ⟨5, n, t, a⟩ := main_of (by
        have hmm : ∀ b : F, AllF (fun x => Main x ∧ Chain x) b → AllF Main b := by
          intro b
          induction b with
          | nil => exact fun _ => trivial
          | cons o n t a r _ ih => exact fun h => ⟨h.1.1, ih h.2⟩
        exact list_plain hf h16 (hmm a ha) hfs)
      exact ⟨hM, chain_all hM (by show 5 ≤ bound 5; decide)⟩
    · have hx : Main x ∧ Chain x := ha.1
      have hb : bound o = 5 := by rcases ho with rfl | rfl <;> rfl
      have hM : Main ⟨o, n, t, x.row⟩ := main_of (by show Plain _ (min (bound o) 5); rw [hb]; exact un_plain hf ho hx.1)
      exact ⟨hM, chain_all hM (by show 5 ≤ bound o; omega)⟩
    · have hx : Main x ∧ Chain x := ha.1
      have hM : Main ⟨12, n, t, x.row⟩ := main_of (call1_plain hf hx.1)
      exact ⟨hM, chain_all hM (by show 5 ≤ bound 12; decide)⟩
    · have hx : Main x ∧ Chain x := ha.1
      have hy : Main y ∧ Chain y := ha.2.1
      have hb : bound o = 6 := bound_six (.inr (.inr (.inr ho)))
      have hM : Main ⟨o, n, t, two x y⟩ := main_of (by show Plain _ (min (bound o) 5); rw [hb]; exact call2_plain hf ho hx.1 hy.1)
      exact ⟨hM, chain_all hM (by show 5 ≤ bound o; omega)⟩
    · have hx : Main x ∧ Chain x := ha.1
      have hy : Main y ∧ Chain y := ha.2.1
      have hb : bound o ≤ 4 := by rcases ho with rfl | rfl | rfl | rfl | rfl | rfl | rfl | rfl | rfl | rfl | rfl <;> decide
      have hM : Main ⟨o, n, t, two x y⟩ := main_of (by show Plain _ (min (bound o) 5); rw [show min (bound o) 5 = bound o by omega]; exact bin_plain hf ho hx.2 hx.1 hy.1)
      refine ⟨hM, fun m hm hm2 ts f i n0 o0 K hn hop hh hs hfu hK => ?_⟩
      by_cases hmb : bound o = m
      · subst hmb
        have hw : (T.tp ⟨o, n, t, two x y⟩).within (bound o) = _ := within_no (by rw [T.tp_op]; show ¬ bound o < bound o; omega)
        rw [hw] at hop hh hs ⊢
        exact bin_chain hf ho hm2 hx.2 hy.1 ts f i n0 o0 K hn hop hh hs hfu hK
      · exact ⟨K, by omega, chain_of hM m hm hmb ts f i n0 o0 K hn hop hh hs hfu⟩
theorem parse_toks {x : T} (hw : WfF x.row) (hn : x.size ≤ 200) (ho : x.tp.open_ ≤ 20) {ts : List TA} (hh : Has ts 0 (toks x.tp.ps)) (he : (tk ts (toks x.tp.ps).length).kind = 0) : parseM ts 0 = .ok x ⟨(toks x.tp.ps).length, x.size, 0⟩ := by
  have hm : Main x := (all_main x.row hw).1.1
  have := hm.zero (ts := ts) (f := FUEL) (i := 0) (n0 := 0) (o0 := 0) (by omega) (by omega) hh (fun m _ => opAt_no (by rw [Nat.zero_add, he]; decide) m) (by unfold need FUEL; simp only; omega)
  simpa [parseM] using this
end Go.Proofs.YtlmmfhbdebfgkaaGreatDoor.Ex
