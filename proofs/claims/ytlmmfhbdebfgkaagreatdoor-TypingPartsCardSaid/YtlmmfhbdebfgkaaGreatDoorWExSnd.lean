/-
  ExSnd.
-/
import Derived.Test.YtlmmfhbdebfgkaaGreatDoorWTySmallQ
set_option linter.unusedVariables false
set_option linter.unusedSimpArgs false
namespace Go.Proofs.YtlmmfhbdebfgkaaGreatDoor.Ex
open Lx Va
structure TokV (t : TA) : Prop where
  name : t.kind = 1 ∨ t.kind = 4 → nameB t.text = true
  num : t.kind = 2 → 0 ≤ t.num ∧ t.num ≤ 9223372036854775807
  text : t.kind = 3 → t.text.length ≤ 64
def tlen (t : TA) : Nat := (spB (bare t)).length
def cw (ts : List TA) (i : Nat) : Nat := ((ts.take i).map tlen).sum
theorem cw_succ {ts : List TA} {i : Nat} (h : i < ts.length) : cw ts (i + 1) = cw ts i + tlen (tk ts i) := by
  unfold cw tk
  rw [List.take_add_one, List.getElem?_eq_getElem h]
  simp only [Option.toList_some, List.map_append, List.map_cons, List.map_nil, List.sum_append, List.sum_cons, List.sum_nil, Nat.add_zero]
  simp [List.getD, h]
theorem tlen_sg {ts : List TA} {i : Nat} {s : List UInt8} (h : isS ts i s = true) : tlen (tk ts i) = s.length := by
  obtain ⟨h1, h2⟩ := isS_kind h
  unfold tlen bare spB
  simp only [h1, h2]
  simp [spellM]
structure Snd (ts : List TA) (k : Nat) (s : St) (x : T) (s' : St) : Prop where
  wf : WfF x.row
  num : NumF x.row
  size : s'.n = s.n + x.size
  dep : s.open_ + (x.tp.within k).2 ≤ 20
  len : (flat (x.tp.within k).1).length + cw ts s.at_ + 1 ≤ cw ts s'.at_ + 3 * x.size
def RecS (ts : List TA) (k : Nat) (rec : St → R) : Prop := ∀ s t s', StOk ts s → rec s = .ok t s' → Snd ts k s t s'
theorem within_mono (y : Tp) {a b : Nat} (h : a ≤ b) : (y.within a).2 ≤ (y.within b).2 ∧ (flat (y.within a).1).length ≤ (flat (y.within b).1).length := by
  by_cases hb : bound y.op < b
  · rw [within_yes hb]
    by_cases ha : bound y.op < a
    · rw [within_yes ha]; exact ⟨Nat.le_refl _, Nat.le_refl _⟩
    · rw [within_no ha]
      refine ⟨by simp only; omega, ?_⟩
      simp only [flat_cons, flat_append, List.length_append]; omega
  · rw [within_no hb, within_no (by omega)]; exact ⟨Nat.le_refl _, Nat.le_refl _⟩
theorem Snd.low {ts : List TA} {a b : Nat} {s s' : St} {x : T} (h : Snd ts b s x s') (hab : a ≤ b) : Snd ts a s x s' := by
  obtain ⟨h1, h2⟩ := within_mono x.tp hab
  exact ⟨h.wf, h.num, h.size, Nat.le_trans (Nat.add_le_add_left h1 _) h.dep, by have := h.len; omega⟩
theorem row_wf {o n : Int} {t : List UInt8} {a : F} (h1 : formedB o n t a.len = true) (h2 : namedB o t = true) (h3 : WfF a) : WfF (T.row ⟨o, n, t, a⟩) := ⟨h1, h2, h3, trivial⟩
theorem row_num {o n : Int} {t : List UInt8} {a : F} (h1 : n ≤ 9223372036854775807) (h3 : NumF a) : NumF (T.row ⟨o, n, t, a⟩) := ⟨h1, h3, trivial⟩
theorem within_six {x : T} (h : bound x.op = 6) {k : Nat} (hk : k ≤ 5) : x.tp.within k = (x.tp.ps, x.tp.open_) := within_no (by rw [T.tp_op, h]; omega)
theorem leaf_snd {ts : List TA} {o n : Int} {t : List UInt8} {s s' : St} {x : T} (hs : StOk ts s) (ho : o = 1 ∨ o = 2 ∨ o = 3 ∨ o = 4 ∨ o = 6) (hf : formedB o n t 0 = true) (hn : namedB o t = true) (hm : n ≤ 9223372036854775807)
    (hl : (flat (leafP o n t)).length = tlen (tk ts s.at_)) (h : leafR o n t s = .ok x s') : Snd ts 5 s x s' := by
  unfold leafR at h
  split at h
  · cases h
  · cases h
    have ho2 : o = 1 ∨ o = 2 ∨ o = 3 ∨ o = 4 ∨ o = 6 ∨ o = 7 := by omega
    refine ⟨row_wf hf hn trivial, row_num hm trivial, rfl, ?_, ?_⟩
    · rw [within_six (bound_six (.inl ho2)) (by omega), tp_leaf ho2]; exact hs.op
    · rw [within_six (bound_six (.inl ho2)) (by omega), tp_leaf ho2]
      simp only
      rw [cw_succ hs.at_, hl]
      simp only [T.size, F.size]; omega
theorem leave_snd {ts : List TA} {sign : List UInt8} {x t : T} {s s' : St} (h : leaveR ts sign x s = .ok t s') : t = x ∧ isS ts s.at_ sign = true ∧ s' = ⟨s.at_ + 1, s.n, s.open_ - 1⟩ := by
  unfold leaveR at h
  split at h
  · rename_i hi
    cases h
    exact ⟨rfl, hi, rfl⟩
  · cases h
theorem snoc_wf : ∀ {a : F} {y : T}, WfF a → WfF y.row → WfF (a.snoc y)
  | .nil, y, _, h => h
  | .cons o n t a r, y, ⟨h1, h2, h3, h4⟩, h => ⟨h1, h2, h3, snoc_wf (a := r) h4 h⟩
theorem snoc_num : ∀ {a : F} {y : T}, NumF a → NumF y.row → NumF (a.snoc y)
  | .nil, y, _, h => h
  | .cons o n t a r, y, ⟨h1, h3, h4⟩, h => ⟨h1, h3, snoc_num (a := r) h4 h⟩
theorem row_size (y : T) : y.row.size = y.size := by simp only [T.row, F.size, T.size] <;> omega
theorem snoc_size : ∀ (a : F) (y : T), (a.snoc y).size = a.size + y.size
  | .nil, y => by show y.row.size = _; rw [row_size]; simp [F.size]
  | .cons o n t a r, y => by
    have ih := snoc_size r y
    show (F.cons o n t a (r.snoc y)).size = _
    simp only [F.size, ih]; omega
theorem snoc_tp : ∀ (a : F) (y : T), tpF (a.snoc y) = tpF a ++ [y.tp]
  | .nil, y => rfl
  | .cons o n t a r, y => by
    have ih := snoc_tp r y
    show nodeTp o n t (tpF a) :: tpF (r.snoc y) = _
    rw [ih]; rfl
theorem most_app (l : List Tp) (y : Tp) : mostP (l ++ [y]) = max (mostP l) y.open_ := by
  induction l with
  | nil => simp [mostP]
  | cons x r ih => rw [List.cons_append, mostP, ih, mostP]; omega
theorem comma_app : ∀ (l : List Tp) (y : Tp), (flat (commaP (l ++ [y]))).length = if l = [] then (flat y.ps).length else (flat (commaP l)).length + 2 + (flat y.ps).length
  | [], y => rfl
  | [x], y => by
    rw [if_neg (by simp)]
    show (flat (x.ps ++ some (sg [44]) :: none :: y.ps)).length = (flat x.ps).length + 2 + _
    simp only [flat_append, flat_cons, spP, spB_sign, List.length_append, List.length_cons, List.length_nil]; omega
  | x :: z :: r, y => by
    have ih := comma_app (z :: r) y
    rw [if_neg (by simp)] at ih ⊢
    show (flat (x.ps ++ some (sg [44]) :: none :: commaP ((z :: r) ++ [y]))).length = (flat (x.ps ++ some (sg [44]) :: none :: commaP (z :: r))).length + 2 + _
    simp only [flat_append, flat_cons, spP, spB_sign, List.length_append, List.length_cons, List.length_nil] at ih ⊢
    omega
theorem tpF_len : ∀ a : F, (tpF a).length = a.len
  | .nil => rfl
  | .cons o n t a r => by show (tpF r).length + 1 = r.len + 1; rw [tpF_len r]
theorem comma_snoc (a : F) (y : T) : (flat (commaP (tpF (a.snoc y)))).length = if a.len = 0 then (flat y.tp.ps).length else (flat (commaP (tpF a))).length + 2 + (flat y.tp.ps).length := by
  rw [snoc_tp, comma_app]
  by_cases h : a.len = 0
  · rw [if_pos h, if_pos (List.eq_nil_of_length_eq_zero (by rw [tpF_len, h]))]
  · rw [if_neg h, if_neg (by intro e; apply h; rw [← tpF_len, e]; rfl)]
structure SndF (ts : List TA) (s0 : St) (acc : F) (s : St) : Prop where
  wf : WfF acc
  num : NumF acc
  size : s.n = s0.n + acc.size
  dep : s0.open_ + mostP (tpF acc) ≤ 20
  len : (flat (commaP (tpF acc))).length + cw ts s0.at_ + (if acc.len = 0 then 0 else 1) ≤ cw ts s.at_ + 3 * acc.size
theorem SndF.nil {ts : List TA} {s : St} (h : s.open_ ≤ 20) : SndF ts s .nil s := ⟨trivial, trivial, rfl, h, by simp [tpF, commaP, flat, F.len, F.size]⟩
theorem Snd.zero {ts : List TA} {s s' : St} {x : T} (h : Snd ts 0 s x s') : s.open_ + x.tp.open_ ≤ 20 ∧ (flat x.tp.ps).length + cw ts s.at_ + 1 ≤ cw ts s'.at_ + 3 * x.size := by
  have e : x.tp.within 0 = (x.tp.ps, x.tp.open_) := within_no (by omega)
  have h1 := h.dep
  have h2 := h.len
  rw [e] at h1 h2
  exact ⟨h1, h2⟩
theorem SndF.one {ts : List TA} {s0 s s' : St} {x : T} (ho : s.open_ = s0.open_) (ha : s.at_ = s0.at_) (hn : s.n = s0.n) (h : Snd ts 0 s x s') : SndF ts s0 (F.nil.snoc x) s' := by
  obtain ⟨h1, h2⟩ := h.zero
  have e : (F.nil.snoc x).len = 1 := F.len_snoc _ _
  refine ⟨snoc_wf trivial h.wf, snoc_num trivial h.num, by rw [snoc_size, h.size, hn]; simp [F.size], ?_, ?_⟩
  · rw [snoc_tp, most_app]
    show s0.open_ + max 0 _ ≤ 20
    omega
  · rw [comma_snoc, if_pos (show F.nil.len = 0 from rfl), e, snoc_size]
    simp only [F.size]
    rw [ha] at h2
    simp; omega
theorem SndF.more {ts : List TA} {s0 s s' : St} {acc : F} {x : T} (hf : SndF ts s0 acc s) (h0 : acc.len ≠ 0) (hl : s.at_ < ts.length) (hi : isS ts s.at_ [44] = true) (ho : s.open_ = s0.open_) (h : Snd ts 0 ⟨s.at_ + 1, s.n, s.open_⟩ x s') : SndF ts s0 (acc.snoc x) s' := by
  obtain ⟨h1, h2⟩ := h.zero
  simp only at h1 h2
  have e : (acc.snoc x).len = acc.len + 1 := F.len_snoc _ _
  have h3 := hf.len
  have h4 := hf.dep
  have h5 := hf.size
  have h6 : s'.n = s.n + x.size := h.size
  rw [if_neg h0] at h3
  rw [cw_succ hl, tlen_sg hi] at h2
  refine ⟨snoc_wf hf.wf h.wf, snoc_num hf.num h.num, by rw [snoc_size]; omega, ?_, ?_⟩
  · rw [snoc_tp, most_app]; omega
  · rw [comma_snoc, if_neg h0, e, if_neg (by omega), snoc_size]
    simp only [List.length_cons, List.length_nil] at h2
    omega
theorem formed_row {o : Int} {len : Nat} (h : o = 5 ∧ len ≤ 16 ∨ o = 12 ∧ len = 1 ∨ (o = 25 ∨ o = 26) ∧ len = 2) : formedB o 0 [] len = true ∧ namedB o [] = true := by
  rcases h with ⟨rfl, h⟩ | ⟨rfl, rfl⟩ | ⟨rfl | rfl, rfl⟩
  · refine ⟨?_, by rfl⟩
    unfold formedB cntB
    simp [h]
  all_goals exact ⟨by rfl, by rfl⟩
theorem call_len (o : Int) (a : F) (ho : o = 12 ∨ o = 25 ∨ o = 26) : (flat (T.tp ⟨o, 0, [], a⟩).ps).length = (callW o).length + 2 + (flat (commaP (tpF a))).length := by
  rw [tp_call ho]
  simp only [callP, flat_cons, flat_append, flat_nil, spP, spB_name, spB_sign, List.length_append, List.length_cons, List.length_nil]
  omega
theorem list_len (a : F) : (flat (T.tp ⟨5, 0, [], a⟩).ps).length = 2 + (flat (commaP (tpF a))).length := by
  rw [tp_list]
  simp only [flat_cons, flat_append, flat_nil, spP, spB_sign, List.length_append, List.length_cons, List.length_nil]
  omega
theorem args_snd {ts : List TA} (he : Ends ts) {rec : St → R} (hr : RecOk ts rec) (hq : RecS ts 0 rec) {op : Int} {s0 : St} : ∀ (k : Nat) (acc : F) (s : St) (t : T) (s' : St), StOk ts s → s.open_ = s0.open_ → acc.len ≠ 0 → SndF ts s0 acc s → argsR rec ts op k acc s = .ok t s' →
    ∃ a s2, t = ⟨op, 0, [], a⟩ ∧ a.len = acc.len + k ∧ SndF ts s0 a s2 ∧ isS ts s2.at_ [41] = true ∧ s2.at_ < ts.length ∧ s2.open_ = s0.open_ ∧ s' = ⟨s2.at_ + 1, s2.n, s2.open_ - 1⟩
  | 0, acc, s, t, s', hs, ho, h0, hf, h => by
    obtain ⟨rfl, h1, rfl⟩ := leave_snd h
    exact ⟨acc, s, rfl, rfl, hf, h1, hs.at_, ho, rfl⟩
  | k + 1, acc, s, t, s', hs, ho, h0, hf, h => by
    unfold argsR at h
    split at h
    · rename_i hi
      obtain ⟨y, s2, h1, h2⟩ := then_ok h
      have hn := he.next hs.at_ (isS_ne hi)
      have hs1 : StOk ts ⟨s.at_ + 1, s.n, s.open_⟩ := ⟨hn, hs.n, hs.op⟩
      have hb := hr _ _ _ hs1 h1
      have hc := hq _ _ _ hs1 h1
      have hm := hf.more h0 hs.at_ hi ho hc
      have e : (acc.snoc y).len = acc.len + 1 := F.len_snoc _ _
      obtain ⟨a, s3, e1, e2, e3⟩ := args_snd he hr hq k _ s2 t s' (hb.ok hs.op) (by rw [hb.op]; exact ho) (by omega) hm h2
      exact ⟨a, s3, e1, by omega, e3⟩
    · cases h
theorem elems_snd {ts : List TA} (he : Ends ts) {rec : St → R} (hr : RecOk ts rec) (hq : RecS ts 0 rec) {s0 : St} : ∀ (k : Nat) (acc : F) (s : St) (t : T) (s' : St), StOk ts s → s.open_ = s0.open_ → (acc.len = 0 → s = s0) → acc.len ≤ 16 → SndF ts s0 acc s → elemsR rec ts k acc s = .ok t s' →
    ∃ a s2, t = ⟨5, 0, [], a⟩ ∧ a.len ≤ 16 ∧ SndF ts s0 a s2 ∧ isS ts s2.at_ [93] = true ∧ s2.at_ < ts.length ∧ s2.open_ = s0.open_ ∧ s' = ⟨s2.at_ + 1, s2.n, s2.open_ - 1⟩
  | 0, acc, s, t, s', hs, ho, h0, h16, hf, h => by cases h
  | k + 1, acc, s, t, s', hs, ho, h0, h16, hf, h => by
    unfold elemsR at h
    split at h
    · rename_i hi
      cases h
      exact ⟨acc, s, rfl, h16, hf, hi, hs.at_, ho, rfl⟩
    · split at h
      · rename_i hz
        obtain ⟨y, s2, h1, h2⟩ := then_ok h
        have hb := hr _ _ _ hs h1
        have hc := hq _ _ _ hs h1
        have e0 := h0 hz
        obtain rfl := F.none_of hz
        subst e0
        have hm : SndF ts s (F.nil.snoc y) s2 := SndF.one rfl rfl rfl hc
        have e : (F.nil.snoc y).len = 1 := F.len_snoc _ _
        exact elems_snd he hr hq k _ s2 t s' (hb.ok hs.op) hb.op (by rw [e]; intro h; cases h) (by rw [e]; omega) hm h2
      · rename_i hz
        split at h
        · rename_i hi
          split at h
          · split at h <;> cases h
          · rename_i hne
            obtain ⟨y, s2, h1, h2⟩ := then_ok h
            have hn := he.next hs.at_ (isS_ne hi)
            have hs1 : StOk ts ⟨s.at_ + 1, s.n, s.open_⟩ := ⟨hn, hs.n, hs.op⟩
            have hb := hr _ _ _ hs1 h1
            have hc := hq _ _ _ hs1 h1
            have hm := hf.more hz hs.at_ hi ho hc
            have e : (acc.snoc y).len = acc.len + 1 := F.len_snoc _ _
            exact elems_snd he hr hq k _ s2 t s' (hb.ok hs.op) (by rw [hb.op]; exact ho) (by rw [e]; intro h; omega) (by rw [e]; omega) hm h2
        · cases h
theorem enter_snd {ts : List TA} (he : Ends ts) {k : St → R} {t : T} {s s' : St} (hs : StOk ts s) (hk : (tk ts s.at_).kind ≠ 0) (h : enterR s k = .ok t s') :
    StOk ts ⟨s.at_ + 1, s.n + 1, s.open_ + 1⟩ ∧ k ⟨s.at_ + 1, s.n + 1, s.open_ + 1⟩ = .ok t s' := by
  obtain ⟨s1, rfl, h1, h2⟩ := enter_st he hs hk h
  exact ⟨h1, h2⟩
theorem list_snd {ts : List TA} (he : Ends ts) {rec : St → R} (hr : RecOk ts rec) (hq : RecS ts 0 rec) {s s' : St} {t : T} (hs : StOk ts s) (hi : isS ts s.at_ [91] = true) (h : (enterR s fun s1 => elemsR rec ts 18 .nil s1) = .ok t s') : Snd ts 5 s t s' := by
  obtain ⟨ho1, h1⟩ := enter_snd he hs (isS_ne hi) h
  obtain ⟨a, s3, rfl, ha, hf, hi2, hl, hop, rfl⟩ := elems_snd he hr hq 18 .nil _ t s' ho1 rfl (fun _ => rfl) (by simp [F.len]) (SndF.nil ho1.op) h1
  obtain ⟨f1, f2⟩ := formed_row (o := 5) (len := a.len) (.inl ⟨rfl, ha⟩)
  have hb6 : bound (T.mk 5 0 [] a).op = 6 := rfl
  have g1 := hf.size
  have g2 := hf.dep
  have g3 := hf.len
  simp only at g1 g2 g3
  refine ⟨row_wf f1 f2 hf.wf, row_num (by omega) hf.num, ?_, ?_, ?_⟩
  · show s3.n = s.n + (a.size + 1); omega
  · rw [within_six hb6 (by omega), tp_list]
    show s.open_ + (mostP (tpF a) + 1) ≤ 20
    omega
  · rw [within_six hb6 (by omega)]
    show (flat (T.tp ⟨5, 0, [], a⟩).ps).length + cw ts s.at_ + 1 ≤ cw ts (s3.at_ + 1) + 3 * (a.size + 1)
    rw [list_len, cw_succ hl, tlen_sg hi2]
    have e1 : cw ts (s.at_ + 1) = cw ts s.at_ + 1 := by rw [cw_succ hs.at_, tlen_sg hi]; rfl
    simp only [List.length_cons, List.length_nil]
    split at g3 <;> omega
theorem loop_snd {ts : List TA} (he : Ends ts) {rec : St → R} (hr : RecOk ts rec) {n : Nat} (hn4 : n ≤ 4) (hq : RecS ts (n + 1) rec) {s0 : St} : ∀ (k : Nat) (x : T) (s : St) (t : T) (s' : St), StOk ts s → s.open_ = s0.open_ → Snd ts (if n = 2 then 3 else n) s0 x s → loopR rec ts n k x s = .ok t s' → Snd ts n s0 t s'
  | 0, x, s, t, s', hs, ho, hx, h => by
    unfold loopR at h
    cases h
    exact hx.low (by split <;> omega)
  | k + 1, x, s, t, s', hs, ho, hx, h => by
    unfold loopR at h
    split at h
    · cases h
      exact hx.low (by split <;> omega)
    · rename_i op turned hop
      split at h
      · cases h
      · obtain ⟨y, s2, h1, h2⟩ := then_ok h
        have hk5 := opAt_kind hop
        have hnx := he.next hs.at_ (by rw [hk5]; decide)
        have h3 := hs.n
        have ha : StOk ts ⟨s.at_ + 1, s.n + 1, s.open_⟩ := ⟨hnx, by simp; omega, hs.op⟩
        have hb := hr _ _ _ ha h1
        have hc := hq _ _ _ ha h1
        have hsg : (op = 41 ∨ op = 40 ∨ op = 30 ∨ op = 31 ∨ op = 32 ∨ op = 33 ∨ op = 23 ∨ op = 24 ∨ op = 20 ∨ op = 21 ∨ op = 22) ∧ bound op = n ∧ (signL op).length = tlen (tk ts s.at_) ∧ (turned = true → n = 2) := by
          have htl : tlen (tk ts s.at_) = (tk ts s.at_).text.length := by
            unfold tlen bare spB
            simp only [hk5]
            simp [spellM]
          unfold opAt at hop
          rw [if_pos hk5] at hop
          rw [htl]
          unfold opOf at hop
          split at hop
          all_goals (repeat' split at hop)
          all_goals first
            | (cases hop; done)
            | (simp only [Option.some.injEq, Prod.mk.injEq] at hop
               obtain ⟨rfl, rfl⟩ := hop
               rename_i he2
               rw [he2]
               exact ⟨by omega, by rfl, by rfl, by simp⟩)
        obtain ⟨hops, hbn, hsl, htu⟩ := hsg
        have hform : formedB op 0 [] 2 = true ∧ namedB op [] = true := by
          rcases hops with rfl | rfl | rfl | rfl | rfl | rfl | rfl | rfl | rfl | rfl | rfl <;> exact ⟨by rfl, by rfl⟩
        have hcw : cw ts (s.at_ + 1) = cw ts s.at_ + (signL op).length := by rw [cw_succ hs.at_, hsl]
        have hnode : ∀ u v : T, (u = x ∧ v = y ∧ turned = false) ∨ (u = y ∧ v = x ∧ turned = true) → Snd ts n s0 ⟨op, 0, [], two u v⟩ s2 := by
          intro u v huv
          have hlx := hx.len
          have hdx := hx.dep
          have hsx := hx.size
          have hly := hc.len
          have hdy := hc.dep
          have hsy := hc.size
          simp only at hly hdy hsy
          have hwu : WfF (two u v) ∧ NumF (two u v) := by
            rcases huv with ⟨rfl, rfl, _⟩ | ⟨rfl, rfl, _⟩
            · exact ⟨⟨hx.wf.1, hx.wf.2.1, hx.wf.2.2.1, hc.wf⟩, ⟨hx.num.1, hx.num.2.1, hc.num⟩⟩
            · exact ⟨⟨hc.wf.1, hc.wf.2.1, hc.wf.2.2.1, hx.wf⟩, ⟨hc.num.1, hc.num.2.1, hx.num⟩⟩
          have hl2 : (two u v).len = 2 := rfl
          have hw : (T.tp ⟨op, 0, [], two u v⟩).within n = _ := within_no (by rw [T.tp_op]; show ¬ bound op < n; omega)
          have hsz : T.size ⟨op, 0, [], two u v⟩ = u.size + v.size + 1 := by show F.size (two u v) + 1 = _; rw [two_size]
          have huv2 : u.size + v.size = x.size + y.size := by rcases huv with ⟨rfl, rfl, _⟩ | ⟨rfl, rfl, _⟩ <;> omega
          have hmain : max (u.tp.within (if bound op = 2 then 3 else bound op)).2 (v.tp.within (bound op + 1)).2 ≤ 20 - s0.open_ ∧ (flat (u.tp.within (if bound op = 2 then 3 else bound op)).1).length + (flat (v.tp.within (bound op + 1)).1).length + cw ts s0.at_ + (signL op).length + 2 ≤ cw ts s2.at_ + 3 * (x.size + y.size) := by
            rw [hbn]
            rcases huv with ⟨rfl, rfl, _⟩ | ⟨rfl, rfl, ht⟩
            · refine ⟨by omega, by omega⟩
            · have h2 := htu ht
              rw [if_pos h2] at hlx hdx ⊢
              rw [h2] at hly hdy ⊢
              rw [show (2 : Nat) + 1 = 3 from rfl] at hly hdy ⊢
              refine ⟨by omega, by omega⟩
          have hop20 : s0.open_ ≤ 20 := by rw [← ho]; exact hs.op
          refine ⟨row_wf (by rw [hl2]; exact hform.1) hform.2 hwu.1, row_num (by omega) hwu.2, by rw [hsz]; omega, ?_, ?_⟩
          · rw [hw, tp_two hops]
            simp only
            omega
          · rw [hw, tp_two hops, hsz]
            simp only [flat_append, flat_cons, spP, spB_sign, List.length_append, List.length_cons, List.length_nil]
            have := hmain.2
            omega
        have hb2 : s2.open_ = s0.open_ := by rw [hb.op]; exact ho
        split at h2
        · cases h2
          cases turned with
          | true => exact hnode y x (.inr ⟨rfl, rfl, rfl⟩)
          | false => exact hnode x y (.inl ⟨rfl, rfl, rfl⟩)
        · rename_i hn2
          have hsn : Snd ts (if n = 2 then 3 else n) s0 ⟨op, 0, [], if turned = true then two y x else two x y⟩ s2 := by
            rw [if_neg hn2]
            cases turned with
            | true => exact hnode y x (.inr ⟨rfl, rfl, rfl⟩)
            | false => exact hnode x y (.inl ⟨rfl, rfl, rfl⟩)
          exact loop_snd he hr hn4 hq k _ s2 t s' (hb.ok hs.op) hb2 hsn h2
theorem group_snd {ts : List TA} (he : Ends ts) {rec : St → R} (hr : RecOk ts rec) (hq : RecS ts 0 rec) {s s' : St} {t : T} (hs : StOk ts s) (hi : isS ts s.at_ [40] = true) (h : groupR rec ts s = .ok t s') : Snd ts 5 s t s' := by
  unfold groupR at h
  split at h
  · cases h
  · rename_i ho
    obtain ⟨y, s2, h1, h2⟩ := then_ok h
    have hn := he.next hs.at_ (isS_ne hi)
    have hop := hs.op
    have hs1 : StOk ts ⟨s.at_ + 1, s.n, s.open_ + 1⟩ := ⟨hn, hs.n, by simp; omega⟩
    have hB := hr _ _ _ hs1 h1
    have hC := hq _ _ _ hs1 h1
    obtain ⟨rfl, hi2, rfl⟩ := leave_snd h2
    obtain ⟨g1, g2⟩ := hC.zero
    simp only at g1 g2
    have g3 := hC.size
    simp only at g3
    have e1 : cw ts (s.at_ + 1) = cw ts s.at_ + 1 := by rw [cw_succ hs.at_, tlen_sg hi]; rfl
    have e2 : cw ts (s2.at_ + 1) = cw ts s2.at_ + 1 := by rw [cw_succ hB.lt, tlen_sg hi2]; rfl
    refine ⟨hC.wf, hC.num, g3, ?_, ?_⟩
    · by_cases hb : bound t.tp.op < 5
      · rw [within_yes hb]; simp only; omega
      · rw [within_no hb]; simp only; omega
    · show _ ≤ cw ts (s2.at_ + 1) + _
      by_cases hb : bound t.tp.op < 5
      · rw [within_yes hb]
        simp only [flat_cons, flat_append, flat_nil, spP, spB_sign, List.length_append, List.length_cons, List.length_nil]
        omega
      · rw [within_no hb]; simp only; omega
theorem tlen_kind {t : TA} {o n : Int} {x : List UInt8} (h : spB (bare t) = flat (leafP o n x)) : (flat (leafP o n x)).length = tlen t := by
  unfold tlen
  rw [h]
theorem word_snd {ts : List TA} (he : Ends ts) (hv : ∀ i, TokV (tk ts i)) {rec : St → R} (hr : RecOk ts rec) (hq : RecS ts 0 rec) {s s' : St} {t : T} (hs : StOk ts s) (hk : (tk ts s.at_).kind = 1) (h : wordR rec ts (tk ts s.at_).text s = .ok t s') : Snd ts 5 s t s' := by
  have hnm := (hv s.at_).name (.inl hk)
  have hsp : spB (bare (tk ts s.at_)) = (tk ts s.at_).text := by
    unfold bare spB
    simp only [hk]
    simp [spellM]
  have hcall : ∀ {op : Int} {n : Nat}, (op = 12 ∧ n = 1 ∨ (op = 25 ∨ op = 26) ∧ n = 2) → (tk ts s.at_).text = callW op → callR rec ts op n s = .ok t s' → Snd ts 5 s t s' := by
    intro op n ho ht hc
    unfold callR at hc
    split at hc
    · rename_i hi
      have hn := he.next hs.at_ (by rw [hk]; decide)
      obtain ⟨ho1, h1⟩ := enter_snd he (⟨hn, hs.n, hs.op⟩ : StOk ts ⟨s.at_ + 1, s.n, s.open_⟩) (isS_ne hi) hc
      obtain ⟨y, s2, h2, h3⟩ := then_ok h1
      have ho3 : op = 12 ∨ op = 25 ∨ op = 26 := by omega
      have hB := hr _ _ _ ho1 h2
      have hC := hq _ _ _ ho1 h2
      have hm : SndF ts ⟨s.at_ + 1 + 1, s.n + 1, s.open_ + 1⟩ (F.nil.snoc y) s2 := SndF.one rfl rfl rfl hC
      have e : (F.nil.snoc y).len = 1 := F.len_snoc _ _
      obtain ⟨a, s3, rfl, ha, hf, hi2, hl, hop, rfl⟩ := args_snd he hr hq _ _ s2 t s' (hB.ok ho1.op) hB.op (by omega) hm h3
      obtain ⟨f1, f2⟩ := formed_row (o := op) (len := a.len) (by omega)
      have hb6 : bound (T.mk op 0 [] a).op = 6 := bound_six (by simp only; omega)
      have g1 := hf.size
      have g2 := hf.dep
      have g3 := hf.len
      rw [if_neg (by omega)] at g3
      simp only at g1 g2 g3
      refine ⟨row_wf f1 f2 hf.wf, row_num (by omega) hf.num, ?_, ?_, ?_⟩
      · show s3.n = s.n + (a.size + 1); omega
      · rw [within_six hb6 (by omega), tp_call ho3]
        show s.open_ + (mostP (tpF a) + 1) ≤ 20
        omega
      · rw [within_six hb6 (by omega)]
        show (flat (T.tp ⟨op, 0, [], a⟩).ps).length + cw ts s.at_ + 1 ≤ cw ts (s3.at_ + 1) + 3 * (a.size + 1)
        rw [call_len op a ho3, cw_succ hl, tlen_sg hi2]
        have e1 : cw ts (s.at_ + 1) = cw ts s.at_ + (callW op).length := by
          rw [cw_succ hs.at_]
          unfold tlen
          rw [hsp, ht]
        have e2 : cw ts (s.at_ + 1 + 1) = cw ts (s.at_ + 1) + 1 := by rw [cw_succ hn, tlen_sg hi]; rfl
        simp only [List.length_cons, List.length_nil]
        omega
    · cases hc
  unfold wordR at h
  split at h
  · rename_i e; exact hcall (.inl ⟨rfl, rfl⟩) e h
  split at h
  · rename_i e; exact hcall (.inr ⟨.inl rfl, rfl⟩) e h
  split at h
  · rename_i e; exact hcall (.inr ⟨.inr rfl, rfl⟩) e h
  split at h
  · rename_i e
    unfold fieldR at h
    split at h
    · rename_i hi
      have hn := he.next hs.at_ (by rw [hk]; decide)
      have hn2 := he.next hn (isS_ne hi)
      split at h
      · rename_i hf
        unfold leafR at h
        split at h
        · cases h
        · cases h
          have hnm2 := (hv (s.at_ + 2)).name (.inl hf)
          have e1 : cw ts (s.at_ + 1) = cw ts s.at_ + 3 := by
            rw [cw_succ hs.at_]
            unfold tlen
            rw [hsp, e]; rfl
          have e2 : cw ts (s.at_ + 1 + 1) = cw ts (s.at_ + 1) + 1 := by rw [cw_succ hn, tlen_sg hi]; rfl
          have e3 : cw ts (s.at_ + 2 + 1) = cw ts (s.at_ + 1 + 1) + (tk ts (s.at_ + 2)).text.length := by
            rw [cw_succ hn2]
            unfold tlen bare spB
            simp only [hf]
            simp [spellM]
          refine ⟨row_wf ?_ ?_ trivial, row_num (by omega) trivial, rfl, ?_, ?_⟩
          · unfold formedB cntB; simp [F.len]
          · unfold namedB; simp [hnm2]
          · rw [within_six (bound_six (by simp)) (by omega), tp_leaf (by simp)]; exact hs.op
          · rw [within_six (bound_six (by simp)) (by omega), tp_leaf (by simp)]
            show (flat (leafP 7 0 _)).length + _ + 1 ≤ cw ts (s.at_ + 2 + 1) + 3 * 1
            have el : (flat (leafP 7 0 (tk ts (s.at_ + 2)).text)).length = 4 + (tk ts (s.at_ + 2)).text.length := by
              simp [leafP, flat_cons, flat_nil, spP, spB_name, spB_sign, wMsg]; omega
            rw [el]
            omega
      · cases h
    · cases h
  rename_i n1 n2 n3 n4
  split at h
  · rename_i e
    exact leaf_snd hs (by simp) (by rfl) (by rfl) (by omega) (tlen_kind (by rw [hsp, e]; rfl)) h
  split at h
  · rename_i e
    exact leaf_snd hs (by simp) (by rfl) (by rfl) (by omega) (tlen_kind (by rw [hsp, e]; rfl)) h
  · rename_i n5 n6
    refine leaf_snd hs (by simp) ?_ ?_ (by omega) (tlen_kind (by rw [hsp]; simp [leafP, flat_cons, flat_nil, spP, spB_name])) h
    · unfold formedB cntB; simp
    · unfold namedB takenB
      simp [hnm, n1, n2, n3, n4, n5, n6]
theorem prim_snd {ts : List TA} (he : Ends ts) (hv : ∀ i, TokV (tk ts i)) {rec : St → R} (hr : RecOk ts rec) (hq : RecS ts 0 rec) {s s' : St} {t : T} (hs : StOk ts s) (h : primR rec ts s = .ok t s') : Snd ts 5 s t s' := by
  unfold primR at h
  split at h
  · rename_i hk; exact word_snd he hv hr hq hs hk h
  split at h
  · rename_i hk
    have hnum := (hv s.at_).num hk
    refine leaf_snd hs (by simp) ?_ (by rfl) hnum.2 (tlen_kind ?_) h
    · unfold formedB cntB; simp [hnum.1]
    · unfold bare spB; simp only [hk]; simp [spellM, leafP, flat_cons, flat_nil, spP, spB]
  split at h
  · rename_i hk
    have hlen := (hv s.at_).text hk
    refine leaf_snd hs (by simp) ?_ (by rfl) (by omega) (tlen_kind ?_) h
    · unfold formedB cntB; simp [hlen]
    · unfold bare spB; simp only [hk]; simp [spellM, leafP, flat_cons, flat_nil, spP, spB]
  split at h
  · rename_i hk
    have hnm := (hv s.at_).name (.inr hk)
    refine leaf_snd hs (by simp) ?_ ?_ (by omega) (tlen_kind ?_) h
    · unfold formedB cntB; simp
    · unfold namedB; simp [hnm]
    · unfold bare spB; simp only [hk]; simp [spellM, leafP, flat_cons, flat_nil, spP, spB]
  split at h
  · rename_i hk; exact group_snd he hr hq hs hk h
  split at h
  · rename_i hk; exact list_snd he hr hq hs hk h
  · cases h
theorem lv_snd {ts : List TA} (he : Ends ts) (hv : ∀ i, TokV (tk ts i)) : ∀ f n, n ≤ 5 → RecS ts n (lv ts f n)
  | 0, n, _ => fun s t s' hs h => by cases h
  | f + 1, n, hn5 => fun s t s' hs h => by
    unfold lv at h
    split at h
    · rename_i h5
      subst h5
      split at h
      · rename_i op ho
        have hk5 := unAt_kind ho
        obtain ⟨ho1, h1⟩ := enter_snd he hs (by rw [hk5]; decide) h
        obtain ⟨x, s2, h2, h3⟩ := then_ok h1
        have hb := lv_snd he hv f 5 (by omega) _ _ _ ho1 h2
        cases h3
        have hop : op = 10 ∨ op = 11 := by
          unfold unAt at ho
          rw [if_pos hk5] at ho
          split at ho
          · left; simpa using ho.symm
          · split at ho
            · right; simpa using ho.symm
            · cases ho
        have htl : tlen (tk ts s.at_) = 1 := by
          unfold tlen bare spB
          simp only [hk5]
          unfold unAt at ho
          rw [if_pos hk5] at ho
          split at ho
          · rename_i e; rw [e]; rfl
          · split at ho
            · rename_i e; rw [e]; rfl
            · cases ho
        have e1 : cw ts (s.at_ + 1) = cw ts s.at_ + 1 := by rw [cw_succ hs.at_, htl]
        have g1 := hb.size
        have g2 := hb.dep
        have g3 := hb.len
        simp only at g1 g2 g3
        have hb5 : bound op = 5 := by rcases hop with rfl | rfl <;> rfl
        have hw : (T.tp ⟨op, 0, [], x.row⟩).within 5 = _ := within_no (by rw [T.tp_op]; show ¬ bound op < 5; omega)
        have hsz : T.size ⟨op, 0, [], x.row⟩ = x.size + 1 := by show F.size x.row + 1 = _; rw [row_size]
        have hl1 : x.row.len = 1 := rfl
        refine ⟨row_wf ?_ ?_ hb.wf, row_num (by omega) hb.num, by rw [hsz]; simp only; omega, ?_, ?_⟩
        · rw [hl1]; rcases hop with rfl | rfl <;> rfl
        · rcases hop with rfl | rfl <;> rfl
        · rw [hw, tp_un hop]; simp only; omega
        · rw [hw, tp_un hop, hsz]
          simp only [flat_cons, spP, spB_sign, List.length_append]
          have el : (if op = 10 then [(33 : UInt8)] else [45]).length = 1 := by split <;> rfl
          rw [el]
          omega
      · exact prim_snd he hv (lv_st he f 0) (lv_snd he hv f 0 (by omega)) hs h
    · rename_i h5
      obtain ⟨x, s1, h1, h2⟩ := then_ok h
      have hb := lv_st he f (n + 1) _ _ _ hs h1
      have hc := lv_snd he hv f (n + 1) (by omega) _ _ _ hs h1
      exact loop_snd he (lv_st he f (n + 1)) (by omega) (lv_snd he hv f (n + 1) (by omega)) _ _ _ _ _ (hb.ok hs.op) hb.op (hc.low (by split <;> omega)) h2
end Go.Proofs.YtlmmfhbdebfgkaaGreatDoor.Ex
