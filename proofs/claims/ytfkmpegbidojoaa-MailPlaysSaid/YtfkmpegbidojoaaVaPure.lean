/-
  Values as plain data: names, the order, the texts, the keys; plain mathematics.
-/
namespace Go.Proofs.Ytfkmpegbidojoaa.Va

structure V where
  kind : Int
  num : Int
  text : List UInt8
  list : List Int

/-! ### names -/
def letB (c : UInt8) : Bool := (97 ≤ c && c ≤ 122) || (65 ≤ c && c ≤ 90)
def digB (c : UInt8) : Bool := 48 ≤ c && c ≤ 57
def wordB (c : UInt8) : Bool := letB c || digB c || c == 95
def nameB (s : List UInt8) : Bool := match s with
  | [] => false
  | c :: r => letB c && r.all wordB && decide (r.length ≤ 23)
theorem nameB_take (s : List UInt8) (h : nameB s = true) (k : Nat) (hk : 1 ≤ k) : nameB (s.take k) = true := by
  cases s with
  | nil => simp [nameB] at h
  | cons c r =>
    obtain ⟨k, rfl⟩ : ∃ n, k = n + 1 := ⟨k - 1, by omega⟩
    simp only [nameB, Bool.and_eq_true, decide_eq_true_eq, List.take_succ_cons, List.all_eq_true] at h ⊢
    exact ⟨⟨h.1.1, fun x hx => h.1.2 x (List.mem_of_mem_take hx)⟩, by rw [List.length_take]; omega⟩
theorem nameB_one (s : List UInt8) : nameB (49 :: s) = false := by simp [nameB, letB]
theorem nameB_low (s : List UInt8) : nameB (95 :: s) = false := by simp [nameB, letB]
theorem nameB_single (c : UInt8) : nameB [c] = letB c := by simp [nameB]
theorem nameB_append (s t : List UInt8) (h : nameB s = true) : nameB (s ++ t) = (decide ((s ++ t).length ≤ 24) && t.all wordB) := by
  cases s with
  | nil => simp [nameB] at h
  | cons c r =>
    simp only [nameB, Bool.and_eq_true, decide_eq_true_eq] at h
    simp only [nameB, List.cons_append, List.all_append, h.1.1, h.1.2, Bool.true_and, List.length_cons]
    rw [Bool.and_comm]
    congr 1
    rw [Bool.eq_iff_iff]
    simp
theorem nameB_ne {s : List UInt8} (h : nameB s = true) : s ≠ [] ∧ s.length ≤ 24 ∧ ∀ c ∈ s, wordB c = true := by
  cases s with
  | nil => simp [nameB] at h
  | cons c r =>
    simp only [nameB, Bool.and_eq_true, decide_eq_true_eq, List.all_eq_true] at h
    refine ⟨by simp, by simp; omega, ?_⟩
    intro x hx
    rcases List.mem_cons.1 hx with rfl | hx
    · simp [wordB, h.1.1]
    · exact h.1.2 x hx

def rightB (v : V) : Bool :=
  decide (0 ≤ v.kind ∧ v.kind ≤ 5) && (v.kind == 1 || (v.kind == 2 && (v.num == 0 || v.num == 1)) || v.num == 0) &&
  ((v.kind == 3 && decide (v.text.length ≤ 64)) || (v.kind == 4 && nameB v.text) || (v.kind != 3 && v.kind != 4 && v.text.isEmpty)) &&
  ((v.kind == 5 && decide (v.list.length ≤ 16)) || (v.kind != 5 && v.list.isEmpty))

/-! ### the order -/
def ordI (a b : Int) : Int := if a < b then -1 else if b < a then 1 else 0
def ordL : List Int → List Int → Int
  | [], [] => 0
  | [], _ :: _ => -1
  | _ :: _, [] => 1
  | a :: r, b :: s => if a = b then ordL r s else ordI a b
def ordT : List UInt8 → List UInt8 → Int
  | [], [] => 0
  | [], _ :: _ => -1
  | _ :: _, [] => 1
  | a :: r, b :: s => if a = b then ordT r s else ordI a.toNat b.toNat
def ordV (a b : V) : Int :=
  if a.kind ≠ b.kind then ordI a.kind b.kind else if a.num ≠ b.num then ordI a.num b.num else if a.text ≠ b.text then ordT a.text b.text else ordL a.list b.list

/-- A comparison is one. -/
structure Cmp {α : Type} (c : α → α → Int) : Prop where
  swap : ∀ a b, c b a = - c a b
  zero : ∀ a b, c a b = 0 ↔ a = b
  trans : ∀ a b d, c a b < 0 → c b d < 0 → c a d < 0
theorem Cmp.le {α : Type} {c : α → α → Int} (h : Cmp c) {a b d : α} (h1 : c a b ≤ 0) (h2 : c b d ≤ 0) : c a d ≤ 0 := by
  by_cases e1 : c a b = 0
  · rw [(h.zero a b).1 e1]; exact h2
  · by_cases e2 : c b d = 0
    · rw [← (h.zero b d).1 e2]; exact h1
    · have := h.trans a b d (by omega) (by omega); omega
theorem Cmp.ge {α : Type} {c : α → α → Int} (h : Cmp c) {a b d : α} (h1 : 0 ≤ c a b) (h2 : 0 ≤ c b d) : 0 ≤ c a d := by
  have h3 := h.swap a b
  have h4 := h.swap b d
  have h5 := h.swap a d
  have := h.le (a := d) (b := b) (d := a) (by omega) (by omega)
  omega
theorem cmpI : Cmp ordI := by
  refine ⟨?_, ?_, ?_⟩
  · intro a b; unfold ordI; split <;> split <;> (try split) <;> omega
  · intro a b; unfold ordI; split <;> (try split) <;> constructor <;> intro h <;> omega
  · intro a b d; unfold ordI; split <;> split <;> (try split) <;> (try split) <;> (try split) <;> omega
theorem ordL_swap : ∀ a b, ordL b a = - ordL a b
  | [], [] => rfl
  | [], _ :: _ => rfl
  | _ :: _, [] => rfl
  | a :: r, b :: s => by
    unfold ordL
    by_cases h : a = b
    · rw [if_pos h, if_pos h.symm]; exact ordL_swap r s
    · rw [if_neg h, if_neg (fun e => h e.symm)]; exact cmpI.swap a b
theorem ordL_zero : ∀ a b, ordL a b = 0 ↔ a = b
  | [], [] => by simp [ordL]
  | [], _ :: _ => by simp [ordL]
  | _ :: _, [] => by simp [ordL]
  | a :: r, b :: s => by
    unfold ordL
    by_cases h : a = b
    · rw [if_pos h, ordL_zero r s]; simp [h]
    · rw [if_neg h, cmpI.zero]; simp [h]
theorem ordL_trans : ∀ a b d, ordL a b < 0 → ordL b d < 0 → ordL a d < 0
  | [], [], _, h, _ => by simp [ordL] at h
  | [], _ :: _, [], _, h => by simp [ordL] at h
  | [], _ :: _, _ :: _, _, _ => by simp [ordL]
  | _ :: _, [], _, h, _ => by simp [ordL] at h
  | _ :: _, _ :: _, [], _, h => by simp [ordL] at h
  | a :: r, b :: s, d :: t, h1, h2 => by
    unfold ordL at h1 h2 ⊢
    by_cases e1 : a = b
    · subst e1
      rw [if_pos rfl] at h1
      by_cases e2 : a = d
      · rw [if_pos e2] at h2 ⊢; exact ordL_trans r s t h1 h2
      · rw [if_neg e2] at h2 ⊢; exact h2
    · rw [if_neg e1] at h1
      by_cases e2 : b = d
      · subst e2; rw [if_neg e1]; exact h1
      · rw [if_neg e2] at h2
        have := cmpI.trans a b d h1 h2
        by_cases e3 : a = d
        · subst e3; have := cmpI.swap a b; omega
        · rw [if_neg e3]; exact this
theorem cmpL : Cmp ordL := ⟨ordL_swap, ordL_zero, ordL_trans⟩
theorem ordT_map : ∀ a b : List UInt8, ordT a b = ordL (a.map fun c => (c.toNat : Int)) (b.map fun c => (c.toNat : Int))
  | [], [] => rfl
  | [], _ :: _ => rfl
  | _ :: _, [] => rfl
  | a :: r, b :: s => by
    simp only [ordT, ordL, List.map_cons]
    by_cases h : a = b
    · subst h; rw [if_pos rfl, if_pos rfl]; exact ordT_map r s
    · rw [if_neg h, if_neg (fun e => h (UInt8.toNat_inj.1 (by omega)))]
theorem map_inj {a b : List UInt8} (h : a.map (fun c => (c.toNat : Int)) = b.map fun c => (c.toNat : Int)) : a = b := by
  induction a generalizing b with
  | nil => cases b with
    | nil => rfl
    | cons => simp at h
  | cons x r ih => cases b with
    | nil => simp at h
    | cons y s =>
      simp only [List.map_cons, List.cons.injEq] at h
      rw [ih h.2, UInt8.toNat_inj.1 (show x.toNat = y.toNat by omega)]
theorem cmpT : Cmp ordT := by
  refine ⟨fun a b => ?_, fun a b => ?_, fun a b d => ?_⟩
  · rw [ordT_map, ordT_map]; exact ordL_swap _ _
  · rw [ordT_map, ordL_zero]; exact ⟨map_inj, fun h => by rw [h]⟩
  · rw [ordT_map, ordT_map, ordT_map]; exact ordL_trans _ _ _
theorem ordV_eq (a b : V) : ordV a b = if a.kind = b.kind then (if a.num = b.num then (if a.text = b.text then ordL a.list b.list else ordT a.text b.text) else ordI a.num b.num) else ordI a.kind b.kind := by
  simp only [ordV, ne_eq, ite_not]
theorem ordV_swap (a b : V) : ordV b a = - ordV a b := by
  have x := ordV_eq b a
  have y := ordV_eq a b
  by_cases h1 : a.kind = b.kind
  · rw [if_pos h1.symm] at x
    rw [if_pos h1] at y
    by_cases h2 : a.num = b.num
    · rw [if_pos h2.symm] at x
      rw [if_pos h2] at y
      by_cases h3 : a.text = b.text
      · rw [if_pos h3.symm] at x
        rw [if_pos h3] at y
        rw [x, y]; exact ordL_swap _ _
      · rw [if_neg (fun e => h3 e.symm)] at x
        rw [if_neg h3] at y
        rw [x, y]; exact cmpT.swap _ _
    · rw [if_neg (fun e => h2 e.symm)] at x
      rw [if_neg h2] at y
      rw [x, y]; exact cmpI.swap _ _
  · rw [if_neg (fun e => h1 e.symm)] at x
    rw [if_neg h1] at y
    rw [x, y]; exact cmpI.swap _ _
theorem ordV_zero (a b : V) : ordV a b = 0 ↔ a = b := by
  unfold ordV
  obtain ⟨k, n, t, l⟩ := a
  obtain ⟨k', n', t', l'⟩ := b
  simp only [V.mk.injEq]
  by_cases h1 : k = k'
  · rw [if_neg (by simp [h1])]
    by_cases h2 : n = n'
    · rw [if_neg (by simp [h2])]
      by_cases h3 : t = t'
      · rw [if_neg (by simp [h3]), ordL_zero]; simp [h1, h2, h3]
      · rw [if_pos h3, cmpT.zero]; simp [h3]
    · rw [if_pos h2, cmpI.zero]; simp [h2]
  · rw [if_pos h1, cmpI.zero]; simp [h1]
theorem ordV_trans (a b d : V) (x : ordV a b < 0) (y : ordV b d < 0) : ordV a d < 0 := by
  unfold ordV at x y ⊢
  obtain ⟨k, n, t, l⟩ := a
  obtain ⟨k', n', t', l'⟩ := b
  obtain ⟨k2, n2, t2, l2⟩ := d
  simp only at x y ⊢
  have lift : ∀ {α : Type} {c : α → α → Int} (_ : Cmp c) (p q r : α), (p ≠ q → c p q < 0) → (q ≠ r → c q r < 0) → p ≠ r → c p r < 0 := by
    intro α c hc p q r h1 h2 h3
    by_cases e1 : p = q
    · subst e1; exact h2 h3
    · by_cases e2 : q = r
      · subst e2; exact h1 h3
      · exact hc.trans p q r (h1 e1) (h2 e2)
  by_cases e1 : k = k2
  · subst e1
    rw [if_neg (by simp)]
    have hk : k = k' := by
      refine Classical.byContradiction fun h => ?_
      rw [if_pos h] at x
      rw [if_pos (fun e => h e.symm)] at y
      have := cmpI.swap k k'; omega
    subst hk
    rw [if_neg (by simp)] at x y
    by_cases e2 : n = n2
    · subst e2
      rw [if_neg (by simp)]
      have hk : n = n' := by
        refine Classical.byContradiction fun h => ?_
        rw [if_pos h] at x
        rw [if_pos (fun e => h e.symm)] at y
        have := cmpI.swap n n'; omega
      subst hk
      rw [if_neg (by simp)] at x y
      by_cases e3 : t = t2
      · subst e3
        rw [if_neg (by simp)]
        have hk : t = t' := by
          refine Classical.byContradiction fun h => ?_
          rw [if_pos h] at x
          rw [if_pos (fun e => h e.symm)] at y
          have := cmpT.swap t t'; omega
        subst hk
        rw [if_neg (by simp)] at x y
        exact ordL_trans _ _ _ x y
      · rw [if_pos e3]
        exact lift cmpT t t' t2 (fun h => by rw [if_pos h] at x; exact x) (fun h => by rw [if_pos h] at y; exact y) e3
    · rw [if_pos e2]
      exact lift cmpI n n' n2 (fun h => by rw [if_pos h] at x; exact x) (fun h => by rw [if_pos h] at y; exact y) e2
  · rw [if_pos e1]
    exact lift cmpI k k' k2 (fun h => by rw [if_pos h] at x; exact x) (fun h => by rw [if_pos h] at y; exact y) e1
theorem cmpV : Cmp ordV := ⟨ordV_swap, ordV_zero, ordV_trans⟩
theorem ordL_append : ∀ a b c, ordL (a ++ b) (a ++ c) = ordL b c
  | [], _, _ => rfl
  | x :: r, b, c => by show (if x = x then ordL (r ++ b) (r ++ c) else _) = _; rw [if_pos rfl]; exact ordL_append r b c
theorem ordL_longer (a b : List Int) (h : b ≠ []) : ordL a (a ++ b) = -1 := by
  have := ordL_append a [] b
  rw [List.append_nil] at this
  rw [this]
  cases b with
  | nil => exact absurd rfl h
  | cons => rfl

end Go.Proofs.Ytfkmpegbidojoaa.Va
