/-
  Several texts in one: VaPure, VaKeys, LxPure, ExPure, ExTree, TyPure.
-/

namespace Go.Proofs.YtchjckdjkecjnaaGreatDoor.Va

structure V where
  kind : Int
  num : Int
  text : List UInt8
  list : List Int

/-! ### names -/
def letB (c : UInt8) : Bool := (97 ≤ c && c ≤ 122) || (65 ≤ c && c ≤ 90)
def digB (c : UInt8) : Bool := 48 ≤ c && c ≤ 57
def wordB (c : UInt8) : Bool := letB c || digB c || c == 95
def nameB (s : List UInt8) : Bool := match s with
  | [] => false
  | c :: r => letB c && r.all wordB && decide (r.length ≤ 23)
theorem nameB_take (s : List UInt8) (h : nameB s = true) (k : Nat) (hk : 1 ≤ k) : nameB (s.take k) = true := by
  cases s with
  | nil => simp [nameB] at h
  | cons c r =>
    obtain ⟨k, rfl⟩ : ∃ n, k = n + 1 := ⟨k - 1, by omega⟩
    simp only [nameB, Bool.and_eq_true, decide_eq_true_eq, List.take_succ_cons, List.all_eq_true] at h ⊢
    exact ⟨⟨h.1.1, fun x hx => h.1.2 x (List.mem_of_mem_take hx)⟩, by rw [List.length_take]; omega⟩
theorem nameB_one (s : List UInt8) : nameB (49 :: s) = false := by simp [nameB, letB]
theorem nameB_low (s : List UInt8) : nameB (95 :: s) = false := by simp [nameB, letB]
theorem nameB_single (c : UInt8) : nameB [c] = letB c := by simp [nameB]
theorem nameB_append (s t : List UInt8) (h : nameB s = true) : nameB (s ++ t) = (decide ((s ++ t).length ≤ 24) && t.all wordB) := by
  cases s with
  | nil => simp [nameB] at h
  | cons c r =>
    simp only [nameB, Bool.and_eq_true, decide_eq_true_eq] at h
    simp only [nameB, List.cons_append, List.all_append, h.1.1, h.1.2, Bool.true_and, List.length_cons]
    rw [Bool.and_comm]
    congr 1
    rw [Bool.eq_iff_iff]
    simp
theorem nameB_ne {s : List UInt8} (h : nameB s = true) : s ≠ [] ∧ s.length ≤ 24 ∧ ∀ c ∈ s, wordB c = true := by
  cases s with
  | nil => simp [nameB] at h
  | cons c r =>
    simp only [nameB, Bool.and_eq_true, decide_eq_true_eq, List.all_eq_true] at h
    refine ⟨by simp, by simp; omega, ?_⟩
    intro x hx
    rcases List.mem_cons.1 hx with rfl | hx
    · simp [wordB, h.1.1]
    · exact h.1.2 x hx

def rightB (v : V) : Bool :=
  decide (0 ≤ v.kind ∧ v.kind ≤ 5) && (v.kind == 1 || (v.kind == 2 && (v.num == 0 || v.num == 1)) || v.num == 0) &&
  ((v.kind == 3 && decide (v.text.length ≤ 64)) || (v.kind == 4 && nameB v.text) || (v.kind != 3 && v.kind != 4 && v.text.isEmpty)) &&
  ((v.kind == 5 && decide (v.list.length ≤ 16)) || (v.kind != 5 && v.list.isEmpty))

/-! ### the order -/
def ordI (a b : Int) : Int := if a < b then -1 else if b < a then 1 else 0
def ordL : List Int → List Int → Int
  | [], [] => 0
  | [], _ :: _ => -1
  | _ :: _, [] => 1
  | a :: r, b :: s => if a = b then ordL r s else ordI a b
def ordT : List UInt8 → List UInt8 → Int
  | [], [] => 0
  | [], _ :: _ => -1
  | _ :: _, [] => 1
  | a :: r, b :: s => if a = b then ordT r s else ordI a.toNat b.toNat
def ordV (a b : V) : Int :=
  if a.kind ≠ b.kind then ordI a.kind b.kind else if a.num ≠ b.num then ordI a.num b.num else if a.text ≠ b.text then ordT a.text b.text else ordL a.list b.list

/-- A comparison is one. -/
structure Cmp {α : Type} (c : α → α → Int) : Prop where
  swap : ∀ a b, c b a = - c a b
  zero : ∀ a b, c a b = 0 ↔ a = b
  trans : ∀ a b d, c a b < 0 → c b d < 0 → c a d < 0
theorem Cmp.le {α : Type} {c : α → α → Int} (h : Cmp c) {a b d : α} (h1 : c a b ≤ 0) (h2 : c b d ≤ 0) : c a d ≤ 0 := by
  by_cases e1 : c a b = 0
  · rw [(h.zero a b).1 e1]; exact h2
  · by_cases e2 : c b d = 0
    · rw [← (h.zero b d).1 e2]; exact h1
    · have := h.trans a b d (by omega) (by omega); omega
theorem Cmp.ge {α : Type} {c : α → α → Int} (h : Cmp c) {a b d : α} (h1 : 0 ≤ c a b) (h2 : 0 ≤ c b d) : 0 ≤ c a d := by
  have h3 := h.swap a b
  have h4 := h.swap b d
  have h5 := h.swap a d
  have := h.le (a := d) (b := b) (d := a) (by omega) (by omega)
  omega
theorem cmpI : Cmp ordI := by
  refine ⟨?_, ?_, ?_⟩
  · intro a b; unfold ordI; split <;> split <;> (try split) <;> omega
  · intro a b; unfold ordI; split <;> (try split) <;> constructor <;> intro h <;> omega
  · intro a b d; unfold ordI; split <;> split <;> (try split) <;> (try split) <;> (try split) <;> omega
theorem ordL_swap : ∀ a b, ordL b a = - ordL a b
  | [], [] => rfl
  | [], _ :: _ => rfl
  | _ :: _, [] => rfl
  | a :: r, b :: s => by
    unfold ordL
    by_cases h : a = b
    · rw [if_pos h, if_pos h.symm]; exact ordL_swap r s
    · rw [if_neg h, if_neg (fun e => h e.symm)]; exact cmpI.swap a b
theorem ordL_zero : ∀ a b, ordL a b = 0 ↔ a = b
  | [], [] => by simp [ordL]
  | [], _ :: _ => by simp [ordL]
  | _ :: _, [] => by simp [ordL]
  | a :: r, b :: s => by
    unfold ordL
    by_cases h : a = b
    · rw [if_pos h, ordL_zero r s]; simp [h]
    · rw [if_neg h, cmpI.zero]; simp [h]
theorem ordL_trans : ∀ a b d, ordL a b < 0 → ordL b d < 0 → ordL a d < 0
  | [], [], _, h, _ => by simp [ordL] at h
  | [], _ :: _, [], _, h => by simp [ordL] at h
  | [], _ :: _, _ :: _, _, _ => by simp [ordL]
  | _ :: _, [], _, h, _ => by simp [ordL] at h
  | _ :: _, _ :: _, [], _, h => by simp [ordL] at h
  | a :: r, b :: s, d :: t, h1, h2 => by
    unfold ordL at h1 h2 ⊢
    by_cases e1 : a = b
    · subst e1
      rw [if_pos rfl] at h1
      by_cases e2 : a = d
      · rw [if_pos e2] at h2 ⊢; exact ordL_trans r s t h1 h2
      · rw [if_neg e2] at h2 ⊢; exact h2
    · rw [if_neg e1] at h1
      by_cases e2 : b = d
      · subst e2; rw [if_neg e1]; exact h1
      · rw [if_neg e2] at h2
        have := cmpI.trans a b d h1 h2
        by_cases e3 : a = d
        · subst e3; have := cmpI.swap a b; omega
        · rw [if_neg e3]; exact this
theorem cmpL : Cmp ordL := ⟨ordL_swap, ordL_zero, ordL_trans⟩
theorem ordT_map : ∀ a b : List UInt8, ordT a b = ordL (a.map fun c => (c.toNat : Int)) (b.map fun c => (c.toNat : Int))
  | [], [] => rfl
  | [], _ :: _ => rfl
  | _ :: _, [] => rfl
  | a :: r, b :: s => by
    simp only [ordT, ordL, List.map_cons]
    by_cases h : a = b
    · subst h; rw [if_pos rfl, if_pos rfl]; exact ordT_map r s
    · rw [if_neg h, if_neg (fun e => h (UInt8.toNat_inj.1 (by omega)))]
theorem map_inj {a b : List UInt8} (h : a.map (fun c => (c.toNat : Int)) = b.map fun c => (c.toNat : Int)) : a = b := by
  induction a generalizing b with
  | nil => cases b with
    | nil => rfl
    | cons => simp at h
  | cons x r ih => cases b with
    | nil => simp at h
    | cons y s =>
      simp only [List.map_cons, List.cons.injEq] at h
      rw [ih h.2, UInt8.toNat_inj.1 (show x.toNat = y.toNat by omega)]
theorem cmpT : Cmp ordT := by
  refine ⟨fun a b => ?_, fun a b => ?_, fun a b d => ?_⟩
  · rw [ordT_map, ordT_map]; exact ordL_swap _ _
  · rw [ordT_map, ordL_zero]; exact ⟨map_inj, fun h => by rw [h]⟩
  · rw [ordT_map, ordT_map, ordT_map]; exact ordL_trans _ _ _
theorem ordV_eq (a b : V) : ordV a b = if a.kind = b.kind then (if a.num = b.num then (if a.text = b.text then ordL a.list b.list else ordT a.text b.text) else ordI a.num b.num) else ordI a.kind b.kind := by
  simp only [ordV, ne_eq, ite_not]
theorem ordV_swap (a b : V) : ordV b a = - ordV a b := by
  have x := ordV_eq b a
  have y := ordV_eq a b
  by_cases h1 : a.kind = b.kind
  · rw [if_pos h1.symm] at x
    rw [if_pos h1] at y
    by_cases h2 : a.num = b.num
    · rw [if_pos h2.symm] at x
      rw [if_pos h2] at y
      by_cases h3 : a.text = b.text
      · rw [if_pos h3.symm] at x
        rw [if_pos h3] at y
        rw [x, y]; exact ordL_swap _ _
      · rw [if_neg (fun e => h3 e.symm)] at x
        rw [if_neg h3] at y
        rw [x, y]; exact cmpT.swap _ _
    · rw [if_neg (fun e => h2 e.symm)] at x
      rw [if_neg h2] at y
      rw [x, y]; exact cmpI.swap _ _
  · rw [if_neg (fun e => h1 e.symm)] at x
    rw [if_neg h1] at y
    rw [x, y]; exact cmpI.swap _ _
theorem ordV_zero (a b : V) : ordV a b = 0 ↔ a = b := by
  unfold ordV
  obtain ⟨k, n, t, l⟩ := a
  obtain ⟨k', n', t', l'⟩ := b
  simp only [V.mk.injEq]
  by_cases h1 : k = k'
  · rw [if_neg (by simp [h1])]
    by_cases h2 : n = n'
    · rw [if_neg (by simp [h2])]
      by_cases h3 : t = t'
      · rw [if_neg (by simp [h3]), ordL_zero]; simp [h1, h2, h3]
      · rw [if_pos h3, cmpT.zero]; simp [h3]
    · rw [if_pos h2, cmpI.zero]; simp [h2]
  · rw [if_pos h1, cmpI.zero]; simp [h1]
theorem ordV_trans (a b d : V) (x : ordV a b < 0) (y : ordV b d < 0) : ordV a d < 0 := by
  unfold ordV at x y ⊢
  obtain ⟨k, n, t, l⟩ := a
  obtain ⟨k', n', t', l'⟩ := b
  obtain ⟨k2, n2, t2, l2⟩ := d
  simp only at x y ⊢
  have lift : ∀ {α : Type} {c : α → α → Int} (_ : Cmp c) (p q r : α), (p ≠ q → c p q < 0) → (q ≠ r → c q r < 0) → p ≠ r → c p r < 0 := by
    intro α c hc p q r h1 h2 h3
    by_cases e1 : p = q
    · subst e1; exact h2 h3
    · by_cases e2 : q = r
      · subst e2; exact h1 h3
      · exact hc.trans p q r (h1 e1) (h2 e2)
  by_cases e1 : k = k2
  · subst e1
    rw [if_neg (by simp)]
    have hk : k = k' := by
      refine Classical.byContradiction fun h => ?_
      rw [if_pos h] at x
      rw [if_pos (fun e => h e.symm)] at y
      have := cmpI.swap k k'; omega
    subst hk
    rw [if_neg (by simp)] at x y
    by_cases e2 : n = n2
    · subst e2
      rw [if_neg (by simp)]
      have hk : n = n' := by
        refine Classical.byContradiction fun h => ?_
        rw [if_pos h] at x
        rw [if_pos (fun e => h e.symm)] at y
        have := cmpI.swap n n'; omega
      subst hk
      rw [if_neg (by simp)] at x y
      by_cases e3 : t = t2
      · subst e3
        rw [if_neg (by simp)]
        have hk : t = t' := by
          refine Classical.byContradiction fun h => ?_
          rw [if_pos h] at x
          rw [if_pos (fun e => h e.symm)] at y
          have := cmpT.swap t t'; omega
        subst hk
        rw [if_neg (by simp)] at x y
        exact ordL_trans _ _ _ x y
      · rw [if_pos e3]
        exact lift cmpT t t' t2 (fun h => by rw [if_pos h] at x; exact x) (fun h => by rw [if_pos h] at y; exact y) e3
    · rw [if_pos e2]
      exact lift cmpI n n' n2 (fun h => by rw [if_pos h] at x; exact x) (fun h => by rw [if_pos h] at y; exact y) e2
  · rw [if_pos e1]
    exact lift cmpI k k' k2 (fun h => by rw [if_pos h] at x; exact x) (fun h => by rw [if_pos h] at y; exact y) e1
theorem cmpV : Cmp ordV := ⟨ordV_swap, ordV_zero, ordV_trans⟩
theorem ordL_append : ∀ a b c, ordL (a ++ b) (a ++ c) = ordL b c
  | [], _, _ => rfl
  | x :: r, b, c => by show (if x = x then ordL (r ++ b) (r ++ c) else _) = _; rw [if_pos rfl]; exact ordL_append r b c
theorem ordL_longer (a b : List Int) (h : b ≠ []) : ordL a (a ++ b) = -1 := by
  have := ordL_append a [] b
  rw [List.append_nil] at this
  rw [this]
  cases b with
  | nil => exact absurd rfl h
  | cons => rfl

end Go.Proofs.YtchjckdjkecjnaaGreatDoor.Va

namespace Go.Proofs.YtchjckdjkecjnaaGreatDoor.Va

/-! ### numbers -/
def digs (n : Nat) : List UInt8 := if h : n < 10 then [UInt8.ofNat (48 + n)] else digs (n / 10) ++ [UInt8.ofNat (48 + n % 10)]
termination_by n
decreasing_by omega
def undig (l : List UInt8) : Nat := l.foldl (fun a c => 10 * a + (c.toNat - 48)) 0
theorem dig_nat (k : Nat) (h : k < 10) : (UInt8.ofNat (48 + k)).toNat = 48 + k := by simp [UInt8.toNat_ofNat']; omega
theorem undig_digs (n : Nat) : undig (digs n) = n := by
  induction n using Nat.strongRecOn with
  | ind n ih =>
    rw [digs]
    split
    · rename_i h; simp only [undig, List.foldl_cons, List.foldl_nil]; rw [dig_nat n h]; omega
    · rename_i h
      have := ih (n / 10) (by omega)
      unfold undig at this ⊢
      rw [List.foldl_append, this]
      simp only [List.foldl_cons, List.foldl_nil]
      rw [dig_nat _ (by omega)]; omega
theorem digs_dig (n : Nat) : (∀ c ∈ digs n, digB c = true) ∧ digs n ≠ [] := by
  have hd : ∀ k, k < 10 → digB (UInt8.ofNat (48 + k)) = true := fun k hk => by
    have : ∀ i : Fin 10, digB (UInt8.ofNat (48 + i.val)) = true := by decide
    exact this ⟨k, hk⟩
  induction n using Nat.strongRecOn with
  | ind n ih =>
    rw [digs]
    split
    · rename_i h; exact ⟨fun c hc => by rw [List.mem_singleton] at hc; rw [hc]; exact hd n h, by simp⟩
    · rename_i h
      refine ⟨fun c hc => ?_, by simp⟩
      rcases List.mem_append.1 hc with h1 | h1
      · exact (ih (n / 10) (by omega)).1 c h1
      · rw [List.mem_singleton] at h1; rw [h1]; exact hd _ (by omega)
def decZ (n : Int) : List UInt8 := if n < 0 then 45 :: digs n.natAbs else digs n.toNat
def numB (c : UInt8) : Bool := digB c || c == 45
theorem decZ_num (n : Int) : (∀ c ∈ decZ n, numB c = true) ∧ decZ n ≠ [] := by
  unfold decZ
  split
  · refine ⟨fun c hc => ?_, by simp⟩
    rcases List.mem_cons.1 hc with rfl | h
    · rfl
    · simp [numB, (digs_dig _).1 c h]
  · exact ⟨fun c hc => by simp [numB, (digs_dig _).1 c hc], (digs_dig _).2⟩
theorem decZ_inj {a b : Int} (h : decZ a = decZ b) : a = b := by
  have no45 : ∀ n r, digs n ≠ 45 :: r := fun n r e => by
    have := (digs_dig n).1 45 (by rw [e]; simp)
    simp [digB] at this
  unfold decZ at h
  by_cases ha : a < 0 <;> by_cases hb : b < 0
  · rw [if_pos ha, if_pos hb] at h
    have := congrArg undig (List.cons.inj h).2
    rw [undig_digs, undig_digs] at this; omega
  · rw [if_pos ha, if_neg hb] at h; exact absurd h.symm (no45 _ _)
  · rw [if_neg ha, if_pos hb] at h; exact absurd h (no45 _ _)
  · rw [if_neg ha, if_neg hb] at h
    have := congrArg undig h
    rw [undig_digs, undig_digs] at this; omega

/-- Two beginnings of one sort, each as long as can be. -/
theorem span_eq (p : UInt8 → Bool) : ∀ (xs ys r s : List UInt8), (∀ c ∈ xs, p c = true) → (∀ c ∈ ys, p c = true) → (∀ c t, r = c :: t → p c = false) → (∀ c t, s = c :: t → p c = false) → xs ++ r = ys ++ s → xs = ys ∧ r = s
  | [], [], _, _, _, _, _, _, h => ⟨rfl, h⟩
  | [], y :: ys, r, s, _, hy, hr, _, h => by
    have := hr y (ys ++ s) h
    rw [hy y (by simp)] at this; cases this
  | x :: xs, [], r, s, hx, _, _, hs, h => by
    have := hs x (xs ++ r) h.symm
    rw [hx x (by simp)] at this; cases this
  | x :: xs, y :: ys, r, s, hx, hy, hr, hs, h => by
    simp only [List.cons_append, List.cons.injEq] at h
    obtain ⟨e1, e2⟩ := span_eq p xs ys r s (fun c hc => hx c (by simp [hc])) (fun c hc => hy c (by simp [hc])) hr hs h.2
    exact ⟨by rw [h.1, e1], e2⟩

/-! ### texts -/
def hexC (n : Nat) : UInt8 := if n < 10 then UInt8.ofNat (48 + n) else UInt8.ofNat (87 + n)
def unhex (c : UInt8) : Nat := if c < 58 then c.toNat - 48 else c.toNat - 87
def esc (c : UInt8) : List UInt8 := if c < 32 || 126 < c then [92, 120, hexC (c.toNat / 16), hexC (c.toNat % 16)] else if c == 34 || c == 92 then [92, c] else [c]
def unesc : List UInt8 → Option (UInt8 × List UInt8)
  | [] => none
  | c :: r => if c = 34 then none else if c = 92 then match r with
    | [] => none
    | x :: r => if x = 120 then match r with
      | a :: b :: r => some (UInt8.ofNat (16 * unhex a + unhex b), r)
      | _ => none
      else some (x, r)
    else some (c, r)
theorem hex_back (c : UInt8) : UInt8.ofNat (16 * unhex (hexC (c.toNat / 16)) + unhex (hexC (c.toNat % 16))) = c := by
  have : ∀ i : Fin 256, UInt8.ofNat (16 * unhex (hexC (i.val / 16)) + unhex (hexC (i.val % 16))) = UInt8.ofNat i.val := by decide +kernel
  have h := this ⟨c.toNat, c.toNat_lt⟩
  simpa using h
theorem unesc_esc (c : UInt8) (r : List UInt8) : unesc (esc c ++ r) = some (c, r) := by
  unfold esc
  by_cases h1 : (c < 32 || 126 < c) = true
  · rw [if_pos h1]
    have e : ∀ (a b : UInt8) (r : List UInt8), unesc (92 :: 120 :: a :: b :: r) = some (UInt8.ofNat (16 * unhex a + unhex b), r) := fun _ _ _ => rfl
    have := e (hexC (c.toNat / 16)) (hexC (c.toNat % 16)) r
    rw [hex_back] at this
    exact this
  · rw [if_neg h1]
    by_cases h2 : (c == 34 || c == 92) = true
    · rw [if_pos h2]
      have h120 : c ≠ 120 := by intro e; subst e; simp at h2
      simp [unesc, h120]
    · rw [if_neg h2]
      simp only [List.cons_append, List.nil_append, unesc]
      simp only [Bool.or_eq_true, beq_iff_eq, not_or] at h2
      rw [if_neg h2.1, if_neg h2.2]
def escT (t : List UInt8) : List UInt8 := t.flatMap esc
theorem escT_split : ∀ (t s r q : List UInt8), escT t ++ 34 :: r = escT s ++ 34 :: q → t = s ∧ r = q
  | [], [], r, q, h => ⟨rfl, (List.cons.inj h).2⟩
  | [], c :: s, r, q, h => by
    have h1 : unesc (34 :: r) = none := by simp [unesc]
    have h2 : (34 :: r : List UInt8) = esc c ++ (escT s ++ 34 :: q) := by
      have : escT (c :: s) = esc c ++ escT s := rfl
      rw [this, List.append_assoc] at h; exact h
    rw [h2, unesc_esc] at h1; cases h1
  | c :: t, [], r, q, h => by
    have h1 : unesc (34 :: q) = none := by simp [unesc]
    have h2 : (34 :: q : List UInt8) = esc c ++ (escT t ++ 34 :: r) := by
      have : escT (c :: t) = esc c ++ escT t := rfl
      rw [this, List.append_assoc] at h; exact h.symm
    rw [h2, unesc_esc] at h1; cases h1
  | c :: t, d :: s, r, q, h => by
    have e1 : escT (c :: t) = esc c ++ escT t := rfl
    have e2 : escT (d :: s) = esc d ++ escT s := rfl
    rw [e1, e2, List.append_assoc, List.append_assoc] at h
    have h3 := congrArg unesc h
    rw [unesc_esc, unesc_esc] at h3
    simp only [Option.some.injEq, Prod.mk.injEq] at h3
    obtain ⟨a1, a2⟩ := escT_split t s r q h3.2
    exact ⟨by rw [h3.1, a1], a2⟩

/-! ### lists -/
def numsT : List Int → List UInt8
  | [] => []
  | [n] => decZ n
  | n :: m :: r => decZ n ++ 44 :: 32 :: numsT (m :: r)
theorem numsT_head {n : Int} {r : List Int} : ∃ c t, numsT (n :: r) = c :: t ∧ numB c = true := by
  obtain ⟨c, t, e⟩ := List.exists_cons_of_ne_nil (decZ_num n).2
  have hc := (decZ_num n).1 c (by rw [e]; simp)
  cases r with
  | nil => exact ⟨c, t, e, hc⟩
  | cons m r => exact ⟨c, _, by show decZ n ++ _ = _; rw [e]; rfl, hc⟩
theorem numsT_split : ∀ (l k : List Int) (r q : List UInt8), numsT l ++ 93 :: r = numsT k ++ 93 :: q → l = k ∧ r = q
  | [], [], r, q, h => ⟨rfl, (List.cons.inj h).2⟩
  | [], n :: k, r, q, h => by
    obtain ⟨c, t, e, hc⟩ := numsT_head (n := n) (r := k)
    rw [e] at h
    simp only [numsT, List.nil_append, List.cons_append, List.cons.injEq] at h
    rw [← h.1] at hc; simp [numB, digB] at hc
  | n :: l, [], r, q, h => by
    obtain ⟨c, t, e, hc⟩ := numsT_head (n := n) (r := l)
    rw [e] at h
    simp only [numsT, List.nil_append, List.cons_append, List.cons.injEq] at h
    rw [h.1] at hc; simp [numB, digB] at hc
  | n :: l, m :: k, r, q, h => by
    have n93 : ∀ c t (r : List UInt8), (93 :: r : List UInt8) = c :: t → numB c = false := fun c t r e => by rw [← (List.cons.inj e).1]; rfl
    have n44 : ∀ c t (r : List UInt8), (44 :: r : List UInt8) = c :: t → numB c = false := fun c t r e => by rw [← (List.cons.inj e).1]; rfl
    cases l with
    | nil => cases k with
      | nil =>
        obtain ⟨e1, e2⟩ := span_eq numB (decZ n) (decZ m) _ _ (decZ_num n).1 (decZ_num m).1 (fun c t => n93 c t r) (fun c t => n93 c t q) h
        exact ⟨by rw [decZ_inj e1], (List.cons.inj e2).2⟩
      | cons m2 k =>
        rw [show numsT (m :: m2 :: k) = decZ m ++ 44 :: 32 :: numsT (m2 :: k) from rfl, List.append_assoc] at h
        obtain ⟨e1, e2⟩ := span_eq numB (decZ n) (decZ m) _ _ (decZ_num n).1 (decZ_num m).1 (fun c t => n93 c t r) (fun c t => n44 c t _) h
        simp at e2
    | cons n2 l => cases k with
      | nil =>
        rw [show numsT (n :: n2 :: l) = decZ n ++ 44 :: 32 :: numsT (n2 :: l) from rfl, List.append_assoc] at h
        obtain ⟨e1, e2⟩ := span_eq numB (decZ n) (decZ m) _ _ (decZ_num n).1 (decZ_num m).1 (fun c t => n44 c t _) (fun c t => n93 c t q) h
        simp at e2
      | cons m2 k =>
        rw [show numsT (n :: n2 :: l) = decZ n ++ 44 :: 32 :: numsT (n2 :: l) from rfl, show numsT (m :: m2 :: k) = decZ m ++ 44 :: 32 :: numsT (m2 :: k) from rfl, List.append_assoc, List.append_assoc] at h
        obtain ⟨e1, e2⟩ := span_eq numB (decZ n) (decZ m) _ _ (decZ_num n).1 (decZ_num m).1 (fun c t => n44 c t _) (fun c t => n44 c t _) h
        obtain ⟨a1, a2⟩ := numsT_split (n2 :: l) (m2 :: k) r q (List.cons.inj (List.cons.inj e2).2).2
        exact ⟨by rw [decZ_inj e1, a1], a2⟩

/-! ### values -/
def printV (v : V) : List UInt8 :=
  if v.kind = 1 then decZ v.num else if v.kind = 2 then (if v.num = 1 then [116, 114, 117, 101] else [102, 97, 108, 115, 101])
  else if v.kind = 3 then 34 :: (escT v.text ++ [34]) else if v.kind = 4 then 39 :: v.text else if v.kind = 5 then 91 :: (numsT v.list ++ [93]) else [110, 111, 110, 101]
/-- What may stand behind a value's text in a key. -/
def Sep (r : List UInt8) : Prop := r = [] ∨ ∃ t, r = 44 :: t
theorem Sep.no {r : List UInt8} (h : Sep r) (p : UInt8 → Bool) (hp : p 44 = false) : ∀ c t, r = c :: t → p c = false := by
  intro c t e
  rcases h with h | ⟨q, h⟩
  · rw [h] at e; cases e
  · rw [h] at e; rw [← (List.cons.inj e).1]; exact hp
/-- What is right, sort by sort. -/
theorem right_cases {v : V} (h : rightB v = true) :
    (v.kind = 0 ∧ v.num = 0 ∧ v.text = [] ∧ v.list = []) ∨ (v.kind = 1 ∧ v.text = [] ∧ v.list = []) ∨ (v.kind = 2 ∧ (v.num = 0 ∨ v.num = 1) ∧ v.text = [] ∧ v.list = []) ∨
    (v.kind = 3 ∧ v.num = 0 ∧ v.list = []) ∨ (v.kind = 4 ∧ v.num = 0 ∧ nameB v.text = true ∧ v.list = []) ∨ (v.kind = 5 ∧ v.num = 0 ∧ v.text = []) := by
  obtain ⟨k, n, t, l⟩ := v
  simp only [rightB, Bool.and_eq_true, Bool.or_eq_true, decide_eq_true_eq, beq_iff_eq, bne_iff_ne, ne_eq, List.isEmpty_iff] at h ⊢
  obtain ⟨⟨⟨h1, h2⟩, h3⟩, h4⟩ := h
  have hk : k = 0 ∨ k = 1 ∨ k = 2 ∨ k = 3 ∨ k = 4 ∨ k = 5 := by omega
  rcases hk with rfl | rfl | rfl | rfl | rfl | rfl <;> simp_all <;> omega
theorem printV_split (v w : V) (hv : rightB v = true) (hw : rightB w = true) (r q : List UInt8) (hr : Sep r) (hq : Sep q) (h : printV v ++ r = printV w ++ q) : v = w ∧ r = q := by
  have hd : ∀ n c t, decZ n = c :: t → numB c = true := fun n c t e => (decZ_num n).1 c (by rw [e]; simp)
  obtain ⟨k, n, t, l⟩ := v
  obtain ⟨k', n', t', l'⟩ := w
  have hv := right_cases hv
  have hw := right_cases hw
  simp only at hv hw
  have numne : ∀ (m : Int) (c : UInt8) (x y : List UInt8), numB c = false → decZ m ++ x ≠ c :: y := by
    intro m c x y hc e
    obtain ⟨a, b, e1⟩ := List.exists_cons_of_ne_nil (decZ_num m).2
    rw [e1] at e
    have := hd m a b e1
    rw [(List.cons.inj e).1, hc] at this; cases this
  rcases hv with ⟨rfl, rfl, rfl, rfl⟩ | ⟨rfl, rfl, rfl⟩ | ⟨rfl, rfl | rfl, rfl, rfl⟩ | ⟨rfl, rfl, rfl⟩ | ⟨rfl, rfl, hnm, rfl⟩ | ⟨rfl, rfl, rfl⟩ <;>
  rcases hw with ⟨rfl, rfl, rfl, rfl⟩ | ⟨rfl, rfl, rfl⟩ | ⟨rfl, rfl | rfl, rfl, rfl⟩ | ⟨rfl, rfl, rfl⟩ | ⟨rfl, rfl, hnm', rfl⟩ | ⟨rfl, rfl, rfl⟩ <;>
  simp [printV] at h
  all_goals first
    | exact ⟨rfl, h⟩
    | exact absurd h (numne _ _ _ _ (by decide))
    | exact absurd h.symm (numne _ _ _ _ (by decide))
    | (obtain ⟨e1, e2⟩ := span_eq numB _ _ r q (decZ_num _).1 (decZ_num _).1 (hr.no numB (by decide)) (hq.no numB (by decide)) h
       exact ⟨by rw [decZ_inj e1], e2⟩)
    | (obtain ⟨e1, e2⟩ := escT_split _ _ _ _ h; exact ⟨by rw [e1], e2⟩)
    | (obtain ⟨e1, e2⟩ := numsT_split _ _ _ _ h; exact ⟨by rw [e1], e2⟩)
    | (obtain ⟨e1, e2⟩ := span_eq wordB _ _ r q (nameB_ne hnm).2.2 (nameB_ne hnm').2.2 (hr.no wordB (by decide)) (hq.no wordB (by decide)) h
       exact ⟨by rw [e1], e2⟩)

def keyT : List V → List UInt8
  | [] => []
  | [v] => printV v
  | v :: w :: r => printV v ++ 44 :: keyT (w :: r)
theorem keyT_inj : ∀ (a b : List V), (∀ v ∈ a, rightB v = true) → (∀ v ∈ b, rightB v = true) → a ≠ [] → b ≠ [] → keyT a = keyT b → a = b
  | [], _, _, _, h, _, _ => absurd rfl h
  | _ :: _, [], _, _, _, h, _ => absurd rfl h
  | v :: a, w :: b, ha, hb, _, _, h => by
    have hv := ha v (by simp)
    have hw := hb w (by simp)
    cases a with
    | nil => cases b with
      | nil =>
        have h : printV v = printV w := h
        have := printV_split v w hv hw [] [] (.inl rfl) (.inl rfl) (by rw [h])
        rw [this.1]
      | cons w2 b =>
        have h : printV v = printV w ++ 44 :: keyT (w2 :: b) := h
        have := (printV_split v w hv hw [] _ (.inl rfl) (.inr ⟨_, rfl⟩) (by rw [List.append_nil]; exact h)).2
        cases this
    | cons v2 a => cases b with
      | nil =>
        have h : printV v ++ 44 :: keyT (v2 :: a) = printV w := h
        have := (printV_split v w hv hw _ [] (.inr ⟨_, rfl⟩) (.inl rfl) (by rw [List.append_nil]; exact h)).2
        cases this
      | cons w2 b =>
        have h : printV v ++ 44 :: keyT (v2 :: a) = printV w ++ 44 :: keyT (w2 :: b) := h
        obtain ⟨e1, e2⟩ := printV_split v w hv hw _ _ (.inr ⟨_, rfl⟩) (.inr ⟨_, rfl⟩) h
        rw [e1, keyT_inj (v2 :: a) (w2 :: b) (fun x hx => ha x (List.mem_cons_of_mem _ hx)) (fun x hx => hb x (List.mem_cons_of_mem _ hx)) (by simp) (by simp) (List.cons.inj e2).2]
theorem keyT_iff (a b : List V) (ha : ∀ v ∈ a, rightB v = true) (hb : ∀ v ∈ b, rightB v = true) (ha0 : a ≠ []) (hb0 : b ≠ []) : keyT a = keyT b ↔ a = b :=
  ⟨keyT_inj a b ha hb ha0 hb0, fun h => by rw [h]⟩

end Go.Proofs.YtchjckdjkecjnaaGreatDoor.Va

namespace Go.Proofs.YtchjckdjkecjnaaGreatDoor.Lx
open Va

def whiteB (c : UInt8) : Bool := c == 9 || c == 10 || c == 13 || c == 32
/-- How many blanks there are ahead; in a comment, or not. -/
def blk : Bool → List UInt8 → Nat
  | _, [] => 0
  | true, c :: r => if c = 10 then 1 + blk false r else 1 + blk true r
  | false, c :: r => if whiteB c = true then 1 + blk false r else if c = 47 ∧ r.head? = some 47 then 1 + blk true r else 0
/-- What a text between quotes says, and how many bytes it has with its end. -/
def quo : Nat → List UInt8 → Option (List UInt8 × Nat)
  | 0, _ => none
  | f + 1, l => if l.head? = some 34 then some ([], 1) else match unesc l with
    | none => none
    | some (c, r) => if esc c ++ r = l then match quo f r with
      | none => none
      | some (t, n) => some (c :: t, (esc c).length + n)
      else none
def signs : List (List UInt8) := [[45, 62], [46, 46], [61, 61], [33, 61], [60, 61], [62, 61], [38, 38], [124, 124], [123], [125], [40], [41], [91], [93], [59], [58], [44], [46], [61], [60], [62], [43], [45], [42], [47], [37], [33]]
def digsOk (d : List UInt8) : Bool := (d.length == 1 || d.head? != some 48) && decide (undig d ≤ 9223372036854775807)
structure Tok where
  kind : Int
  text : List UInt8
  num : Int
  len : Nat
deriving DecidableEq
def tokM : List UInt8 → Option Tok
  | [] => none
  | c :: r =>
    if c = 39 then (let n := r.takeWhile wordB; if nameB n = true then some ⟨4, n, 0, n.length + 1⟩ else none)
    else if letB c = true then (let n := (c :: r).takeWhile wordB; if nameB n = true then some ⟨1, n, 0, n.length⟩ else none)
    else if digB c = true then (let d := (c :: r).takeWhile digB; if digsOk d = true then some ⟨2, d, undig d, d.length⟩ else none)
    else if c = 34 then (match quo (r.length + 1) r with
      | none => none
      | some (t, n) => if t.length ≤ 64 then some ⟨3, t, 0, n + 1⟩ else none)
    else match signs.find? (fun s => s.isPrefixOf (c :: r)) with
      | none => none
      | some s => some ⟨5, s, 0, s.length⟩

/-- A token with its place. -/
structure TA where
  kind : Int
  text : List UInt8
  num : Int
  at_ : Nat
/-- The tokens from a place on: ok, or where none is. -/
def scanF : Nat → List UInt8 → Nat → List TA × Option Nat
  | 0, _, at_ => ([], some at_)
  | f + 1, l, at_ =>
    let b := blk false l
    match l.drop b with
    | [] => ([⟨0, [], 0, at_ + b⟩], none)
    | m@(_ :: _) => match tokM m with
      | none => ([], some (at_ + b))
      | some t => let (ts, e) := scanF f (m.drop t.len) (at_ + b + t.len); (⟨t.kind, t.text, t.num, at_ + b⟩ :: ts, e)

/-! ### blanks -/
theorem blk_le : ∀ b l, blk b l ≤ l.length
  | _, [] => by simp [blk]
  | true, c :: r => by
    unfold blk
    have h1 := blk_le false r
    have h2 := blk_le true r
    split <;> simp <;> omega
  | false, c :: r => by
    unfold blk
    have h1 := blk_le false r
    have h2 := blk_le true r
    split
    · simp; omega
    · split <;> simp; omega
theorem blk_t (c : UInt8) (r : List UInt8) : blk true (c :: r) = if c = 10 then 1 + blk false r else 1 + blk true r := rfl
theorem blk_f (c : UInt8) (r : List UInt8) : blk false (c :: r) = if whiteB c = true then 1 + blk false r else if c = 47 ∧ r.head? = some 47 then 1 + blk true r else 0 := rfl
/-- Where something stands that is no blank, more behind it changes nothing. -/
theorem blk_append : ∀ b l q, blk b l < l.length → q.head? ≠ some 47 → blk b (l ++ q) = blk b l
  | _, [], _, h, _ => by simp at h
  | true, c :: r, q, h, hq => by
    rw [blk_t] at h
    rw [List.cons_append, blk_t, blk_t]
    by_cases hc : c = 10
    · rw [if_pos hc] at h
      simp only [if_pos hc]
      rw [blk_append false r q (by simp at h; omega) hq]
    · rw [if_neg hc] at h
      simp only [if_neg hc]
      rw [blk_append true r q (by simp at h; omega) hq]
  | false, c :: r, q, h, hq => by
    rw [blk_f] at h
    rw [List.cons_append, blk_f, blk_f]
    by_cases hw : whiteB c = true
    · rw [if_pos hw] at h
      simp only [if_pos hw]
      rw [blk_append false r q (by simp at h; omega) hq]
    · rw [if_neg hw] at h
      simp only [if_neg hw]
      by_cases hc : c = 47 ∧ r.head? = some 47
      · rw [if_pos hc] at h
        have hr : (r ++ q).head? = some 47 := by rw [List.head?_append, hc.2]; rfl
        rw [if_pos ⟨hc.1, hr⟩, if_pos hc]
        rw [blk_append true r q (by simp at h; omega) hq]
      · rw [if_neg hc]
        rw [if_neg]
        rintro ⟨h1, h2⟩
        apply hc
        refine ⟨h1, ?_⟩
        cases r with
        | nil => simp at h2; exact absurd h2 hq
        | cons d s => simpa using h2
/-- Where all is blank, a line's end goes on behind it. -/
theorem blk_all : ∀ b l q, blk b l = l.length → blk b (l ++ 10 :: q) = l.length + 1 + blk false q
  | true, [], q, _ => by rw [List.nil_append, blk_t]; simp
  | false, [], q, _ => by rw [List.nil_append, blk_f]; simp [whiteB]
  | true, c :: r, q, h => by
    rw [blk_t] at h
    rw [List.cons_append, blk_t]
    by_cases hc : c = 10
    · rw [if_pos hc] at h
      simp only [if_pos hc]
      rw [blk_all false r q (by simp at h; omega)]; simp; omega
    · rw [if_neg hc] at h
      simp only [if_neg hc]
      rw [blk_all true r q (by simp at h; omega)]; simp; omega
  | false, c :: r, q, h => by
    rw [blk_f] at h
    rw [List.cons_append, blk_f]
    by_cases hw : whiteB c = true
    · rw [if_pos hw] at h
      simp only [if_pos hw]
      rw [blk_all false r q (by simp at h; omega)]; simp; omega
    · rw [if_neg hw] at h
      simp only [if_neg hw]
      by_cases hc : c = 47 ∧ r.head? = some 47
      · rw [if_pos hc] at h
        have hr : (r ++ 10 :: q).head? = some 47 := by rw [List.head?_append, hc.2]; rfl
        rw [if_pos ⟨hc.1, hr⟩]
        rw [blk_all true r q (by simp at h; omega)]; simp; omega
      · rw [if_neg hc] at h; simp at h

/-! ### tokens -/
theorem takeWhile_append (p : UInt8 → Bool) (l q : List UInt8) (h : (l.takeWhile p).length < l.length ∨ ∀ c, q.head? = some c → p c = false) : (l ++ q).takeWhile p = l.takeWhile p := by
  induction l with
  | nil =>
    simp only [List.nil_append, List.takeWhile_nil, List.length_nil, Nat.lt_irrefl, false_or] at h ⊢
    cases q with
    | nil => rfl
    | cons c s => rw [List.takeWhile_cons, h c rfl]; simp
  | cons c r ih =>
    simp only [List.cons_append, List.takeWhile_cons] at h ⊢
    by_cases hp : p c = true
    · rw [if_pos hp] at h ⊢
      rw [if_pos hp, ih (by rcases h with h | h; exact .inl (by simpa using h); exact .inr h)]
    · rw [if_neg hp, if_neg hp]
theorem quo_append : ∀ f l q g x, quo f l = some x → f ≤ g → quo g (l ++ q) = some x
  | 0, l, q, g, x, h, _ => by simp [quo] at h
  | f + 1, l, q, g, x, h, hg => by
    obtain ⟨g, rfl⟩ : ∃ n, g = n + 1 := ⟨g - 1, by omega⟩
    unfold quo at h ⊢
    by_cases h34 : l.head? = some 34
    · rw [if_pos h34] at h
      rw [if_pos (by rw [List.head?_append, h34]; rfl)]; exact h
    · rw [if_neg h34] at h
      cases hu : unesc l with
      | none => rw [hu] at h; cases h
      | some cr =>
        obtain ⟨c, r⟩ := cr
        rw [hu] at h
        simp only at h
        by_cases he : esc c ++ r = l
        · rw [if_pos he] at h
          have hu2 : unesc (l ++ q) = some (c, r ++ q) := by rw [← he, List.append_assoc, unesc_esc]
          have hne : l ≠ [] := by intro e; rw [e] at hu; simp [unesc] at hu
          have h34' : (l ++ q).head? ≠ some 34 := by
            cases l with
            | nil => exact absurd rfl hne
            | cons d s => simpa using h34
          rw [if_neg h34', hu2]
          simp only
          rw [if_pos (by rw [← he, List.append_assoc])]
          cases hq : quo f r with
          | none => rw [hq] at h; cases h
          | some tn =>
            obtain ⟨t, n⟩ := tn
            rw [hq] at h
            rw [quo_append f r q g (t, n) hq (by omega)]
            exact h
        · rw [if_neg he] at h; cases h

end Go.Proofs.YtchjckdjkecjnaaGreatDoor.Lx

namespace Go.Proofs.YtchjckdjkecjnaaGreatDoor.Ex
open Lx

/-- Rows of trees: the first one's node, its Args, and the others. -/
inductive F where
  | nil : F
  | cons (op num : Int) (text : List UInt8) (args rest : F) : F
/-- A tree. -/
structure T where
  op : Int
  num : Int
  text : List UInt8
  args : F
def F.len : F → Nat
  | .nil => 0
  | .cons _ _ _ _ r => r.len + 1
def F.app : F → F → F
  | .nil, s => s
  | .cons o n t a r, s => .cons o n t a (r.app s)
def T.row (t : T) : F := .cons t.op t.num t.text t.args .nil
def F.snoc (l : F) (t : T) : F := l.app t.row
def two (x y : T) : F := .cons x.op x.num x.text x.args y.row
theorem F.len_app : ∀ (l m : F), (l.app m).len = l.len + m.len
  | .nil, m => by simp [F.app, F.len]
  | .cons _ _ _ _ r, m => by
    show (r.app m).len + 1 = r.len + 1 + m.len
    rw [F.len_app r m]; omega
theorem F.len_snoc (l : F) (t : T) : (l.snoc t).len = l.len + 1 := by
  unfold F.snoc
  rw [F.len_app]
  rfl

/-- Where a parser is: at which token, how many nodes there are, how many constructs are open. -/
structure St where
  at_ : Nat
  n : Nat
  open_ : Nat
inductive R where
  | ok (t : T) (s : St) : R
  | bad (e : Nat) (a : Nat) : R

def tk (l : List TA) (i : Nat) : TA := l.getD i ⟨0, [], 0, 0⟩
def isS (l : List TA) (i : Nat) (s : List UInt8) : Bool := (tk l i).kind == 5 && (tk l i).text == s
/-- The operators of a level, and whether they are turned about. -/
def opOf (n : Nat) (s : List UInt8) : Option (Int × Bool) := match n with
  | 0 => if s = [124, 124] then some (41, false) else none
  | 1 => if s = [38, 38] then some (40, false) else none
  | 2 => if s = [61, 61] then some (30, false) else if s = [33, 61] then some (31, false) else if s = [60] then some (32, false) else if s = [60, 61] then some (33, false)
    else if s = [62] then some (32, true) else if s = [62, 61] then some (33, true) else none
  | 3 => if s = [43] then some (23, false) else if s = [45] then some (24, false) else none
  | 4 => if s = [42] then some (20, false) else if s = [47] then some (21, false) else if s = [37] then some (22, false) else none
  | _ => none
def opAt (n : Nat) (t : TA) : Option (Int × Bool) := if t.kind = 5 then opOf n t.text else none
def unAt (t : TA) : Option Int := if t.kind = 5 then (if t.text = [33] then some 10 else if t.text = [45] then some 11 else none) else none

def leafR (op num : Int) (text : List UInt8) (s : St) : R := if s.n = 200 then .bad 27 s.at_ else .ok ⟨op, num, text, .nil⟩ ⟨s.at_ + 1, s.n + 1, s.open_⟩
/-- A sign that has to be there, behind something; the construct is left. -/
def leaveR (l : List TA) (sign : List UInt8) (t : T) (s : St) : R := if isS l s.at_ sign = true then .ok t ⟨s.at_ + 1, s.n, s.open_ - 1⟩ else .bad 25 s.at_
/-- What opens, and produces. -/
def enterR (s : St) (k : St → R) : R := if s.open_ = 20 then .bad 26 s.at_ else if s.n = 200 then .bad 27 s.at_ else k ⟨s.at_ + 1, s.n + 1, s.open_ + 1⟩
def R.then (r : R) (k : T → St → R) : R := match r with
  | .ok t s => k t s
  | .bad e a => .bad e a
/-- The operators of a level, one behind the other. -/
def loopR (rec : St → R) (l : List TA) (n : Nat) : Nat → T → St → R
  | 0, x, s => .ok x s
  | k + 1, x, s => match opAt n (tk l s.at_) with
    | none => .ok x s
    | some (op, turned) => if s.n = 200 then .bad 27 s.at_ else (rec ⟨s.at_ + 1, s.n + 1, s.open_⟩).then fun y s2 =>
      if n = 2 then .ok ⟨op, 0, [], if turned = true then two y x else two x y⟩ s2 else loopR rec l n k ⟨op, 0, [], if turned = true then two y x else two x y⟩ s2
/-- So many operands more of a function. -/
def argsR (rec : St → R) (l : List TA) (op : Int) : Nat → F → St → R
  | 0, acc, s => leaveR l [41] ⟨op, 0, [], acc⟩ s
  | k + 1, acc, s => if isS l s.at_ [44] = true then (rec ⟨s.at_ + 1, s.n, s.open_⟩).then fun y s2 => argsR rec l op k (acc.snoc y) s2 else .bad 25 s.at_
def callR (rec : St → R) (l : List TA) (op : Int) (n : Nat) (s : St) : R :=
  if isS l (s.at_ + 1) [40] = true then enterR ⟨s.at_ + 1, s.n, s.open_⟩ fun s1 => (rec s1).then fun y s2 => argsR rec l op (n - 1) (F.nil.snoc y) s2 else .bad 25 (s.at_ + 1)
/-- May an expression begin here? -/
def begins (l : List TA) (i : Nat) : Bool := decide (1 ≤ (tk l i).kind ∧ (tk l i).kind ≤ 4) || isS l i [40] || isS l i [91] || isS l i [33] || isS l i [45]
/-- The elements of a list from here on, behind so many. -/
def elemsR (rec : St → R) (l : List TA) : Nat → F → St → R
  | 0, _, s => .bad 25 s.at_
  | k + 1, acc, s => if isS l s.at_ [93] = true then .ok ⟨5, 0, [], acc⟩ ⟨s.at_ + 1, s.n, s.open_ - 1⟩
    else if acc.len = 0 then (rec s).then fun y s2 => elemsR rec l k (acc.snoc y) s2
    else if isS l s.at_ [44] = true then
      if acc.len = 16 then (if begins l (s.at_ + 1) = true then .bad 27 (s.at_ + 1) else .bad 25 (s.at_ + 1))
      else (rec ⟨s.at_ + 1, s.n, s.open_⟩).then fun y s2 => elemsR rec l k (acc.snoc y) s2
    else .bad 25 s.at_
def fieldR (l : List TA) (s : St) : R :=
  if isS l (s.at_ + 1) [46] = true then (if (tk l (s.at_ + 2)).kind = 1 then leafR 7 0 (tk l (s.at_ + 2)).text ⟨s.at_ + 2, s.n, s.open_⟩ else .bad 25 (s.at_ + 2)) else .bad 25 (s.at_ + 1)
def groupR (rec : St → R) (l : List TA) (s : St) : R := if s.open_ = 20 then .bad 26 s.at_ else (rec ⟨s.at_ + 1, s.n, s.open_ + 1⟩).then fun y s2 => leaveR l [41] y s2
def wTrue : List UInt8 := [116, 114, 117, 101]
def wFalse : List UInt8 := [102, 97, 108, 115, 101]
def wMsg : List UInt8 := [109, 115, 103]
def wLen : List UInt8 := [108, 101, 110]
def wAt : List UInt8 := [97, 116]
def wPush : List UInt8 := [112, 117, 115, 104]
/-- A primary that begins with a name. -/
def wordR (rec : St → R) (l : List TA) (w : List UInt8) (s : St) : R :=
  if w = wLen then callR rec l 12 1 s else if w = wAt then callR rec l 25 2 s else if w = wPush then callR rec l 26 2 s else if w = wMsg then fieldR l s
  else if w = wTrue then leafR 3 1 [] s else if w = wFalse then leafR 3 0 [] s else leafR 6 0 w s
/-- A primary; rec: an expression. -/
def primR (rec : St → R) (l : List TA) (s : St) : R :=
  if (tk l s.at_).kind = 1 then wordR rec l (tk l s.at_).text s
  else if (tk l s.at_).kind = 2 then leafR 1 (tk l s.at_).num [] s
  else if (tk l s.at_).kind = 3 then leafR 2 0 (tk l s.at_).text s
  else if (tk l s.at_).kind = 4 then leafR 4 0 (tk l s.at_).text s
  else if isS l s.at_ [40] = true then groupR rec l s
  else if isS l s.at_ [91] = true then enterR s fun s1 => elemsR rec l 18 .nil s1
  else .bad 25 s.at_
/-- The rule of a level (5: that of a unary), as deep as the first number allows. -/
def lv (l : List TA) : Nat → Nat → St → R
  | 0, _, s => .bad 0 s.at_
  | f + 1, n, s =>
    if n = 5 then (match unAt (tk l s.at_) with
      | some op => enterR s fun s1 => (lv l f 5 s1).then fun x s2 => .ok ⟨op, 0, [], x.row⟩ ⟨s2.at_, s2.n, s2.open_ - 1⟩
      | none => primR (lv l f 0) l s)
    else (lv l f (n + 1) s).then fun x s1 => loopR (lv l f (n + 1)) l n 201 x s1
/-- Enough. -/
def FUEL : Nat := 200
/-- An expression from a token on. -/
def parseM (l : List TA) (a : Nat) : R := lv l FUEL 0 ⟨a, 0, 0⟩
/-- A whole text's tree; or what is wrong with its tokens, and at which. -/
def readM (l : List TA) : T × Nat × Nat := match parseM l 0 with
  | .ok t s => if s.at_ + 1 = l.length then (t, 0, 0) else (⟨0, 0, [], .nil⟩, 25, (tk l s.at_).at_)
  | .bad e a => (⟨0, 0, [], .nil⟩, e, (tk l a).at_)

/-- How deep a level may go yet. -/
def need (n : Nat) (s : St) : Nat := 6 * (20 - s.open_) + (5 - n)

end Go.Proofs.YtchjckdjkecjnaaGreatDoor.Ex

namespace Go.Proofs.YtchjckdjkecjnaaGreatDoor.Ex
open Lx Va

def takenB (s : List UInt8) : Bool := s == wTrue || s == wFalse || s == wMsg || s == wLen || s == wAt || s == wPush
/-- How many Args an operator has; none: any, up to 16, or it is no operator. -/
def cntB (o : Int) (len : Nat) : Bool :=
  if o = 5 then decide (len ≤ 16) else if 1 ≤ o ∧ o ≤ 7 then len == 0 else if 10 ≤ o ∧ o ≤ 12 then len == 1 else if 20 ≤ o ∧ o ≤ 26 ∨ 30 ≤ o ∧ o ≤ 33 ∨ o = 40 ∨ o = 41 then len == 2 else false
def formedB (o n : Int) (t : List UInt8) (len : Nat) : Bool :=
  cntB o len && (n == 0 || o == 1 || o == 3) && decide (0 ≤ n) && !(o == 3 && decide (1 < n)) && (t.isEmpty || o == 2 || o == 4 || o == 6 || o == 7) && !(o == 2 && decide (64 < t.length))
def namedB (o : Int) (t : List UInt8) : Bool := !(o == 4 || o == 6 || o == 7) || (nameB t && !(o == 6 && takenB t))
/-- What is wrong with the first node, of all trees of a row, and how many nodes there are so far. -/
def chkF : F → Nat → Nat × Nat
  | .nil, n => (0, n)
  | .cons o nm t a r, n =>
    if 200 ≤ n then (27, n + 1) else if formedB o nm t a.len = false then (4, n + 1) else if namedB o t = false then (20, n + 1)
    else if (chkF a (n + 1)).1 = 0 then chkF r (chkF a (n + 1)).2 else chkF a (n + 1)
def T.chk (t : T) (n : Nat) : Nat × Nat := chkF t.row n

def bound (o : Int) : Nat :=
  if o = 41 then 0 else if o = 40 then 1 else if 30 ≤ o ∧ o ≤ 33 then 2 else if o = 23 ∨ o = 24 then 3 else if 20 ≤ o ∧ o ≤ 22 then 4 else if o = 10 ∨ o = 11 then 5 else 6
def signL (o : Int) : List UInt8 :=
  if o = 41 then [124, 124] else if o = 40 then [38, 38] else if o = 30 then [61, 61] else if o = 31 then [33, 61] else if o = 32 then [60] else if o = 33 then [60, 61]
  else if o = 23 then [43] else if o = 24 then [45] else if o = 20 then [42] else if o = 21 then [47] else [37]
/-- A text, of an operator, and how many are open in it. -/
structure Tx where
  op : Int
  text : List UInt8
  open_ : Nat
def Tx.within (x : Tx) (least : Nat) : List UInt8 × Nat := if bound x.op < least then ([40] ++ x.text ++ [41], x.open_ + 1) else (x.text, x.open_)
def commas : List Tx → List UInt8
  | [] => []
  | [x] => x.text
  | x :: r => x.text ++ [44, 32] ++ commas r
def most : List Tx → Nat
  | [] => 0
  | x :: r => max x.open_ (most r)
def leafL (o n : Int) (t : List UInt8) : List UInt8 :=
  if o = 1 then printV ⟨1, n, [], []⟩ else if o = 2 then printV ⟨3, 0, t, []⟩ else if o = 3 then printV ⟨2, n, [], []⟩ else if o = 4 then 39 :: t else if o = 7 then wMsg ++ [46] ++ t else t
def nodeTx (o n : Int) (t : List UInt8) (l : List Tx) : Tx :=
  if o = 10 ∨ o = 11 then (match l with
    | x :: _ => let p := x.within 5; ⟨o, (if o = 10 then [33] else [45]) ++ p.1, p.2 + 1⟩
    | [] => ⟨o, [], 0⟩)
  else if o = 5 then ⟨o, [91] ++ commas l ++ [93], most l + 1⟩
  else if o = 12 then ⟨o, wLen ++ [40] ++ commas l ++ [41], most l + 1⟩
  else if o = 25 then ⟨o, wAt ++ [40] ++ commas l ++ [41], most l + 1⟩
  else if o = 26 then ⟨o, wPush ++ [40] ++ commas l ++ [41], most l + 1⟩
  else if o < 10 then ⟨o, leafL o n t, 0⟩
  else match l with
    | x :: y :: _ => let p := x.within (if bound o = 2 then 3 else bound o); let q := y.within (bound o + 1); ⟨o, p.1 ++ [32] ++ signL o ++ [32] ++ q.1, max p.2 q.2⟩
    | _ => ⟨o, [], 0⟩
def txF : F → List Tx
  | .nil => []
  | .cons o n t a r => nodeTx o n t (txF a) :: txF r
def T.tx (t : T) : Tx := nodeTx t.op t.num t.text (txF t.args)
/-- What Print answers. -/
def printM (t : T) : List UInt8 × Nat := if (t.chk 0).1 ≠ 0 then ([], (t.chk 0).1) else if 20 < t.tx.open_ then ([], 26) else (t.tx.text, 0)

end Go.Proofs.YtchjckdjkecjnaaGreatDoor.Ex

namespace Go.Proofs.YtchjckdjkecjnaaGreatDoor.Ty
open Ex Lx

structure TT where
  kind : Int
  enum : List UInt8
  lit : List UInt8
def TT.zero : TT := ⟨0, [], []⟩
structure EnumP where
  name : List UInt8
  syms : List (List UInt8)
structure AttrP where
  name : List UInt8
  kind : Int
  enum : List UInt8
structure Sc where
  enums : List EnumP
  attrs : List AttrP
  fields : List AttrP

def hasB : List EnumP → List UInt8 → List UInt8 → Bool
  | [], _, _ => false
  | e :: r, n, s => if e.name = n then e.syms.any (· == s) else hasB r n s
def alikeB (es : List EnumP) (a b : TT) : Bool :=
  if a.kind ≠ b.kind then false else if a.kind ≠ 4 then true else if a.lit ≠ [] ∧ b.lit ≠ [] then true
  else if a.lit ≠ [] then hasB es b.enum a.lit else if b.lit ≠ [] then hasB es a.enum b.lit else a.enum == b.enum
def allK (l : List TT) (k : Int) : Bool := l.all (fun t => t.kind == k)
def arg (l : List TT) (i : Nat) : TT := l.getD i TT.zero
def fitB (es : List EnumP) (o : Int) (l : List TT) : Bool :=
  if o = 10 ∨ o = 40 ∨ o = 41 then allK l 2 else if o = 12 then allK l 5 || allK l 3 else if o = 25 ∨ o = 26 then (arg l 0).kind == 5 && (arg l 1).kind == 1
  else if o = 30 ∨ o = 31 then alikeB es (arg l 0) (arg l 1) else if o = 32 ∨ o = 33 then allK l 1 || allK l 3 else allK l 1
def kindOf (o : Int) : Int :=
  if o = 2 then 3 else if o = 5 ∨ o = 26 then 5 else if o = 1 ∨ o = 11 ∨ o = 20 ∨ o = 21 ∨ o = 22 ∨ o = 23 ∨ o = 24 ∨ o = 12 ∨ o = 25 then 1 else 2
def namedTy : List AttrP → List UInt8 → TT × Nat
  | [], _ => (TT.zero, 20)
  | a :: r, n => if a.name = n then (⟨a.kind, a.enum, []⟩, 0) else namedTy r n
/-- A node's kind, of what its Args have. -/
def oneTy (s : Sc) (o : Int) (t : List UInt8) (l : List TT) : TT × Nat :=
  if o = 4 then (⟨4, [], t⟩, 0) else if o = 6 then namedTy s.attrs t else if o = 7 then namedTy s.fields t else if fitB s.enums o l = true then (⟨kindOf o, [], []⟩, 0) else (TT.zero, 23)
def nodeTy (s : Sc) (o : Int) (t : List UInt8) (x : List TT × Nat) : TT × Nat := if x.2 = 0 then oneTy s o t x.1 else (TT.zero, x.2)
/-- The kinds of all trees of a row, or the first error. -/
def tyF (s : Sc) : F → List TT × Nat
  | .nil => ([], 0)
  | .cons o _ t a r => if (nodeTy s o t (tyF s a)).2 = 0 then (if (tyF s r).2 = 0 then ((nodeTy s o t (tyF s a)).1 :: (tyF s r).1, 0) else ([], (tyF s r).2)) else ([], (nodeTy s o t (tyF s a)).2)
def tyT (s : Sc) (t : T) : TT × Nat := nodeTy s t.op t.text (tyF s t.args)
/-- What Of answers. -/
def ofM (s : Sc) (t : T) : TT × Nat := if (printM t).2 = 0 then tyT s t else (TT.zero, (printM t).2)

theorem tyF_cons (s : Sc) (o n : Int) (t : List UInt8) (a r : F) : tyF s (.cons o n t a r) =
    if (tyT s ⟨o, n, t, a⟩).2 = 0 then (if (tyF s r).2 = 0 then ((tyT s ⟨o, n, t, a⟩).1 :: (tyF s r).1, 0) else ([], (tyF s r).2)) else ([], (tyT s ⟨o, n, t, a⟩).2) := rfl
theorem tyF_len (s : Sc) : ∀ l : F, (tyF s l).2 = 0 → (tyF s l).1.length = l.len
  | .nil, _ => rfl
  | .cons o n t a r, h => by
    rw [tyF_cons] at h ⊢
    by_cases h1 : (tyT s ⟨o, n, t, a⟩).2 = 0
    · rw [if_pos h1] at h ⊢
      by_cases h2 : (tyF s r).2 = 0
      · rw [if_pos h2]
        show (tyF s r).1.length + 1 = r.len + 1
        rw [tyF_len s r h2]
      · rw [if_neg h2] at h; exact absurd h h2
    · rw [if_neg h1] at h; exact absurd h h1

-- what isn't named
/-- The texts of all nodes with an Op. -/
def namesF (op : Int) : F → List (List UInt8)
  | .nil => []
  | .cons o _ t a r => (if o = op then [t] else []) ++ namesF op a ++ namesF op r
def namesT (op : Int) (t : T) : List (List UInt8) := (if t.op = op then [t.text] else []) ++ namesF op t.args
def only (l : List AttrP) (names : List (List UInt8)) : List AttrP := l.filter (fun a => names.any (fun n => n == a.name))
theorem named_only (l : List AttrP) (names : List (List UInt8)) (n : List UInt8) (h : n ∈ names) : namedTy (only l names) n = namedTy l n := by
  induction l with
  | nil => rfl
  | cons a r ih =>
    by_cases hk : names.any (fun n => n == a.name) = true
    · have e : only (a :: r) names = a :: only r names := by unfold only; rw [List.filter_cons, if_pos hk]
      rw [e]
      show (if a.name = n then _ else namedTy (only r names) n) = (if a.name = n then _ else namedTy r n)
      rw [ih]
    · have e : only (a :: r) names = only r names := by unfold only; rw [List.filter_cons, if_neg hk]
      rw [e, ih]
      have hne : a.name ≠ n := by
        intro e
        apply hk
        rw [List.any_eq_true]
        exact ⟨n, h, by simp [e]⟩
      show _ = (if a.name = n then _ else namedTy r n)
      rw [if_neg hne]
def Sc.only (s : Sc) (na nf : List (List UInt8)) : Sc := ⟨s.enums, Ty.only s.attrs na, Ty.only s.fields nf⟩
theorem one_only (s : Sc) (na nf : List (List UInt8)) (o : Int) (t : List UInt8) (l : List TT) (h6 : o = 6 → t ∈ na) (h7 : o = 7 → t ∈ nf) : oneTy (s.only na nf) o t l = oneTy s o t l := by
  unfold oneTy
  by_cases h : o = 4
  · rw [if_pos h, if_pos h]
  rw [if_neg h, if_neg h]
  by_cases h : o = 6
  · rw [if_pos h, if_pos h]; exact named_only _ _ _ (h6 h)
  rw [if_neg h, if_neg h]
  by_cases h : o = 7
  · rw [if_pos h, if_pos h]; exact named_only _ _ _ (h7 h)
  rw [if_neg h, if_neg h]
  rfl
theorem F_only (s : Sc) (na nf : List (List UInt8)) : ∀ l : F, (∀ x ∈ namesF 6 l, x ∈ na) → (∀ x ∈ namesF 7 l, x ∈ nf) → tyF (s.only na nf) l = tyF s l
  | .nil, _, _ => rfl
  | .cons o n t a r, h6, h7 => by
    have ea := F_only s na nf a (fun x hx => h6 x (by unfold namesF; simp [hx])) (fun x hx => h7 x (by unfold namesF; simp [hx]))
    have er := F_only s na nf r (fun x hx => h6 x (by unfold namesF; simp [hx])) (fun x hx => h7 x (by unfold namesF; simp [hx]))
    have eo : tyT (s.only na nf) ⟨o, n, t, a⟩ = tyT s ⟨o, n, t, a⟩ := by
      unfold tyT nodeTy
      simp only [ea]
      rw [one_only s na nf o t _ (fun h => h6 t (by unfold namesF; simp [h])) (fun h => h7 t (by unfold namesF; simp [h]))]
    rw [tyF_cons, tyF_cons, eo, er]
theorem of_only (s : Sc) (t : T) : ofM (s.only (namesT 6 t) (namesT 7 t)) t = ofM s t := by
  unfold ofM
  have ea := F_only s (namesT 6 t) (namesT 7 t) t.args (fun x hx => by unfold namesT; simp [hx]) (fun x hx => by unfold namesT; simp [hx])
  have eo : tyT (s.only (namesT 6 t) (namesT 7 t)) t = tyT s t := by
    unfold tyT nodeTy
    rw [ea, one_only s _ _ t.op t.text _ (fun h => by unfold namesT; simp [h]) (fun h => by unfold namesT; simp [h])]
  rw [eo]

-- more is known
def Sc.more (s m : Sc) : Sc := ⟨s.enums ++ m.enums, s.attrs ++ m.attrs, s.fields ++ m.fields⟩
theorem has_more (l m : List EnumP) (n y : List UInt8) (h : hasB l n y = true) : hasB (l ++ m) n y = true := by
  induction l with
  | nil => cases h
  | cons e r ih =>
    rw [List.cons_append]
    unfold hasB at h ⊢
    by_cases he : e.name = n
    · rw [if_pos he] at h ⊢; exact h
    · rw [if_neg he] at h ⊢; exact ih h
theorem alike_more (l m : List EnumP) (a b : TT) (h : alikeB l a b = true) : alikeB (l ++ m) a b = true := by
  unfold alikeB at h ⊢
  by_cases h1 : a.kind ≠ b.kind
  · rw [if_pos h1] at h; cases h
  rw [if_neg h1] at h ⊢
  by_cases h2 : a.kind ≠ 4
  · rw [if_pos h2]
  rw [if_neg h2] at h ⊢
  by_cases h3 : a.lit ≠ [] ∧ b.lit ≠ []
  · rw [if_pos h3]
  rw [if_neg h3] at h ⊢
  by_cases h4 : a.lit ≠ []
  · rw [if_pos h4] at h ⊢; exact has_more _ _ _ _ h
  rw [if_neg h4] at h ⊢
  by_cases h5 : b.lit ≠ []
  · rw [if_pos h5] at h ⊢; exact has_more _ _ _ _ h
  rw [if_neg h5] at h ⊢; exact h
theorem fit_more (l m : List EnumP) (o : Int) (x : List TT) (h : fitB l o x = true) : fitB (l ++ m) o x = true := by
  unfold fitB at h ⊢
  split
  · rename_i h1; rw [if_pos h1] at h; exact h
  rename_i h1
  rw [if_neg h1] at h
  split
  · rename_i h2; rw [if_pos h2] at h; exact h
  rename_i h2
  rw [if_neg h2] at h
  split
  · rename_i h3; rw [if_pos h3] at h; exact h
  rename_i h3
  rw [if_neg h3] at h
  split
  · rename_i h4; rw [if_pos h4] at h; exact alike_more _ _ _ _ h
  rename_i h4
  rw [if_neg h4] at h
  exact h
theorem named_more (l m : List AttrP) (n : List UInt8) (h : (namedTy l n).2 = 0) : namedTy (l ++ m) n = namedTy l n := by
  induction l with
  | nil => cases h
  | cons a r ih =>
    rw [List.cons_append]
    unfold namedTy at h ⊢
    by_cases he : a.name = n
    · rw [if_pos he, if_pos he]
    · rw [if_neg he] at h; rw [if_neg he, if_neg he]; exact ih h
theorem one_more (s m : Sc) (o : Int) (t : List UInt8) (l : List TT) (h : (oneTy s o t l).2 = 0) : oneTy (s.more m) o t l = oneTy s o t l := by
  unfold oneTy at h ⊢
  by_cases h4 : o = 4
  · rw [if_pos h4, if_pos h4]
  rw [if_neg h4] at h; rw [if_neg h4, if_neg h4]
  by_cases h6 : o = 6
  · rw [if_pos h6] at h; rw [if_pos h6, if_pos h6]; exact named_more _ _ _ h
  rw [if_neg h6] at h; rw [if_neg h6, if_neg h6]
  by_cases h7 : o = 7
  · rw [if_pos h7] at h; rw [if_pos h7, if_pos h7]; exact named_more _ _ _ h
  rw [if_neg h7] at h; rw [if_neg h7, if_neg h7]
  by_cases hf : fitB s.enums o l = true
  · have := fit_more s.enums m.enums o l hf
    rw [if_pos hf]
    show (if fitB (s.enums ++ m.enums) o l = true then _ else _) = _
    rw [if_pos this]
  · rw [if_neg hf] at h; cases h
theorem T_more' (s m : Sc) (t : T) (ih : (tyF s t.args).2 = 0 → tyF (s.more m) t.args = tyF s t.args) (h : (tyT s t).2 = 0) : tyT (s.more m) t = tyT s t := by
  unfold tyT nodeTy at h ⊢
  by_cases h0 : (tyF s t.args).2 = 0
  · rw [ih h0]
    rw [if_pos h0] at h
    rw [if_pos h0, if_pos h0]
    exact one_more s m _ _ _ h
  · rw [if_neg h0] at h; exact absurd h h0
theorem F_more (s m : Sc) : ∀ l : F, (tyF s l).2 = 0 → tyF (s.more m) l = tyF s l
  | .nil, _ => rfl
  | .cons o n t a r, h => by
    rw [tyF_cons] at h
    by_cases h1 : (tyT s ⟨o, n, t, a⟩).2 = 0
    · rw [if_pos h1] at h
      by_cases h2 : (tyF s r).2 = 0
      · rw [tyF_cons, tyF_cons, T_more' s m ⟨o, n, t, a⟩ (F_more s m a) h1, F_more s m r h2]
      · rw [if_neg h2] at h; exact absurd h h2
    · rw [if_neg h1] at h; exact absurd h h1
theorem of_more (s m : Sc) (t : T) (h : (ofM s t).2 = 0) : ofM (s.more m) t = ofM s t := by
  unfold ofM at h ⊢
  by_cases h0 : (printM t).2 = 0
  · rw [if_pos h0] at h; rw [if_pos h0, if_pos h0]
    exact T_more' s m t (F_more s m t.args) h
  · rw [if_neg h0, if_neg h0]

end Go.Proofs.YtchjckdjkecjnaaGreatDoor.Ty
