/-
  The texts of values, and their keys: no two are alike; plain mathematics.
-/
import Derived.Test.YtfkmpegbidojoaaVaPure
namespace Go.Proofs.Ytfkmpegbidojoaa.Va

/-! ### numbers -/
def digs (n : Nat) : List UInt8 := if h : n < 10 then [UInt8.ofNat (48 + n)] else digs (n / 10) ++ [UInt8.ofNat (48 + n % 10)]
termination_by n
decreasing_by omega
def undig (l : List UInt8) : Nat := l.foldl (fun a c => 10 * a + (c.toNat - 48)) 0
theorem dig_nat (k : Nat) (h : k < 10) : (UInt8.ofNat (48 + k)).toNat = 48 + k := by simp [UInt8.toNat_ofNat']; omega
theorem undig_digs (n : Nat) : undig (digs n) = n := by
  induction n using Nat.strongRecOn with
  | ind n ih =>
    rw [digs]
    split
    · rename_i h; simp only [undig, List.foldl_cons, List.foldl_nil]; rw [dig_nat n h]; omega
    · rename_i h
      have := ih (n / 10) (by omega)
      unfold undig at this ⊢
      rw [List.foldl_append, this]
      simp only [List.foldl_cons, List.foldl_nil]
      rw [dig_nat _ (by omega)]; omega
theorem digs_dig (n : Nat) : (∀ c ∈ digs n, digB c = true) ∧ digs n ≠ [] := by
  have hd : ∀ k, k < 10 → digB (UInt8.ofNat (48 + k)) = true := fun k hk => by
    have : ∀ i : Fin 10, digB (UInt8.ofNat (48 + i.val)) = true := by decide
    exact this ⟨k, hk⟩
  induction n using Nat.strongRecOn with
  | ind n ih =>
    rw [digs]
    split
    · rename_i h; exact ⟨fun c hc => by rw [List.mem_singleton] at hc; rw [hc]; exact hd n h, by simp⟩
    · rename_i h
      refine ⟨fun c hc => ?_, by simp⟩
      rcases List.mem_append.1 hc with h1 | h1
      · exact (ih (n / 10) (by omega)).1 c h1
      · rw [List.mem_singleton] at h1; rw [h1]; exact hd _ (by omega)
def decZ (n : Int) : List UInt8 := if n < 0 then 45 :: digs n.natAbs else digs n.toNat
def numB (c : UInt8) : Bool := digB c || c == 45
theorem decZ_num (n : Int) : (∀ c ∈ decZ n, numB c = true) ∧ decZ n ≠ [] := by
  unfold decZ
  split
  · refine ⟨fun c hc => ?_, by simp⟩
    rcases List.mem_cons.1 hc with rfl | h
    · rfl
    · simp [numB, (digs_dig _).1 c h]
  · exact ⟨fun c hc => by simp [numB, (digs_dig _).1 c hc], (digs_dig _).2⟩
theorem decZ_inj {a b : Int} (h : decZ a = decZ b) : a = b := by
  have no45 : ∀ n r, digs n ≠ 45 :: r := fun n r e => by
    have := (digs_dig n).1 45 (by rw [e]; simp)
    simp [digB] at this
  unfold decZ at h
  by_cases ha : a < 0 <;> by_cases hb : b < 0
  · rw [if_pos ha, if_pos hb] at h
    have := congrArg undig (List.cons.inj h).2
    rw [undig_digs, undig_digs] at this; omega
  · rw [if_pos ha, if_neg hb] at h; exact absurd h.symm (no45 _ _)
  · rw [if_neg ha, if_pos hb] at h; exact absurd h (no45 _ _)
  · rw [if_neg ha, if_neg hb] at h
    have := congrArg undig h
    rw [undig_digs, undig_digs] at this; omega

/-- Two beginnings of one sort, each as long as can be. -/
theorem span_eq (p : UInt8 → Bool) : ∀ (xs ys r s : List UInt8), (∀ c ∈ xs, p c = true) → (∀ c ∈ ys, p c = true) → (∀ c t, r = c :: t → p c = false) → (∀ c t, s = c :: t → p c = false) → xs ++ r = ys ++ s → xs = ys ∧ r = s
  | [], [], _, _, _, _, _, _, h => ⟨rfl, h⟩
  | [], y :: ys, r, s, _, hy, hr, _, h => by
    have := hr y (ys ++ s) h
    rw [hy y (by simp)] at this; cases this
  | x :: xs, [], r, s, hx, _, _, hs, h => by
    have := hs x (xs ++ r) h.symm
    rw [hx x (by simp)] at this; cases this
  | x :: xs, y :: ys, r, s, hx, hy, hr, hs, h => by
    simp only [List.cons_append, List.cons.injEq] at h
    obtain ⟨e1, e2⟩ := span_eq p xs ys r s (fun c hc => hx c (by simp [hc])) (fun c hc => hy c (by simp [hc])) hr hs h.2
    exact ⟨by rw [h.1, e1], e2⟩

/-! ### texts -/
def hexC (n : Nat) : UInt8 := if n < 10 then UInt8.ofNat (48 + n) else UInt8.ofNat (87 + n)
def unhex (c : UInt8) : Nat := if c < 58 then c.toNat - 48 else c.toNat - 87
def esc (c : UInt8) : List UInt8 := if c < 32 || 126 < c then [92, 120, hexC (c.toNat / 16), hexC (c.toNat % 16)] else if c == 34 || c == 92 then [92, c] else [c]
def unesc : List UInt8 → Option (UInt8 × List UInt8)
  | [] => none
  | c :: r => if c = 34 then none else if c = 92 then match r with
    | [] => none
    | x :: r => if x = 120 then match r with
      | a :: b :: r => some (UInt8.ofNat (16 * unhex a + unhex b), r)
      | _ => none
      else some (x, r)
    else some (c, r)
theorem hex_back (c : UInt8) : UInt8.ofNat (16 * unhex (hexC (c.toNat / 16)) + unhex (hexC (c.toNat % 16))) = c := by
  have : ∀ i : Fin 256, UInt8.ofNat (16 * unhex (hexC (i.val / 16)) + unhex (hexC (i.val % 16))) = UInt8.ofNat i.val := by decide +kernel
  have h := this ⟨c.toNat, c.toNat_lt⟩
  simpa using h
theorem unesc_esc (c : UInt8) (r : List UInt8) : unesc (esc c ++ r) = some (c, r) := by
  unfold esc
  by_cases h1 : (c < 32 || 126 < c) = true
  · rw [if_pos h1]
    have e : ∀ (a b : UInt8) (r : List UInt8), unesc (92 :: 120 :: a :: b :: r) = some (UInt8.ofNat (16 * unhex a + unhex b), r) := fun _ _ _ => rfl
    have := e (hexC (c.toNat / 16)) (hexC (c.toNat % 16)) r
    rw [hex_back] at this
    exact this
  · rw [if_neg h1]
    by_cases h2 : (c == 34 || c == 92) = true
    · rw [if_pos h2]
      have h120 : c ≠ 120 := by intro e; subst e; simp at h2
      simp [unesc, h120]
    · rw [if_neg h2]
      simp only [List.cons_append, List.nil_append, unesc]
      simp only [Bool.or_eq_true, beq_iff_eq, not_or] at h2
      rw [if_neg h2.1, if_neg h2.2]
def escT (t : List UInt8) : List UInt8 := t.flatMap esc
theorem escT_split : ∀ (t s r q : List UInt8), escT t ++ 34 :: r = escT s ++ 34 :: q → t = s ∧ r = q
  | [], [], r, q, h => ⟨rfl, (List.cons.inj h).2⟩
  | [], c :: s, r, q, h => by
    have h1 : unesc (34 :: r) = none := by simp [unesc]
    have h2 : (34 :: r : List UInt8) = esc c ++ (escT s ++ 34 :: q) := by
      have : escT (c :: s) = esc c ++ escT s := rfl
      rw [this, List.append_assoc] at h; exact h
    rw [h2, unesc_esc] at h1; cases h1
  | c :: t, [], r, q, h => by
    have h1 : unesc (34 :: q) = none := by simp [unesc]
    have h2 : (34 :: q : List UInt8) = esc c ++ (escT t ++ 34 :: r) := by
      have : escT (c :: t) = esc c ++ escT t := rfl
      rw [this, List.append_assoc] at h; exact h.symm
    rw [h2, unesc_esc] at h1; cases h1
  | c :: t, d :: s, r, q, h => by
    have e1 : escT (c :: t) = esc c ++ escT t := rfl
    have e2 : escT (d :: s) = esc d ++ escT s := rfl
    rw [e1, e2, List.append_assoc, List.append_assoc] at h
    have h3 := congrArg unesc h
    rw [unesc_esc, unesc_esc] at h3
    simp only [Option.some.injEq, Prod.mk.injEq] at h3
    obtain ⟨a1, a2⟩ := escT_split t s r q h3.2
    exact ⟨by rw [h3.1, a1], a2⟩

/-! ### lists -/
def numsT : List Int → List UInt8
  | [] => []
  | [n] => decZ n
  | n :: m :: r => decZ n ++ 44 :: 32 :: numsT (m :: r)
theorem numsT_head {n : Int} {r : List Int} : ∃ c t, numsT (n :: r) = c :: t ∧ numB c = true := by
  obtain ⟨c, t, e⟩ := List.exists_cons_of_ne_nil (decZ_num n).2
  have hc := (decZ_num n).1 c (by rw [e]; simp)
  cases r with
  | nil => exact ⟨c, t, e, hc⟩
  | cons m r => exact ⟨c, _, by show decZ n ++ _ = _; rw [e]; rfl, hc⟩
theorem numsT_split : ∀ (l k : List Int) (r q : List UInt8), numsT l ++ 93 :: r = numsT k ++ 93 :: q → l = k ∧ r = q
  | [], [], r, q, h => ⟨rfl, (List.cons.inj h).2⟩
  | [], n :: k, r, q, h => by
    obtain ⟨c, t, e, hc⟩ := numsT_head (n := n) (r := k)
    rw [e] at h
    simp only [numsT, List.nil_append, List.cons_append, List.cons.injEq] at h
    rw [← h.1] at hc; simp [numB, digB] at hc
  | n :: l, [], r, q, h => by
    obtain ⟨c, t, e, hc⟩ := numsT_head (n := n) (r := l)
    rw [e] at h
    simp only [numsT, List.nil_append, List.cons_append, List.cons.injEq] at h
    rw [h.1] at hc; simp [numB, digB] at hc
  | n :: l, m :: k, r, q, h => by
    have n93 : ∀ c t (r : List UInt8), (93 :: r : List UInt8) = c :: t → numB c = false := fun c t r e => by rw [← (List.cons.inj e).1]; rfl
    have n44 : ∀ c t (r : List UInt8), (44 :: r : List UInt8) = c :: t → numB c = false := fun c t r e => by rw [← (List.cons.inj e).1]; rfl
    cases l with
    | nil => cases k with
      | nil =>
        obtain ⟨e1, e2⟩ := span_eq numB (decZ n) (decZ m) _ _ (decZ_num n).1 (decZ_num m).1 (fun c t => n93 c t r) (fun c t => n93 c t q) h
        exact ⟨by rw [decZ_inj e1], (List.cons.inj e2).2⟩
      | cons m2 k =>
        rw [show numsT (m :: m2 :: k) = decZ m ++ 44 :: 32 :: numsT (m2 :: k) from rfl, List.append_assoc] at h
        obtain ⟨e1, e2⟩ := span_eq numB (decZ n) (decZ m) _ _ (decZ_num n).1 (decZ_num m).1 (fun c t => n93 c t r) (fun c t => n44 c t _) h
        simp at e2
    | cons n2 l => cases k with
      | nil =>
        rw [show numsT (n :: n2 :: l) = decZ n ++ 44 :: 32 :: numsT (n2 :: l) from rfl, List.append_assoc] at h
        obtain ⟨e1, e2⟩ := span_eq numB (decZ n) (decZ m) _ _ (decZ_num n).1 (decZ_num m).1 (fun c t => n44 c t _) (fun c t => n93 c t q) h
        simp at e2
      | cons m2 k =>
        rw [show numsT (n :: n2 :: l) = decZ n ++ 44 :: 32 :: numsT (n2 :: l) from rfl, show numsT (m :: m2 :: k) = decZ m ++ 44 :: 32 :: numsT (m2 :: k) from rfl, List.append_assoc, List.append_assoc] at h
        obtain ⟨e1, e2⟩ := span_eq numB (decZ n) (decZ m) _ _ (decZ_num n).1 (decZ_num m).1 (fun c t => n44 c t _) (fun c t => n44 c t _) h
        obtain ⟨a1, a2⟩ := numsT_split (n2 :: l) (m2 :: k) r q (List.cons.inj (List.cons.inj e2).2).2
        exact ⟨by rw [decZ_inj e1, a1], a2⟩

/-! ### values -/
def printV (v : V) : List UInt8 :=
  if v.kind = 1 then decZ v.num else if v.kind = 2 then (if v.num = 1 then [116, 114, 117, 101] else [102, 97, 108, 115, 101])
  else if v.kind = 3 then 34 :: (escT v.text ++ [34]) else if v.kind = 4 then 39 :: v.text else if v.kind = 5 then 91 :: (numsT v.list ++ [93]) else [110, 111, 110, 101]
/-- What may stand behind a value's text in a key. -/
def Sep (r : List UInt8) : Prop := r = [] ∨ ∃ t, r = 44 :: t
theorem Sep.no {r : List UInt8} (h : Sep r) (p : UInt8 → Bool) (hp : p 44 = false) : ∀ c t, r = c :: t → p c = false := by
  intro c t e
  rcases h with h | ⟨q, h⟩
  · rw [h] at e; cases e
  · rw [h] at e; rw [← (List.cons.inj e).1]; exact hp
/-- What is right, sort by sort. -/
theorem right_cases {v : V} (h : rightB v = true) :
    (v.kind = 0 ∧ v.num = 0 ∧ v.text = [] ∧ v.list = []) ∨ (v.kind = 1 ∧ v.text = [] ∧ v.list = []) ∨ (v.kind = 2 ∧ (v.num = 0 ∨ v.num = 1) ∧ v.text = [] ∧ v.list = []) ∨
    (v.kind = 3 ∧ v.num = 0 ∧ v.list = []) ∨ (v.kind = 4 ∧ v.num = 0 ∧ nameB v.text = true ∧ v.list = []) ∨ (v.kind = 5 ∧ v.num = 0 ∧ v.text = []) := by
  obtain ⟨k, n, t, l⟩ := v
  simp only [rightB, Bool.and_eq_true, Bool.or_eq_true, decide_eq_true_eq, beq_iff_eq, bne_iff_ne, ne_eq, List.isEmpty_iff] at h ⊢
  obtain ⟨⟨⟨h1, h2⟩, h3⟩, h4⟩ := h
  have hk : k = 0 ∨ k = 1 ∨ k = 2 ∨ k = 3 ∨ k = 4 ∨ k = 5 := by omega
  rcases hk with rfl | rfl | rfl | rfl | rfl | rfl <;> simp_all <;> omega
theorem printV_split (v w : V) (hv : rightB v = true) (hw : rightB w = true) (r q : List UInt8) (hr : Sep r) (hq : Sep q) (h : printV v ++ r = printV w ++ q) : v = w ∧ r = q := by
  have hd : ∀ n c t, decZ n = c :: t → numB c = true := fun n c t e => (decZ_num n).1 c (by rw [e]; simp)
  obtain ⟨k, n, t, l⟩ := v
  obtain ⟨k', n', t', l'⟩ := w
  have hv := right_cases hv
  have hw := right_cases hw
  simp only at hv hw
  have numne : ∀ (m : Int) (c : UInt8) (x y : List UInt8), numB c = false → decZ m ++ x ≠ c :: y := by
    intro m c x y hc e
    obtain ⟨a, b, e1⟩ := List.exists_cons_of_ne_nil (decZ_num m).2
    rw [e1] at e
    have := hd m a b e1
    rw [(List.cons.inj e).1, hc] at this; cases this
  rcases hv with ⟨rfl, rfl, rfl, rfl⟩ | ⟨rfl, rfl, rfl⟩ | ⟨rfl, rfl | rfl, rfl, rfl⟩ | ⟨rfl, rfl, rfl⟩ | ⟨rfl, rfl, hnm, rfl⟩ | ⟨rfl, rfl, rfl⟩ <;>
  rcases hw with ⟨rfl, rfl, rfl, rfl⟩ | ⟨rfl, rfl, rfl⟩ | ⟨rfl, rfl | rfl, rfl, rfl⟩ | ⟨rfl, rfl, rfl⟩ | ⟨rfl, rfl, hnm', rfl⟩ | ⟨rfl, rfl, rfl⟩ <;>
  simp [printV] at h
  all_goals first
    | exact ⟨rfl, h⟩
    | exact absurd h (numne _ _ _ _ (by decide))
    | exact absurd h.symm (numne _ _ _ _ (by decide))
    | (obtain ⟨e1, e2⟩ := span_eq numB _ _ r q (decZ_num _).1 (decZ_num _).1 (hr.no numB (by decide)) (hq.no numB (by decide)) h
       exact ⟨by rw [decZ_inj e1], e2⟩)
    | (obtain ⟨e1, e2⟩ := escT_split _ _ _ _ h; exact ⟨by rw [e1], e2⟩)
    | (obtain ⟨e1, e2⟩ := numsT_split _ _ _ _ h; exact ⟨by rw [e1], e2⟩)
    | (obtain ⟨e1, e2⟩ := span_eq wordB _ _ r q (nameB_ne hnm).2.2 (nameB_ne hnm').2.2 (hr.no wordB (by decide)) (hq.no wordB (by decide)) h
       exact ⟨by rw [e1], e2⟩)

def keyT : List V → List UInt8
  | [] => []
  | [v] => printV v
  | v :: w :: r => printV v ++ 44 :: keyT (w :: r)
theorem keyT_inj : ∀ (a b : List V), (∀ v ∈ a, rightB v = true) → (∀ v ∈ b, rightB v = true) → a ≠ [] → b ≠ [] → keyT a = keyT b → a = b
  | [], _, _, _, h, _, _ => absurd rfl h
  | _ :: _, [], _, _, _, h, _ => absurd rfl h
  | v :: a, w :: b, ha, hb, _, _, h => by
    have hv := ha v (by simp)
    have hw := hb w (by simp)
    cases a with
    | nil => cases b with
      | nil =>
        have h : printV v = printV w := h
        have := printV_split v w hv hw [] [] (.inl rfl) (.inl rfl) (by rw [h])
        rw [this.1]
      | cons w2 b =>
        have h : printV v = printV w ++ 44 :: keyT (w2 :: b) := h
        have := (printV_split v w hv hw [] _ (.inl rfl) (.inr ⟨_, rfl⟩) (by rw [List.append_nil]; exact h)).2
        cases this
    | cons v2 a => cases b with
      | nil =>
        have h : printV v ++ 44 :: keyT (v2 :: a) = printV w := h
        have := (printV_split v w hv hw _ [] (.inr ⟨_, rfl⟩) (.inl rfl) (by rw [List.append_nil]; exact h)).2
        cases this
      | cons w2 b =>
        have h : printV v ++ 44 :: keyT (v2 :: a) = printV w ++ 44 :: keyT (w2 :: b) := h
        obtain ⟨e1, e2⟩ := printV_split v w hv hw _ _ (.inr ⟨_, rfl⟩) (.inr ⟨_, rfl⟩) h
        rw [e1, keyT_inj (v2 :: a) (w2 :: b) (fun x hx => ha x (List.mem_cons_of_mem _ hx)) (fun x hx => hb x (List.mem_cons_of_mem _ hx)) (by simp) (by simp) (List.cons.inj e2).2]
theorem keyT_iff (a b : List V) (ha : ∀ v ∈ a, rightB v = true) (hb : ∀ v ∈ b, rightB v = true) (ha0 : a ≠ []) (hb0 : b ≠ []) : keyT a = keyT b ↔ a = b :=
  ⟨keyT_inj a b ha hb ha0 hb0, fun h => by rw [h]⟩

end Go.Proofs.Ytfkmpegbidojoaa.Va
