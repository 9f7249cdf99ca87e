/-
  VaPure, VaKeys, LxPure, LxTok.
-/
namespace Go.Proofs.YtlmmfhbdebfgkaaGreatDoor.Va
structure V where
  kind : Int
  num : Int
  text : List UInt8
  list : List Int
def letB (c : UInt8) : Bool := (97 ≤ c && c ≤ 122) || (65 ≤ c && c ≤ 90)
def digB (c : UInt8) : Bool := 48 ≤ c && c ≤ 57
def wordB (c : UInt8) : Bool := letB c || digB c || c == 95
def nameB (s : List UInt8) : Bool := match s with
  | [] => false
  | c :: r => letB c && r.all wordB && decide (r.length ≤ 23)
theorem nameB_take (s : List UInt8) (h : nameB s = true) (k : Nat) (hk : 1 ≤ k) : nameB (s.take k) = true := by
  cases s with
  | nil => simp [nameB] at h
  | cons c r =>
    obtain ⟨k, rfl⟩ : ∃ n, k = n + 1 := ⟨k - 1, by omega⟩
    simp only [nameB, Bool.and_eq_true, decide_eq_true_eq, List.take_succ_cons, List.all_eq_true] at h ⊢
    exact ⟨⟨h.1.1, fun x hx => h.1.2 x (List.mem_of_mem_take hx)⟩, by rw [List.length_take]; omega⟩
theorem nameB_ne {s : List UInt8} (h : nameB s = true) : s ≠ [] ∧ s.length ≤ 24 ∧ ∀ c ∈ s, wordB c = true := by
  cases s with
  | nil => simp [nameB] at h
  | cons c r =>
    simp only [nameB, Bool.and_eq_true, decide_eq_true_eq, List.all_eq_true] at h
    refine ⟨by simp, by simp; omega, ?_⟩
    intro x hx
    rcases List.mem_cons.1 hx with rfl | hx
    · simp [wordB, h.1.1]
    · exact h.1.2 x hx
def rightB (v : V) : Bool :=
  decide (0 ≤ v.kind ∧ v.kind ≤ 5) && (v.kind == 1 || (v.kind == 2 && (v.num == 0 || v.num == 1)) || v.num == 0) &&
  ((v.kind == 3 && decide (v.text.length ≤ 64)) || (v.kind == 4 && nameB v.text) || (v.kind != 3 && v.kind != 4 && v.text.isEmpty)) &&
  ((v.kind == 5 && decide (v.list.length ≤ 16)) || (v.kind != 5 && v.list.isEmpty))
def ordI (a b : Int) : Int := if a < b then -1 else if b < a then 1 else 0
def ordL : List Int → List Int → Int
  | [], [] => 0
  | [], _ :: _ => -1
  | _ :: _, [] => 1
  | a :: r, b :: s => if a = b then ordL r s else ordI a b
structure Cmp {α : Type} (c : α → α → Int) : Prop where
  swap : ∀ a b, c b a = - c a b
  zero : ∀ a b, c a b = 0 ↔ a = b
  trans : ∀ a b d, c a b < 0 → c b d < 0 → c a d < 0
theorem Cmp.le {α : Type} {c : α → α → Int} (h : Cmp c) {a b d : α} (h1 : c a b ≤ 0) (h2 : c b d ≤ 0) : c a d ≤ 0 := by
  by_cases e1 : c a b = 0
  · rw [(h.zero a b).1 e1]; exact h2
  · by_cases e2 : c b d = 0
    · rw [← (h.zero b d).1 e2]; exact h1
    · have := h.trans a b d (by omega) (by omega); omega
theorem Cmp.ge {α : Type} {c : α → α → Int} (h : Cmp c) {a b d : α} (h1 : 0 ≤ c a b) (h2 : 0 ≤ c b d) : 0 ≤ c a d := by
  have h3 := h.swap a b
  have h4 := h.swap b d
  have h5 := h.swap a d
  have := h.le (a := d) (b := b) (d := a) (by omega) (by omega)
  omega
theorem cmpI : Cmp ordI := by
  refine ⟨?_, ?_, ?_⟩
  · intro a b; unfold ordI; split <;> split <;> (try split) <;> omega
  · intro a b; unfold ordI; split <;> (try split) <;> constructor <;> intro h <;> omega
  · intro a b d; unfold ordI; split <;> split <;> (try split) <;> (try split) <;> (try split) <;> omega
end Go.Proofs.YtlmmfhbdebfgkaaGreatDoor.Va
namespace Go.Proofs.YtlmmfhbdebfgkaaGreatDoor.Va
def digs (n : Nat) : List UInt8 := if h : n < 10 then [UInt8.ofNat (48 + n)] else digs (n / 10) ++ [UInt8.ofNat (48 + n % 10)]
termination_by n
decreasing_by omega
def undig (l : List UInt8) : Nat := l.foldl (fun a c => 10 * a + (c.toNat - 48)) 0
theorem dig_nat (k : Nat) (h : k < 10) : (UInt8.ofNat (48 + k)).toNat = 48 + k := by simp [UInt8.toNat_ofNat']; omega
theorem undig_digs (n : Nat) : undig (digs n) = n := by
  induction n using Nat.strongRecOn with
  | ind n ih =>
    rw [digs]
    split
    · rename_i h; simp only [undig, List.foldl_cons, List.foldl_nil]; rw [dig_nat n h]; omega
    · rename_i h
      have := ih (n / 10) (by omega)
      unfold undig at this ⊢
      rw [List.foldl_append, this]
      simp only [List.foldl_cons, List.foldl_nil]
      rw [dig_nat _ (by omega)]; omega
theorem digs_dig (n : Nat) : (∀ c ∈ digs n, digB c = true) ∧ digs n ≠ [] := by
  have hd : ∀ k, k < 10 → digB (UInt8.ofNat (48 + k)) = true := fun k hk => by
    have : ∀ i : Fin 10, digB (UInt8.ofNat (48 + i.val)) = true := by decide
    exact this ⟨k, hk⟩
  induction n using Nat.strongRecOn with
  | ind n ih =>
    rw [digs]
    split
    · rename_i h; exact ⟨fun c hc => by rw [List.mem_singleton] at hc; rw [hc]; exact hd n h, by simp⟩
    · rename_i h
      refine ⟨fun c hc => ?_, by simp⟩
      rcases List.mem_append.1 hc with h1 | h1
      · exact (ih (n / 10) (by omega)).1 c h1
      · rw [List.mem_singleton] at h1; rw [h1]; exact hd _ (by omega)
def decZ (n : Int) : List UInt8 := if n < 0 then 45 :: digs n.natAbs else digs n.toNat
def numB (c : UInt8) : Bool := digB c || c == 45
theorem decZ_num (n : Int) : (∀ c ∈ decZ n, numB c = true) ∧ decZ n ≠ [] := by
  unfold decZ
  split
  · refine ⟨fun c hc => ?_, by simp⟩
    rcases List.mem_cons.1 hc with rfl | h
    · rfl
    · simp [numB, (digs_dig _).1 c h]
  · exact ⟨fun c hc => by simp [numB, (digs_dig _).1 c hc], (digs_dig _).2⟩
def hexC (n : Nat) : UInt8 := if n < 10 then UInt8.ofNat (48 + n) else UInt8.ofNat (87 + n)
def unhex (c : UInt8) : Nat := if c < 58 then c.toNat - 48 else c.toNat - 87
def esc (c : UInt8) : List UInt8 := if c < 32 || 126 < c then [92, 120, hexC (c.toNat / 16), hexC (c.toNat % 16)] else if c == 34 || c == 92 then [92, c] else [c]
def unesc : List UInt8 → Option (UInt8 × List UInt8)
  | [] => none
  | c :: r => if c = 34 then none else if c = 92 then match r with
    | [] => none
    | x :: r => if x = 120 then match r with
      | a :: b :: r => some (UInt8.ofNat (16 * unhex a + unhex b), r)
      | _ => none
      else some (x, r)
    else some (c, r)
theorem hex_back (c : UInt8) : UInt8.ofNat (16 * unhex (hexC (c.toNat / 16)) + unhex (hexC (c.toNat % 16))) = c := by
  have : ∀ i : Fin 256, UInt8.ofNat (16 * unhex (hexC (i.val / 16)) + unhex (hexC (i.val % 16))) = UInt8.ofNat i.val := by decide +kernel
  have h := this ⟨c.toNat, c.toNat_lt⟩
  simpa using h
theorem unesc_esc (c : UInt8) (r : List UInt8) : unesc (esc c ++ r) = some (c, r) := by
  unfold esc
  by_cases h1 : (c < 32 || 126 < c) = true
  · rw [if_pos h1]
    have e : ∀ (a b : UInt8) (r : List UInt8), unesc (92 :: 120 :: a :: b :: r) = some (UInt8.ofNat (16 * unhex a + unhex b), r) := fun _ _ _ => rfl
    have := e (hexC (c.toNat / 16)) (hexC (c.toNat % 16)) r
    rw [hex_back] at this
    exact this
  · rw [if_neg h1]
    by_cases h2 : (c == 34 || c == 92) = true
    · rw [if_pos h2]
      have h120 : c ≠ 120 := by intro e; subst e; simp at h2
      simp [unesc, h120]
    · rw [if_neg h2]
      simp only [List.cons_append, List.nil_append, unesc]
      simp only [Bool.or_eq_true, beq_iff_eq, not_or] at h2
      rw [if_neg h2.1, if_neg h2.2]
def escT (t : List UInt8) : List UInt8 := t.flatMap esc
def numsT : List Int → List UInt8
  | [] => []
  | [n] => decZ n
  | n :: m :: r => decZ n ++ 44 :: 32 :: numsT (m :: r)
def printV (v : V) : List UInt8 :=
  if v.kind = 1 then decZ v.num else if v.kind = 2 then (if v.num = 1 then [116, 114, 117, 101] else [102, 97, 108, 115, 101])
  else if v.kind = 3 then 34 :: (escT v.text ++ [34]) else if v.kind = 4 then 39 :: v.text else if v.kind = 5 then 91 :: (numsT v.list ++ [93]) else [110, 111, 110, 101]
def Sep (r : List UInt8) : Prop := r = [] ∨ ∃ t, r = 44 :: t
theorem Sep.no {r : List UInt8} (h : Sep r) (p : UInt8 → Bool) (hp : p 44 = false) : ∀ c t, r = c :: t → p c = false := by
  intro c t e
  rcases h with h | ⟨q, h⟩
  · rw [h] at e; cases e
  · rw [h] at e; rw [← (List.cons.inj e).1]; exact hp
theorem right_cases {v : V} (h : rightB v = true) :
    (v.kind = 0 ∧ v.num = 0 ∧ v.text = [] ∧ v.list = []) ∨ (v.kind = 1 ∧ v.text = [] ∧ v.list = []) ∨ (v.kind = 2 ∧ (v.num = 0 ∨ v.num = 1) ∧ v.text = [] ∧ v.list = []) ∨
    (v.kind = 3 ∧ v.num = 0 ∧ v.list = []) ∨ (v.kind = 4 ∧ v.num = 0 ∧ nameB v.text = true ∧ v.list = []) ∨ (v.kind = 5 ∧ v.num = 0 ∧ v.text = []) := by
  obtain ⟨k, n, t, l⟩ := v
  simp only [rightB, Bool.and_eq_true, Bool.or_eq_true, decide_eq_true_eq, beq_iff_eq, bne_iff_ne, ne_eq, List.isEmpty_iff] at h ⊢
  obtain ⟨⟨⟨h1, h2⟩, h3⟩, h4⟩ := h
  have hk : k = 0 ∨ k = 1 ∨ k = 2 ∨ k = 3 ∨ k = 4 ∨ k = 5 := by omega
  rcases hk with rfl | rfl | rfl | rfl | rfl | rfl <;> simp_all <;> omega
end Go.Proofs.YtlmmfhbdebfgkaaGreatDoor.Va
namespace Go.Proofs.YtlmmfhbdebfgkaaGreatDoor.Lx
open Va
def whiteB (c : UInt8) : Bool := c == 9 || c == 10 || c == 13 || c == 32
def blk : Bool → List UInt8 → Nat
  | _, [] => 0
  | true, c :: r => if c = 10 then 1 + blk false r else 1 + blk true r
  | false, c :: r => if whiteB c = true then 1 + blk false r else if c = 47 ∧ r.head? = some 47 then 1 + blk true r else 0
def quo : Nat → List UInt8 → Option (List UInt8 × Nat)
  | 0, _ => none
  | f + 1, l => if l.head? = some 34 then some ([], 1) else match unesc l with
    | none => none
    | some (c, r) => if esc c ++ r = l then match quo f r with
      | none => none
      | some (t, n) => some (c :: t, (esc c).length + n)
      else none
def signs : List (List UInt8) := [[45, 62], [46, 46], [61, 61], [33, 61], [60, 61], [62, 61], [38, 38], [124, 124], [123], [125], [40], [41], [91], [93], [59], [58], [44], [46], [61], [60], [62], [43], [45], [42], [47], [37], [33]]
def digsOk (d : List UInt8) : Bool := (d.length == 1 || d.head? != some 48) && decide (undig d ≤ 9223372036854775807)
structure Tok where
  kind : Int
  text : List UInt8
  num : Int
  len : Nat
deriving DecidableEq
def tokM : List UInt8 → Option Tok
  | [] => none
  | c :: r =>
    if c = 39 then (let n := r.takeWhile wordB; if nameB n = true then some ⟨4, n, 0, n.length + 1⟩ else none)
    else if letB c = true then (let n := (c :: r).takeWhile wordB; if nameB n = true then some ⟨1, n, 0, n.length⟩ else none)
    else if digB c = true then (let d := (c :: r).takeWhile digB; if digsOk d = true then some ⟨2, d, undig d, d.length⟩ else none)
    else if c = 34 then (match quo (r.length + 1) r with
      | none => none
      | some (t, n) => if t.length ≤ 64 then some ⟨3, t, 0, n + 1⟩ else none)
    else match signs.find? (fun s => s.isPrefixOf (c :: r)) with
      | none => none
      | some s => some ⟨5, s, 0, s.length⟩
structure TA where
  kind : Int
  text : List UInt8
  num : Int
  at_ : Nat
def scanF : Nat → List UInt8 → Nat → List TA × Option Nat
  | 0, _, at_ => ([], some at_)
  | f + 1, l, at_ =>
    let b := blk false l
    match l.drop b with
    | [] => ([⟨0, [], 0, at_ + b⟩], none)
    | m@(_ :: _) => match tokM m with
      | none => ([], some (at_ + b))
      | some t => let (ts, e) := scanF f (m.drop t.len) (at_ + b + t.len); (⟨t.kind, t.text, t.num, at_ + b⟩ :: ts, e)
theorem blk_le : ∀ b l, blk b l ≤ l.length
  | _, [] => by simp [blk]
  | true, c :: r => by
    unfold blk
    have h1 := blk_le false r
    have h2 := blk_le true r
    split <;> simp <;> omega
  | false, c :: r => by
    unfold blk
    have h1 := blk_le false r
    have h2 := blk_le true r
    split
    · simp; omega
    · split <;> simp; omega
theorem blk_t (c : UInt8) (r : List UInt8) : blk true (c :: r) = if c = 10 then 1 + blk false r else 1 + blk true r := rfl
theorem blk_f (c : UInt8) (r : List UInt8) : blk false (c :: r) = if whiteB c = true then 1 + blk false r else if c = 47 ∧ r.head? = some 47 then 1 + blk true r else 0 := rfl
theorem blk_append : ∀ b l q, blk b l < l.length → q.head? ≠ some 47 → blk b (l ++ q) = blk b l
  | _, [], _, h, _ => by simp at h
  | true, c :: r, q, h, hq => by
    rw [blk_t] at h
    rw [List.cons_append, blk_t, blk_t]
    by_cases hc : c = 10
    · rw [if_pos hc] at h
      simp only [if_pos hc]
      rw [blk_append false r q (by simp at h; omega) hq]
    · rw [if_neg hc] at h
      simp only [if_neg hc]
      rw [blk_append true r q (by simp at h; omega) hq]
  | false, c :: r, q, h, hq => by
    rw [blk_f] at h
    rw [List.cons_append, blk_f, blk_f]
    by_cases hw : whiteB c = true
    · rw [if_pos hw] at h
      simp only [if_pos hw]
      rw [blk_append false r q (by simp at h; omega) hq]
    · rw [if_neg hw] at h
      simp only [if_neg hw]
      by_cases hc : c = 47 ∧ r.head? = some 47
      · rw [if_pos hc] at h
        have hr : (r ++ q).head? = some 47 := by rw [List.head?_append, hc.2]; rfl
        rw [if_pos ⟨hc.1, hr⟩, if_pos hc]
        rw [blk_append true r q (by simp at h; omega) hq]
      · rw [if_neg hc]
        rw [if_neg]
        rintro ⟨h1, h2⟩
        apply hc
        refine ⟨h1, ?_⟩
        cases r with
        | nil => simp at h2; exact absurd h2 hq
        | cons d s => simpa using h2
theorem blk_all : ∀ b l q, blk b l = l.length → blk b (l ++ 10 :: q) = l.length + 1 + blk false q
  | true, [], q, _ => by rw [List.nil_append, blk_t]; simp
  | false, [], q, _ => by rw [List.nil_append, blk_f]; simp [whiteB]
  | true, c :: r, q, h => by
    rw [blk_t] at h
    rw [List.cons_append, blk_t]
    by_cases hc : c = 10
    · rw [if_pos hc] at h
      simp only [if_pos hc]
      rw [blk_all false r q (by simp at h; omega)]; simp; omega
    · rw [if_neg hc] at h
      simp only [if_neg hc]
      rw [blk_all true r q (by simp at h; omega)]; simp; omega
  | false, c :: r, q, h => by
    rw [blk_f] at h
    rw [List.cons_append, blk_f]
    by_cases hw : whiteB c = true
    · rw [if_pos hw] at h
      simp only [if_pos hw]
      rw [blk_all false r q (by simp at h; omega)]; simp; omega
    · rw [if_neg hw] at h
      simp only [if_neg hw]
      by_cases hc : c = 47 ∧ r.head? = some 47
      · rw [if_pos hc] at h
        have hr : (r ++ 10 :: q).head? = some 47 := by rw [List.head?_append, hc.2]; rfl
        rw [if_pos ⟨hc.1, hr⟩]
        rw [blk_all true r q (by simp at h; omega)]; simp; omega
      · rw [if_neg hc] at h; simp at h
theorem takeWhile_append (p : UInt8 → Bool) (l q : List UInt8) (h : (l.takeWhile p).length < l.length ∨ ∀ c, q.head? = some c → p c = false) : (l ++ q).takeWhile p = l.takeWhile p := by
  induction l with
  | nil =>
    simp only [List.nil_append, List.takeWhile_nil, List.length_nil, Nat.lt_irrefl, false_or] at h ⊢
    cases q with
    | nil => rfl
    | cons c s => rw [List.takeWhile_cons, h c rfl]; simp
  | cons c r ih =>
    simp only [List.cons_append, List.takeWhile_cons] at h ⊢
    by_cases hp : p c = true
    · rw [if_pos hp] at h ⊢
      rw [if_pos hp, ih (by rcases h with h | h; exact .inl (by simpa using h); exact .inr h)]
    · rw [if_neg hp, if_neg hp]
theorem quo_append : ∀ f l q g x, quo f l = some x → f ≤ g → quo g (l ++ q) = some x
  | 0, l, q, g, x, h, _ => by simp [quo] at h
  | f + 1, l, q, g, x, h, hg => by
    obtain ⟨g, rfl⟩ : ∃ n, g = n + 1 := ⟨g - 1, by omega⟩
    unfold quo at h ⊢
    by_cases h34 : l.head? = some 34
    · rw [if_pos h34] at h
      rw [if_pos (by rw [List.head?_append, h34]; rfl)]; exact h
    · rw [if_neg h34] at h
      cases hu : unesc l with
      | none => rw [hu] at h; cases h
      | some cr =>
        obtain ⟨c, r⟩ := cr
        rw [hu] at h
        simp only at h
        by_cases he : esc c ++ r = l
        · rw [if_pos he] at h
          have hu2 : unesc (l ++ q) = some (c, r ++ q) := by rw [← he, List.append_assoc, unesc_esc]
          have hne : l ≠ [] := by intro e; rw [e] at hu; simp [unesc] at hu
          have h34' : (l ++ q).head? ≠ some 34 := by
            cases l with
            | nil => exact absurd rfl hne
            | cons d s => simpa using h34
          rw [if_neg h34', hu2]
          simp only
          rw [if_pos (by rw [← he, List.append_assoc])]
          cases hq : quo f r with
          | none => rw [hq] at h; cases h
          | some tn =>
            obtain ⟨t, n⟩ := tn
            rw [hq] at h
            rw [quo_append f r q g (t, n) hq (by omega)]
            exact h
        · rw [if_neg he] at h; cases h
end Go.Proofs.YtlmmfhbdebfgkaaGreatDoor.Lx
namespace Go.Proofs.YtlmmfhbdebfgkaaGreatDoor.Lx
open Va
theorem find_congr {α : Type} (l : List α) (p q : α → Bool) (h : ∀ a ∈ l, p a = q a) : l.find? p = l.find? q := by
  induction l with
  | nil => rfl
  | cons a r ih =>
    simp only [List.find?_cons]
    rw [h a (by simp), ih (fun b hb => h b (by simp [hb]))]
theorem white_not (c : UInt8) (h : whiteB c = true) : wordB c = false ∧ digB c = false := by
  have : ∀ i : Fin 256, whiteB (UInt8.ofNat i.val) = true → wordB (UInt8.ofNat i.val) = false ∧ digB (UInt8.ofNat i.val) = false := by decide +kernel
  have h1 := this ⟨c.toNat, c.toNat_lt⟩
  simp only [UInt8.ofNat_toNat] at h1
  exact h1 h
theorem signs_short : ∀ s ∈ signs, s.length ≤ 2 ∧ 1 ≤ s.length ∧ ∀ b, s[1]? = some b → whiteB b = false := by
  have : signs.all (fun s => decide (s.length ≤ 2) && decide (1 ≤ s.length) && (match s[1]? with | none => true | some b => !whiteB b)) = true := by decide
  intro s hs
  have h := List.all_eq_true.1 this s hs
  simp only [Bool.and_eq_true, decide_eq_true_eq] at h
  refine ⟨h.1.1, h.1.2, fun b hb => ?_⟩
  have h2 := h.2
  rw [hb] at h2
  simpa using h2
def Dlm (q : List UInt8) : Prop := ∀ c, q.head? = some c → whiteB c = true
theorem sign_append (s l q : List UInt8) (hs : s ∈ signs) (h : 2 ≤ l.length ∨ (l.length = 1 ∧ Dlm q)) : s.isPrefixOf (l ++ q) = s.isPrefixOf l := by
  obtain ⟨h1, h2, h3⟩ := signs_short s hs
  rw [Bool.eq_iff_iff, List.isPrefixOf_iff_prefix, List.isPrefixOf_iff_prefix]
  by_cases hl : s.length ≤ l.length
  · rw [List.prefix_iff_eq_take, List.prefix_iff_eq_take, List.take_append_of_le_length hl]
  · have hl1 : l.length = 1 := by rcases h with h | h <;> omega
    have hd : Dlm q := by rcases h with h | h; omega; exact h.2
    constructor
    · intro hp
      exfalso
      match s, h1, h2, hl with
      | [a, b], _, _, _ =>
        match l, hl1 with
        | [c], _ =>
          cases q with
          | nil =>
            have := hp.length_le; simp at this
          | cons d r =>
            have h4 : a = c ∧ b = d := by
              obtain ⟨t, ht⟩ := hp
              simp at ht
              exact ⟨ht.1, ht.2.1⟩
            have := h3 b rfl
            rw [h4.2, hd d rfl] at this; cases this
      | [a], _, _, hl => exact absurd (show [a].length ≤ l.length by rw [hl1]; simp) hl
    · intro hp; have := hp.length_le; omega
theorem Dlm.word {q : List UInt8} (h : Dlm q) : ∀ c, q.head? = some c → wordB c = false := fun c hc => (white_not c (h c hc)).1
theorem Dlm.dig {q : List UInt8} (h : Dlm q) : ∀ c, q.head? = some c → digB c = false := fun c hc => (white_not c (h c hc)).2
theorem takeWhile_le (p : UInt8 → Bool) (l : List UInt8) : (l.takeWhile p).length ≤ l.length := by
  induction l with
  | nil => simp
  | cons c r ih => simp only [List.takeWhile_cons]; split <;> simp; omega
theorem tokM_cons (c : UInt8) (r : List UInt8) : tokM (c :: r) =
    if c = 39 then (if nameB (r.takeWhile wordB) = true then some ⟨4, r.takeWhile wordB, 0, (r.takeWhile wordB).length + 1⟩ else none)
    else if letB c = true then (if nameB ((c :: r).takeWhile wordB) = true then some ⟨1, (c :: r).takeWhile wordB, 0, ((c :: r).takeWhile wordB).length⟩ else none)
    else if digB c = true then (if digsOk ((c :: r).takeWhile digB) = true then some ⟨2, (c :: r).takeWhile digB, undig ((c :: r).takeWhile digB), ((c :: r).takeWhile digB).length⟩ else none)
    else if c = 34 then (match quo (r.length + 1) r with
      | none => none
      | some (t, n) => if t.length ≤ 64 then some ⟨3, t, 0, n + 1⟩ else none)
    else match signs.find? (fun s => s.isPrefixOf (c :: r)) with
      | none => none
      | some s => some ⟨5, s, 0, s.length⟩ := rfl
theorem tok_append (l q : List UInt8) (x : Tok) (h : tokM l = some x) (hq : x.len < l.length ∨ Dlm q) : tokM (l ++ q) = some x := by
  cases l with
  | nil => simp [tokM] at h
  | cons c r =>
    rw [List.cons_append, tokM_cons]
    rw [tokM_cons] at h
    by_cases h39 : c = 39
    · rw [if_pos h39] at h ⊢
      by_cases hn : nameB (r.takeWhile wordB) = true
      · rw [if_pos hn] at h
        have hx : x = ⟨4, r.takeWhile wordB, 0, (r.takeWhile wordB).length + 1⟩ := (Option.some.inj h).symm
        have e : (r ++ q).takeWhile wordB = r.takeWhile wordB := takeWhile_append wordB r q (by
          rcases hq with hq | hq
          · left; rw [hx] at hq; simpa using hq
          · exact .inr hq.word)
        simp only [e, if_pos hn, hx]
      · rw [if_neg hn] at h; cases h
    · rw [if_neg h39] at h ⊢
      by_cases hl : letB c = true
      · rw [if_pos hl] at h ⊢
        by_cases hn : nameB ((c :: r).takeWhile wordB) = true
        · rw [if_pos hn] at h
          have hx : x = ⟨1, (c :: r).takeWhile wordB, 0, ((c :: r).takeWhile wordB).length⟩ := (Option.some.inj h).symm
          have e : ((c :: r) ++ q).takeWhile wordB = (c :: r).takeWhile wordB := takeWhile_append wordB (c :: r) q (by
            rcases hq with hq | hq
            · left; rw [hx] at hq; exact hq
            · exact .inr hq.word)
          rw [List.cons_append] at e
          simp only [e, if_pos hn, hx]
        · rw [if_neg hn] at h; cases h
      · rw [if_neg hl] at h ⊢
        by_cases hd : digB c = true
        · rw [if_pos hd] at h ⊢
          by_cases hn : digsOk ((c :: r).takeWhile digB) = true
          · rw [if_pos hn] at h
            have hx : x = ⟨2, (c :: r).takeWhile digB, undig ((c :: r).takeWhile digB), ((c :: r).takeWhile digB).length⟩ := (Option.some.inj h).symm
            have e : ((c :: r) ++ q).takeWhile digB = (c :: r).takeWhile digB := takeWhile_append digB (c :: r) q (by
              rcases hq with hq | hq
              · left; rw [hx] at hq; exact hq
              · exact .inr hq.dig)
            rw [List.cons_append] at e
            simp only [e, if_pos hn, hx]
          · rw [if_neg hn] at h; cases h
        · rw [if_neg hd] at h ⊢
          by_cases h34 : c = 34
          · rw [if_pos h34] at h ⊢
            cases hu : quo (r.length + 1) r with
            | none => rw [hu] at h; cases h
            | some tn =>
              rw [hu] at h
              rw [quo_append _ r q ((r ++ q).length + 1) tn hu (by simp)]
              exact h
          · rw [if_neg h34] at h ⊢
            have e : signs.find? (fun s => s.isPrefixOf (c :: (r ++ q))) = signs.find? (fun s => s.isPrefixOf (c :: r)) := by
              cases hf : signs.find? (fun s => s.isPrefixOf (c :: r)) with
              | none => rw [hf] at h; cases h
              | some s =>
                rw [hf] at h
                have hx : x = ⟨5, s, 0, s.length⟩ := (Option.some.inj h).symm
                rw [← hf]
                refine find_congr _ _ _ fun s' hs' => ?_
                have hsl := signs_short s (List.mem_of_find?_eq_some hf)
                exact sign_append s' (c :: r) q hs' (by
                  rcases hq with hq | hq
                  · left; rw [hx] at hq; simp only at hq; omega
                  · by_cases hr : 2 ≤ (c :: r).length
                    · exact .inl hr
                    · right
                      refine ⟨?_, hq⟩
                      simp only [List.length_cons] at hr ⊢
                      omega)
            rw [e]; exact h
end Go.Proofs.YtlmmfhbdebfgkaaGreatDoor.Lx
