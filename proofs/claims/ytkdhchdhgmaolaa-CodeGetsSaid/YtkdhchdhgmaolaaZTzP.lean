/-
  Several texts in one: PkPure, PkDec, PkBack.
-/
import Derived.KernelRfl
import Derived.Lib.BitFns
namespace Go.Proofs.Ytkdhchdhgmaolaa.Pk

/-- A count's bytes: seven bits each, the least first. -/
def encF : Nat → Nat → List UInt8
  | 0, _ => []
  | f + 1, n => if n < 128 then [UInt8.ofNat n] else UInt8.ofNat (128 + n % 128) :: encF f (n / 128)
def enc (n : Nat) : List UInt8 := encF 10 n

/-- Byte i of s. -/
def byteAt (n s i : Nat) : UInt8 := UInt8.ofNat (n / 128 ^ i % 128 + if i + 1 < s then 128 else 0)

theorem encF_eq (s : Nat) : ∀ (f n : Nat), s + 1 ≤ f → n < 128 ^ (s + 1) → (s = 0 ∨ 128 ^ s ≤ n) → encF f n = (List.range (s + 1)).map (byteAt n (s + 1)) := by
  induction s with
  | zero =>
    intro f n hf hn _
    obtain ⟨f, rfl⟩ : ∃ g, f = g + 1 := ⟨f - 1, by omega⟩
    have hn' : n < 128 := by simpa using hn
    simp [encF, hn', byteAt]
    have : n % 128 = n := by omega
    rw [this]
  | succ s ih =>
    intro f n hf hn hlo
    obtain ⟨f, rfl⟩ : ∃ g, f = g + 1 := ⟨f - 1, by omega⟩
    have hlo : 128 ^ (s + 1) ≤ n := by
      rcases hlo with h | h
      · omega
      · exact h
    have hp : 0 < 128 ^ s := Nat.pow_pos (by omega)
    have h128 : 128 ≤ n := by
      rw [Nat.pow_succ] at hlo
      have : 1 * 128 ≤ 128 ^ s * 128 := Nat.mul_le_mul_right _ hp
      omega
    have hlt : ¬ n < 128 := by omega
    have hn2 : n / 128 < 128 ^ (s + 1) := by
      apply Nat.div_lt_of_lt_mul
      rw [Nat.pow_succ] at hn
      omega
    have hlo2 : 128 ^ s ≤ n / 128 := by
      rw [Nat.le_div_iff_mul_le (by omega)]
      rw [Nat.pow_succ] at hlo
      exact hlo
    rw [List.range_succ_eq_map, List.map_cons, List.map_map]
    simp only [encF, hlt, if_false]
    rw [ih f (n / 128) (by omega) hn2 (Or.inr hlo2)]
    refine List.cons_eq_cons.2 ⟨?_, ?_⟩
    · unfold byteAt
      congr 1
      simp
      omega
    · apply List.map_congr_left
      intro i _
      simp only [byteAt, Function.comp]
      congr 2
      · rw [Nat.pow_succ, Nat.mul_comm, Nat.div_div_eq_div_mul]
      · by_cases h : i + 1 < s + 1
        · rw [if_pos h, if_pos (by omega)]
        · rw [if_neg h, if_neg (by omega)]

/-! ### how many bytes -/
theorem bitLenAux_spec (f : Nat) : ∀ x : Nat, x < 2 ^ f → (x = 0 → Lib.bitLenAux f x = 0) ∧ (x ≠ 0 → 1 ≤ Lib.bitLenAux f x ∧ 2 ^ (Lib.bitLenAux f x - 1) ≤ x ∧ x < 2 ^ Lib.bitLenAux f x ∧ Lib.bitLenAux f x ≤ f) := by
  induction f with
  | zero => intro x hx; simp at hx; subst hx; simp [Lib.bitLenAux]
  | succ f ih =>
    intro x hx
    refine ⟨fun h => by simp [Lib.bitLenAux, h], fun h => ?_⟩
    have hx2 : x / 2 < 2 ^ f := by rw [Nat.pow_succ] at hx; omega
    obtain ⟨h0, h1⟩ := ih (x / 2) hx2
    have e : Lib.bitLenAux (f + 1) x = 1 + Lib.bitLenAux f (x / 2) := by simp [Lib.bitLenAux, h]
    rw [e]
    by_cases hz : x / 2 = 0
    · rw [h0 hz]
      simp
      omega
    · obtain ⟨a, b, c, d⟩ := h1 hz
      generalize Lib.bitLenAux f (x / 2) = m at *
      obtain ⟨m, rfl⟩ : ∃ k, m = k + 1 := ⟨m - 1, by omega⟩
      simp only [Nat.add_sub_cancel] at b
      have e1 : 1 + (m + 1) - 1 = m + 1 := by omega
      have e2 : 1 + (m + 1) = (m + 1) + 1 := by omega
      rw [e1, e2, Nat.pow_succ, Nat.pow_succ 2 (m + 1)]
      omega

/-- How many bytes a count has. -/
def csz (n : Nat) : Nat := (Lib.bitLen (n ||| 1) + 6) / 7

theorem or_one (n : Nat) : n ||| 1 = if n % 2 = 1 then n else n + 1 := by
  apply Nat.eq_of_testBit_eq
  intro i
  rw [Nat.testBit_or]
  cases i with
  | zero =>
    split <;> simp [Nat.testBit_zero] <;> omega
  | succ i =>
    have h1 : (1 : Nat).testBit (i + 1) = false := by simp [Nat.testBit_succ]
    rw [h1, Bool.or_false]
    split
    · rfl
    · rw [Nat.testBit_succ, Nat.testBit_succ]
      congr 1
      omega

theorem csz_spec (n : Nat) (hn : n < 2 ^ 64) : 1 ≤ csz n ∧ csz n ≤ 10 ∧ n < 128 ^ csz n ∧ (csz n = 1 ∨ 128 ^ (csz n - 1) ≤ n) := by
  have hm : n ||| 1 < 2 ^ 64 := by rw [or_one]; split <;> omega
  have h := bitLenAux_spec 64 (n ||| 1) hm
  have hne : n ||| 1 ≠ 0 := by rw [or_one]; split <;> omega
  obtain ⟨a, b, c, d⟩ := h.2 hne
  unfold csz Lib.bitLen
  generalize Lib.bitLenAux 64 (n ||| 1) = L at *
  have hle : n ≤ n ||| 1 := by rw [or_one]; split <;> omega
  have e128 : ∀ k, 128 ^ k = 2 ^ (7 * k) := fun k => by rw [Nat.pow_mul]
  refine ⟨by omega, by omega, ?_, ?_⟩
  · rw [e128]
    have : 2 ^ L ≤ 2 ^ (7 * ((L + 6) / 7)) := Nat.pow_le_pow_right (by omega) (by omega)
    omega
  · by_cases hs : (L + 6) / 7 = 1
    · exact Or.inl hs
    · right
      rw [e128]
      have h8 : 8 ≤ L := by omega
      have h1 : 2 ^ (7 * ((L + 6) / 7 - 1)) ≤ 2 ^ (L - 1) := Nat.pow_le_pow_right (by omega) (by omega)
      have hev : 2 ∣ 2 ^ (7 * ((L + 6) / 7 - 1)) := by
        have : 7 * ((L + 6) / 7 - 1) = (7 * ((L + 6) / 7 - 1) - 1) + 1 := by omega
        rw [this, Nat.pow_succ]
        exact Nat.dvd_mul_left _ _
      obtain ⟨q, hq⟩ := hev
      rw [hq] at h1 ⊢
      have h2 : 2 * q ≤ n ||| 1 := by omega
      rw [or_one] at h2
      split at h2 <;> omega

theorem enc_eq (n : Nat) (hn : n < 2 ^ 64) : enc n = (List.range (csz n)).map (byteAt n (csz n)) := by
  obtain ⟨a, b, c, d⟩ := csz_spec n hn
  obtain ⟨s, hs⟩ : ∃ s, csz n = s + 1 := ⟨csz n - 1, by omega⟩
  rw [hs] at a b c d ⊢
  exact encF_eq s 10 n (by omega) c (by simpa using d)

theorem enc_length (n : Nat) (hn : n < 2 ^ 64) : (enc n).length = csz n := by rw [enc_eq n hn]; simp

/-- What the row holds after k rounds. -/
def row (n s k : Nat) : List UInt8 := (List.range s).map fun i => if i < k then UInt8.ofNat (n / 128 ^ i % 128 + 128) else 0

theorem row_set (n s k : Nat) : (row n s k).set k (UInt8.ofNat (n / 128 ^ k % 128 + 128)) = row n s (k + 1) := by
  apply List.ext_getElem
  · simp [row]
  · intro i h1 h2
    simp [row] at h1 h2
    rw [List.getElem_set]
    by_cases e : k = i
    · subst e; simp [row]
    · simp only [e, if_false]
      simp only [row, List.getElem_map, List.getElem_range]
      by_cases h : i < k
      · rw [if_pos h, if_pos (by omega)]
      · rw [if_neg h, if_neg (by omega)]

theorem row_zero (n s : Nat) : row n s 0 = List.replicate s 0 := by
  apply List.ext_getElem
  · simp [row]
  · intro i h1 h2
    simp [row]

theorem row_last (n s : Nat) (hs : 1 ≤ s) : (row n s s).set (s - 1) (UInt8.ofNat (n / 128 ^ (s - 1) % 128)) = (List.range s).map (byteAt n s) := by
  apply List.ext_getElem
  · simp [row]
  · intro i h1 h2
    simp [row] at h1 h2
    rw [List.getElem_set]
    by_cases e : s - 1 = i
    · subst e
      simp only [if_true, List.getElem_map, List.getElem_range, byteAt]
      rw [if_neg (by omega)]
      simp
    · simp only [e, if_false]
      simp only [row, List.getElem_map, List.getElem_range, byteAt]
      rw [if_pos h1, if_pos (by omega)]

end Go.Proofs.Ytkdhchdhgmaolaa.Pk

namespace Go.Proofs.Ytkdhchdhgmaolaa.Pk

/-- Why a count can't end with b as its byte i, or 0. -/
def lastErr (i : Nat) (b : UInt8) : Nat := if (0 < i ∧ b.toNat = 0) ∨ (i = 9 ∧ 1 < b.toNat) then 4 else 0
/-- What a round adds. -/
def addB (acc : Nat) (b : UInt8) (i : Nat) : Nat := acc ||| (b.toNat % 128 * 128 ^ i % 2 ^ 64)
/-- The count that l begins with, behind i bytes that came to acc: value, size, error. -/
def dec (l : List UInt8) : Nat → Nat → Nat → Nat × Nat × Nat
  | 0, _, _ => (0, 0, 4)
  | f + 1, i, acc =>
    match l[i]? with
    | none => (0, 0, 3)
    | some b => if b.toNat < 128 then (addB acc b i, i + 1, lastErr i b) else dec l f (i + 1) (addB acc b i)
def decC (l : List UInt8) : Nat × Nat × Nat := dec l 10 0 0

/-- What a reader's method answers, what is left, and the error that is kept. -/
def rdG {α : Type} (z : α) (d : α × Nat × Nat) (l : List UInt8) (bad : Nat) : α × List UInt8 × Nat :=
  if bad ≠ 0 then (z, l, bad) else if d.2.2 ≠ 0 then (z, l, d.2.2) else (d.1, l.drop d.2.1, 0)

theorem addB_lt (acc : Nat) (b : UInt8) (i : Nat) (h : acc < 2 ^ 64) : addB acc b i < 2 ^ 64 := by
  unfold addB
  exact Nat.or_lt_two_pow h (Nat.mod_lt _ (by omega))

theorem dec_short (l : List UInt8) (f i acc : Nat) (h : l.length ≤ i) : dec l (f + 1) i acc = (0, 0, 3) := by
  simp [dec, List.getElem?_eq_none h]
theorem dec_end (l : List UInt8) (f i acc : Nat) (h : i < l.length) (hb : (l.getD i 0).toNat < 128) : dec l (f + 1) i acc = (addB acc (l.getD i 0) i, i + 1, lastErr i (l.getD i 0)) := by
  have e : l.getD i 0 = l[i] := by simp [List.getD, h]
  rw [e] at hb ⊢
  simp [dec, List.getElem?_eq_getElem h, hb]
theorem dec_more (l : List UInt8) (f i acc : Nat) (h : i < l.length) (hb : ¬ (l.getD i 0).toNat < 128) : dec l (f + 1) i acc = dec l f (i + 1) (addB acc (l.getD i 0) i) := by
  have e : l.getD i 0 = l[i] := by simp [List.getD, h]
  rw [e] at hb ⊢
  simp [dec, List.getElem?_eq_getElem h, hb]

/-- A size that is told is not more than there is; beside an error there is none; a value fits. -/
theorem dec_size (l : List UInt8) (f : Nat) : ∀ (i acc : Nat), acc < 2 ^ 64 → (dec l f i acc).2.1 ≤ l.length ∧ (dec l f i acc).1 < 2 ^ 64 ∧ (dec l f i acc).2.2 ≤ 4 := by
  induction f with
  | zero => intro i acc _; simp [dec]
  | succ f ih =>
    intro i acc ha
    by_cases h : i < l.length
    · by_cases hb : (l.getD i 0).toNat < 128
      · rw [dec_end l f i acc h hb]
        refine ⟨h, addB_lt _ _ _ ha, ?_⟩
        simp only [lastErr]; split <;> omega
      · rw [dec_more l f i acc h hb]
        exact ih _ _ (addB_lt _ _ _ ha)
    · rw [dec_short l f i acc (by omega)]
      simp

/-- The number that a count stands for. -/
def unz (v : Nat) : Int := if v % 2 = 1 then -1 - ((v / 2 : Nat) : Int) else ((v / 2 : Nat) : Int)
def decN (l : List UInt8) : Int × Nat × Nat := (unz (decC l).1, (decC l).2.1, (decC l).2.2)
def decB (l : List UInt8) : Nat × Nat × Nat :=
  match l with
  | [] => (0, 0, 3)
  | b :: _ => (b.toNat, 1, 0)
def decT (l : List UInt8) : Bool × Nat × Nat :=
  if 1 < (decB l).1 then (false, 0, 4) else ((decB l).1 == 1, (decB l).2.1, (decB l).2.2)
def decS (l : List UInt8) (most : Int) : Nat × Nat × Nat :=
  if (decC l).2.2 ≠ 0 then (0, 0, (decC l).2.2) else if most < 0 ∨ most < ((decC l).1 : Int) then (0, 0, 5) else ((decC l).1, (decC l).2.1, 0)
def decX (l : List UInt8) (most : Int) : List UInt8 × Nat × Nat :=
  if (decS l most).2.2 ≠ 0 then ([], 0, (decS l most).2.2) else if l.length - (decS l most).2.1 < (decS l most).1 then ([], 0, 3)
  else ((l.drop (decS l most).2.1).take (decS l most).1, (decS l most).2.1 + (decS l most).1, 0)

theorem decC_size (l : List UInt8) : (decC l).2.1 ≤ l.length ∧ (decC l).1 < 2 ^ 64 ∧ (decC l).2.2 ≤ 4 := dec_size l 10 0 0 (by omega)

end Go.Proofs.Ytkdhchdhgmaolaa.Pk

namespace Go.Proofs.Ytkdhchdhgmaolaa.Pk

theorem or_add (acc x i : Nat) (h : acc < 128 ^ i) : acc ||| x * 128 ^ i = acc + x * 128 ^ i := by
  have e : 128 ^ i = 2 ^ (7 * i) := by rw [Nat.pow_mul]
  rw [e] at h ⊢
  have := Nat.two_pow_add_eq_or_of_lt h x
  rw [Nat.mul_comm x, Nat.or_comm, ← this]
  omega

theorem addB_eq (acc i : Nat) (b : UInt8) (h : acc < 128 ^ i) (hx : b.toNat % 128 * 128 ^ i < 2 ^ 64) : addB acc b i = acc + b.toNat % 128 * 128 ^ i := by
  unfold addB
  rw [Nat.mod_eq_of_lt hx, or_add acc _ i h]

theorem getD_mid (pre l rest : List UInt8) (b : UInt8) (i : Nat) (h : pre.length = i) : (pre ++ (b :: l ++ rest)).getD i 0 = b := by
  subst h
  simp [List.getD]

theorem pow_split (i : Nat) (h : i ≤ 9) : 128 ^ i * 128 ^ (9 - i) = 2 ^ 63 := by
  rw [← Nat.pow_add]
  rw [show i + (9 - i) = 9 by omega]

/-- What is written is read. -/
theorem dec_enc_aux (f : Nat) : ∀ (i m acc : Nat) (pre rest : List UInt8), pre.length = i → i + f = 10 → acc < 128 ^ i → acc + m * 128 ^ i < 2 ^ 64 → (i = 0 ∨ m ≠ 0) → 1 ≤ f →
    dec (pre ++ (encF f m ++ rest)) f i acc = (acc + m * 128 ^ i, i + (encF f m).length, 0) := by
  induction f with
  | zero => intro i m acc pre rest _ _ _ _ _ h; omega
  | succ f ih =>
    intro i m acc pre rest hp hif hacc hn hm _
    have hpos : 0 < 128 ^ i := Nat.pow_pos (by omega)
    by_cases hlt : m < 128
    · have e : encF (f + 1) m = [UInt8.ofNat m] := by simp [encF, hlt]
      rw [e]
      have hg : (pre ++ ([UInt8.ofNat m] ++ rest)).getD i 0 = UInt8.ofNat m := getD_mid pre [] rest _ i hp
      have hto : (UInt8.ofNat m).toNat = m := by simp; omega
      have hmod : m % 128 = m := by omega
      rw [dec_end _ _ _ _ (by simp; omega) (by rw [hg, hto]; exact hlt), hg, addB_eq _ _ _ hacc (by rw [hto, hmod]; omega), hto, hmod]
      have hl : lastErr i (UInt8.ofNat m) = 0 := by
        unfold lastErr
        rw [hto, if_neg]
        intro h
        rcases h with ⟨h1, h2⟩ | ⟨h1, h2⟩
        · omega
        · subst h1
          have : 2 * 128 ^ 9 ≤ m * 128 ^ 9 := Nat.mul_le_mul_right _ h2
          omega
      rw [hl]
      simp
    · have e : encF (f + 1) m = UInt8.ofNat (128 + m % 128) :: encF f (m / 128) := by simp [encF, hlt]
      rw [e]
      have hg : (pre ++ (UInt8.ofNat (128 + m % 128) :: encF f (m / 128) ++ rest)).getD i 0 = UInt8.ofNat (128 + m % 128) := getD_mid pre _ rest _ i hp
      have hto : (UInt8.ofNat (128 + m % 128)).toNat = 128 + m % 128 := by simp; omega
      have hsum : m * 128 ^ i = m % 128 * 128 ^ i + m / 128 * 128 ^ (i + 1) := by
        rw [Nat.pow_succ, Nat.mul_comm (128 ^ i) 128, ← Nat.mul_assoc, ← Nat.add_mul]
        congr 1
        omega
      have hi8 : i ≤ 8 := by
        apply Nat.le_of_not_lt
        intro h
        have : i = 9 := by omega
        subst this
        have : 128 * 128 ^ 9 ≤ m * 128 ^ 9 := Nat.mul_le_mul_right _ (by omega)
        omega
      have hx : (128 + m % 128) % 128 * 128 ^ i < 2 ^ 64 := by
        rw [show (128 + m % 128) % 128 = m % 128 by omega]
        omega
      rw [dec_more _ _ _ _ (by simp; omega) (by rw [hg, hto]; omega), hg, addB_eq _ _ _ hacc (by rw [hto]; exact hx), hto, show (128 + m % 128) % 128 = m % 128 by omega]
      have hacc2 : acc + m % 128 * 128 ^ i < 128 ^ (i + 1) := by
        rw [Nat.pow_succ]
        have : m % 128 * 128 ^ i ≤ 127 * 128 ^ i := Nat.mul_le_mul_right _ (by omega)
        omega
      have ih2 := ih (i + 1) (m / 128) (acc + m % 128 * 128 ^ i) (pre ++ [UInt8.ofNat (128 + m % 128)]) rest (by simp; omega) (by omega) hacc2 (by omega) (Or.inr (by omega)) (by omega)
      have el : pre ++ [UInt8.ofNat (128 + m % 128)] ++ (encF f (m / 128) ++ rest) = pre ++ (UInt8.ofNat (128 + m % 128) :: encF f (m / 128) ++ rest) := by simp
      rw [el] at ih2
      rw [ih2]
      simp only [Prod.mk.injEq, List.length_cons, and_true]
      constructor
      · omega
      · omega

theorem dec_enc (n : Nat) (hn : n < 2 ^ 64) (rest : List UInt8) : decC (enc n ++ rest) = (n, (enc n).length, 0) := by
  have := dec_enc_aux 10 0 n 0 [] rest rfl (by omega) (by simp) (by simpa using hn) (Or.inl rfl) (by omega)
  simpa [decC, enc] using this

/-- What is read is what it is written in. -/
theorem enc_dec_aux (f : Nat) : ∀ (l : List UInt8) (i acc v size : Nat), i + f = 10 → acc < 128 ^ i → dec l f i acc = (v, size, 0) →
    ∃ m, v = acc + m * 128 ^ i ∧ v < 2 ^ 64 ∧ (i = 0 ∨ m ≠ 0) ∧ i ≤ size ∧ size ≤ l.length ∧ encF f m = (l.take size).drop i := by
  induction f with
  | zero => intro l i acc v size _ _ h; simp [dec] at h
  | succ f ih =>
    intro l i acc v size hif hacc h
    have hpos : 0 < 128 ^ i := Nat.pow_pos (by omega)
    by_cases hl : i < l.length
    · obtain ⟨b, hb⟩ : ∃ b, l.getD i 0 = b := ⟨_, rfl⟩
      have hb256 : b.toNat < 256 := b.toNat_lt
      have hget : l[i]? = some b := by
        rw [← hb]; simp [List.getD, hl]
      by_cases hlt : b.toNat < 128
      · rw [dec_end l f i acc hl (by rw [hb]; exact hlt), hb] at h
        simp only [Prod.mk.injEq] at h
        obtain ⟨h1, h2, h3⟩ := h
        have hmod : b.toNat % 128 = b.toNat := by omega
        have h3' : ¬ ((0 < i ∧ b.toNat = 0) ∨ (i = 9 ∧ 1 < b.toNat)) := by
          intro hc
          unfold lastErr at h3
          rw [if_pos hc] at h3
          omega
        have hx : b.toNat * 128 ^ i + 128 ^ i ≤ 2 ^ 64 := by
          have hps := pow_split i (by omega)
          by_cases h9 : i = 9
          · subst h9
            rcases (show b.toNat = 0 ∨ b.toNat = 1 by omega) with h0 | h0
            · rw [h0]; decide
            · rw [h0]; decide
          · have h8 : 128 ^ i ≤ 128 ^ 8 := Nat.pow_le_pow_right (by omega) (by omega)
            have : b.toNat * 128 ^ i ≤ 127 * 128 ^ i := Nat.mul_le_mul_right _ (by omega)
            omega
        rw [addB_eq _ _ _ hacc (by rw [hmod]; omega), hmod] at h1
        refine ⟨b.toNat, h1.symm, by omega, by omega, by omega, by omega, ?_⟩
        rw [← h2]
        have e : encF (f + 1) b.toNat = [UInt8.ofNat b.toNat] := by simp [encF, hlt]
        have hti : (l.take i).length = i := by simp; omega
        rw [e, List.take_add_one, hget, List.drop_append, hti, List.drop_of_length_le (by omega)]
        simp
      · rw [dec_more l f i acc hl (by rw [hb]; exact hlt), hb] at h
        have hi8 : i ≤ 8 := by
          apply Nat.le_of_not_lt
          intro hc
          obtain rfl : f = 0 := by omega
          simp [dec] at h
        have h8 : 128 ^ i ≤ 128 ^ 8 := Nat.pow_le_pow_right (by omega) (by omega)
        have hmx : b.toNat % 128 * 128 ^ i ≤ 127 * 128 ^ i := Nat.mul_le_mul_right _ (by omega)
        rw [addB_eq _ _ _ hacc (by omega)] at h
        have hacc2 : acc + b.toNat % 128 * 128 ^ i < 128 ^ (i + 1) := by rw [Nat.pow_succ]; omega
        obtain ⟨m, m1, m2, m3, m4, m5, m6⟩ := ih l (i + 1) _ v size (by omega) hacc2 h
        have hsum : (b.toNat % 128 + 128 * m) * 128 ^ i = b.toNat % 128 * 128 ^ i + m * 128 ^ (i + 1) := by
          rw [Nat.add_mul, Nat.pow_succ, Nat.mul_comm 128 m, Nat.mul_assoc, Nat.mul_comm 128]
        refine ⟨b.toNat % 128 + 128 * m, by omega, m2, Or.inr (by omega), by omega, m5, ?_⟩
        have hge : ¬ (b.toNat % 128 + 128 * m) < 128 := by omega
        have e : encF (f + 1) (b.toNat % 128 + 128 * m) = UInt8.ofNat (128 + b.toNat % 128) :: encF f m := by
          simp only [encF, hge, if_false]
          rw [show (b.toNat % 128 + 128 * m) % 128 = b.toNat % 128 by omega, show (b.toNat % 128 + 128 * m) / 128 = m by omega]
        rw [e, m6]
        have hbb : UInt8.ofNat (128 + b.toNat % 128) = b := by
          rw [show 128 + b.toNat % 128 = b.toNat by omega]
          simp
        rw [hbb]
        have hts : i < (l.take size).length := by simp; omega
        rw [List.drop_eq_getElem_cons hts]
        congr 1
        rw [List.getElem_take]
        have := List.getElem?_eq_some_iff.1 hget
        exact this.2.symm
    · rw [dec_short l f i acc (by omega)] at h
      simp at h

theorem enc_dec (l : List UInt8) (v size : Nat) (h : decC l = (v, size, 0)) : v < 2 ^ 64 ∧ size ≤ l.length ∧ enc v = l.take size := by
  obtain ⟨m, m1, m2, _, _, m5, m6⟩ := enc_dec_aux 10 l 0 0 v size (by omega) (by simp) h
  have e : v = m := by simpa using m1
  subst e
  exact ⟨m2, m5, by simpa [enc] using m6⟩

/-- A beginning is too short. -/
theorem dec_cut_aux (f : Nat) : ∀ (i m acc j : Nat) (pre : List UInt8), pre.length = i → 1 ≤ f → j < (encF f m).length → dec (pre ++ (encF f m).take j) f i acc = (0, 0, 3) := by
  induction f with
  | zero => intro i m acc j pre _ h; omega
  | succ f ih =>
    intro i m acc j pre hp _ hj
    cases j with
    | zero => rw [List.take_zero, List.append_nil, dec_short _ _ _ _ (by omega)]
    | succ j =>
      by_cases hlt : m < 128
      · have e : encF (f + 1) m = [UInt8.ofNat m] := by simp [encF, hlt]
        rw [e] at hj
        simp at hj
      · have e : encF (f + 1) m = UInt8.ofNat (128 + m % 128) :: encF f (m / 128) := by simp [encF, hlt]
        rw [e] at hj ⊢
        have hf : 1 ≤ f := by
          cases f with
          | zero => simp [encF] at hj
          | succ f => omega
        rw [List.take_succ_cons]
        have hg : (pre ++ (UInt8.ofNat (128 + m % 128) :: (encF f (m / 128)).take j)).getD i 0 = UInt8.ofNat (128 + m % 128) := by
          have := getD_mid pre ((encF f (m / 128)).take j) [] (UInt8.ofNat (128 + m % 128)) i hp
          simpa using this
        have hto : (UInt8.ofNat (128 + m % 128)).toNat = 128 + m % 128 := by simp; omega
        rw [dec_more _ _ _ _ (by simp; omega) (by rw [hg, hto]; omega), hg]
        have ih2 := ih (i + 1) (m / 128) (addB acc (UInt8.ofNat (128 + m % 128)) i) j (pre ++ [UInt8.ofNat (128 + m % 128)]) (by simp; omega) hf (by simpa using hj)
        simpa using ih2

theorem dec_cut (n j : Nat) (h : j < (enc n).length) : decC ((enc n).take j) = (0, 0, 3) := by
  have := dec_cut_aux 10 0 n 0 j [] rfl (by omega) h
  simpa [decC, enc] using this

/-! ### texts -/
/-- A text's bytes. -/
def encX (t : List UInt8) : List UInt8 := enc t.length ++ t

theorem decS_enc (n : Nat) (hn : n < 2 ^ 64) (rest : List UInt8) (most : Int) (hm : (n : Int) ≤ most) : decS (enc n ++ rest) most = (n, (enc n).length, 0) := by
  unfold decS
  rw [dec_enc n hn rest]
  simp
  omega

theorem decX_enc (t rest : List UInt8) (ht : t.length < 2 ^ 64) (most : Int) (hm : (t.length : Int) ≤ most) : decX (encX t ++ rest) most = (t, (encX t).length, 0) := by
  have h := decS_enc t.length ht (t ++ rest) most hm
  unfold encX decX
  rw [List.append_assoc, h]
  simp

theorem encX_dec (l : List UInt8) (most : Int) (t : List UInt8) (size : Nat) (h : decX l most = (t, size, 0)) : t.length < 2 ^ 64 ∧ size ≤ l.length ∧ encX t = l.take size := by
  unfold decX at h
  obtain ⟨d, hd⟩ : ∃ d, decS l most = d := ⟨_, rfl⟩
  obtain ⟨v, s, e⟩ := d
  rw [hd] at h
  simp only at h
  by_cases he : e = 0
  · subst he
    rw [if_neg (by omega)] at h
    by_cases hc : l.length - s < v
    · rw [if_pos hc] at h
      simp at h
    · rw [if_neg hc] at h
      simp only [Prod.mk.injEq, and_true] at h
      obtain ⟨h1, h2⟩ := h
      have hC : decC l = (v, s, 0) := by
        unfold decS at hd
        by_cases a : (decC l).2.2 = 0
        · rw [if_neg (by omega)] at hd
          split at hd
          · simp at hd
          · simp only [Prod.mk.injEq, and_true] at hd
            obtain ⟨x, y⟩ := hd
            rw [← x, ← y, ← a]
        · rw [if_pos a] at hd
          simp only [Prod.mk.injEq] at hd
          omega
      obtain ⟨a, b, c⟩ := enc_dec l v s hC
      have hlen : t.length = v := by rw [← h1]; simp; omega
      refine ⟨by omega, by omega, ?_⟩
      unfold encX
      rw [hlen, c, ← h1, ← h2]
      rw [List.take_add]
  · rw [if_pos he] at h
    simp only [Prod.mk.injEq] at h
    omega

theorem decX_cut (t : List UInt8) (ht : t.length < 2 ^ 64) (j : Nat) (hj : j < (encX t).length) (most : Int) (hm : (t.length : Int) ≤ most) : (decX ((encX t).take j) most).2.2 = 3 := by
  unfold encX at hj ⊢
  by_cases h : j < (enc t.length).length
  · have e : (enc t.length ++ t).take j = (enc t.length).take j := List.take_append_of_le_length (by omega)
    rw [e]
    have hC := dec_cut t.length j h
    unfold decX decS
    rw [hC]
    simp
  · have e : (enc t.length ++ t).take j = enc t.length ++ t.take (j - (enc t.length).length) := by
      rw [List.take_append, List.take_of_length_le (by omega)]
    rw [e]
    have hS := decS_enc t.length ht (t.take (j - (enc t.length).length)) most hm
    unfold decX
    rw [hS]
    simp at hj ⊢
    rw [if_pos (by omega)]

end Go.Proofs.Ytkdhchdhgmaolaa.Pk
