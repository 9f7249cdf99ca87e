/-
  Varints as plain mathematics: how a count is written in bytes, and how bytes are read as a count; no Go in sight.
-/
import Derived.KernelRfl
import Derived.Lib.BitFns
namespace Go.Proofs.Ytkdhchdhgmaolaa.Pk

/-- A count's bytes: seven bits each, the least first. -/
def encF : Nat → Nat → List UInt8
  | 0, _ => []
  | f + 1, n => if n < 128 then [UInt8.ofNat n] else UInt8.ofNat (128 + n % 128) :: encF f (n / 128)
def enc (n : Nat) : List UInt8 := encF 10 n

/-- Byte i of s. -/
def byteAt (n s i : Nat) : UInt8 := UInt8.ofNat (n / 128 ^ i % 128 + if i + 1 < s then 128 else 0)

theorem encF_eq (s : Nat) : ∀ (f n : Nat), s + 1 ≤ f → n < 128 ^ (s + 1) → (s = 0 ∨ 128 ^ s ≤ n) → encF f n = (List.range (s + 1)).map (byteAt n (s + 1)) := by
  induction s with
  | zero =>
    intro f n hf hn _
    obtain ⟨f, rfl⟩ : ∃ g, f = g + 1 := ⟨f - 1, by omega⟩
    have hn' : n < 128 := by simpa using hn
    simp [encF, hn', byteAt]
    have : n % 128 = n := by omega
    rw [this]
  | succ s ih =>
    intro f n hf hn hlo
    obtain ⟨f, rfl⟩ : ∃ g, f = g + 1 := ⟨f - 1, by omega⟩
    have hlo : 128 ^ (s + 1) ≤ n := by
      rcases hlo with h | h
      · omega
      · exact h
    have hp : 0 < 128 ^ s := Nat.pow_pos (by omega)
    have h128 : 128 ≤ n := by
      rw [Nat.pow_succ] at hlo
      have : 1 * 128 ≤ 128 ^ s * 128 := Nat.mul_le_mul_right _ hp
      omega
    have hlt : ¬ n < 128 := by omega
    have hn2 : n / 128 < 128 ^ (s + 1) := by
      apply Nat.div_lt_of_lt_mul
      rw [Nat.pow_succ] at hn
      omega
    have hlo2 : 128 ^ s ≤ n / 128 := by
      rw [Nat.le_div_iff_mul_le (by omega)]
      rw [Nat.pow_succ] at hlo
      exact hlo
    rw [List.range_succ_eq_map, List.map_cons, List.map_map]
    simp only [encF, hlt, if_false]
    rw [ih f (n / 128) (by omega) hn2 (Or.inr hlo2)]
    refine List.cons_eq_cons.2 ⟨?_, ?_⟩
    · unfold byteAt
      congr 1
      simp
      omega
    · apply List.map_congr_left
      intro i _
      simp only [byteAt, Function.comp]
      congr 2
      · rw [Nat.pow_succ, Nat.mul_comm, Nat.div_div_eq_div_mul]
      · by_cases h : i + 1 < s + 1
        · rw [if_pos h, if_pos (by omega)]
        · rw [if_neg h, if_neg (by omega)]

/-! ### how many bytes -/
theorem bitLenAux_spec (f : Nat) : ∀ x : Nat, x < 2 ^ f → (x = 0 → Lib.bitLenAux f x = 0) ∧ (x ≠ 0 → 1 ≤ Lib.bitLenAux f x ∧ 2 ^ (Lib.bitLenAux f x - 1) ≤ x ∧ x < 2 ^ Lib.bitLenAux f x ∧ Lib.bitLenAux f x ≤ f) := by
  induction f with
  | zero => intro x hx; simp at hx; subst hx; simp [Lib.bitLenAux]
  | succ f ih =>
    intro x hx
    refine ⟨fun h => by simp [Lib.bitLenAux, h], fun h => ?_⟩
    have hx2 : x / 2 < 2 ^ f := by rw [Nat.pow_succ] at hx; omega
    obtain ⟨h0, h1⟩ := ih (x / 2) hx2
    have e : Lib.bitLenAux (f + 1) x = 1 + Lib.bitLenAux f (x / 2) := by simp [Lib.bitLenAux, h]
    rw [e]
    by_cases hz : x / 2 = 0
    · rw [h0 hz]
      simp
      omega
    · obtain ⟨a, b, c, d⟩ := h1 hz
      generalize Lib.bitLenAux f (x / 2) = m at *
      obtain ⟨m, rfl⟩ : ∃ k, m = k + 1 := ⟨m - 1, by omega⟩
      simp only [Nat.add_sub_cancel] at b
      have e1 : 1 + (m + 1) - 1 = m + 1 := by omega
      have e2 : 1 + (m + 1) = (m + 1) + 1 := by omega
      rw [e1, e2, Nat.pow_succ, Nat.pow_succ 2 (m + 1)]
      omega

/-- How many bytes a count has. -/
def csz (n : Nat) : Nat := (Lib.bitLen (n ||| 1) + 6) / 7

theorem or_one (n : Nat) : n ||| 1 = if n % 2 = 1 then n else n + 1 := by
  apply Nat.eq_of_testBit_eq
  intro i
  rw [Nat.testBit_or]
  cases i with
  | zero =>
    split <;> simp [Nat.testBit_zero] <;> omega
  | succ i =>
    have h1 : (1 : Nat).testBit (i + 1) = false := by simp [Nat.testBit_succ]
    rw [h1, Bool.or_false]
    split
    · rfl
    · rw [Nat.testBit_succ, Nat.testBit_succ]
      congr 1
      omega

theorem csz_spec (n : Nat) (hn : n < 2 ^ 64) : 1 ≤ csz n ∧ csz n ≤ 10 ∧ n < 128 ^ csz n ∧ (csz n = 1 ∨ 128 ^ (csz n - 1) ≤ n) := by
  have hm : n ||| 1 < 2 ^ 64 := by rw [or_one]; split <;> omega
  have h := bitLenAux_spec 64 (n ||| 1) hm
  have hne : n ||| 1 ≠ 0 := by rw [or_one]; split <;> omega
  obtain ⟨a, b, c, d⟩ := h.2 hne
  unfold csz Lib.bitLen
  generalize Lib.bitLenAux 64 (n ||| 1) = L at *
  have hle : n ≤ n ||| 1 := by rw [or_one]; split <;> omega
  have e128 : ∀ k, 128 ^ k = 2 ^ (7 * k) := fun k => by rw [Nat.pow_mul]
  refine ⟨by omega, by omega, ?_, ?_⟩
  · rw [e128]
    have : 2 ^ L ≤ 2 ^ (7 * ((L + 6) / 7)) := Nat.pow_le_pow_right (by omega) (by omega)
    omega
  · by_cases hs : (L + 6) / 7 = 1
    · exact Or.inl hs
    · right
      rw [e128]
      have h8 : 8 ≤ L := by omega
      have h1 : 2 ^ (7 * ((L + 6) / 7 - 1)) ≤ 2 ^ (L - 1) := Nat.pow_le_pow_right (by omega) (by omega)
      have hev : 2 ∣ 2 ^ (7 * ((L + 6) / 7 - 1)) := by
        have : 7 * ((L + 6) / 7 - 1) = (7 * ((L + 6) / 7 - 1) - 1) + 1 := by omega
        rw [this, Nat.pow_succ]
        exact Nat.dvd_mul_left _ _
      obtain ⟨q, hq⟩ := hev
      rw [hq] at h1 ⊢
      have h2 : 2 * q ≤ n ||| 1 := by omega
      rw [or_one] at h2
      split at h2 <;> omega

theorem enc_eq (n : Nat) (hn : n < 2 ^ 64) : enc n = (List.range (csz n)).map (byteAt n (csz n)) := by
  obtain ⟨a, b, c, d⟩ := csz_spec n hn
  obtain ⟨s, hs⟩ : ∃ s, csz n = s + 1 := ⟨csz n - 1, by omega⟩
  rw [hs] at a b c d ⊢
  exact encF_eq s 10 n (by omega) c (by simpa using d)

theorem enc_length (n : Nat) (hn : n < 2 ^ 64) : (enc n).length = csz n := by rw [enc_eq n hn]; simp

/-- What the row holds after k rounds. -/
def row (n s k : Nat) : List UInt8 := (List.range s).map fun i => if i < k then UInt8.ofNat (n / 128 ^ i % 128 + 128) else 0

theorem row_set (n s k : Nat) : (row n s k).set k (UInt8.ofNat (n / 128 ^ k % 128 + 128)) = row n s (k + 1) := by
  apply List.ext_getElem
  · simp [row]
  · intro i h1 h2
    simp [row] at h1 h2
    rw [List.getElem_set]
    by_cases e : k = i
    · subst e; simp [row]
    · simp only [e, if_false]
      simp only [row, List.getElem_map, List.getElem_range]
      by_cases h : i < k
      · rw [if_pos h, if_pos (by omega)]
      · rw [if_neg h, if_neg (by omega)]

theorem row_zero (n s : Nat) : row n s 0 = List.replicate s 0 := by
  apply List.ext_getElem
  · simp [row]
  · intro i h1 h2
    simp [row]

theorem row_last (n s : Nat) (hs : 1 ≤ s) : (row n s s).set (s - 1) (UInt8.ofNat (n / 128 ^ (s - 1) % 128)) = (List.range s).map (byteAt n s) := by
  apply List.ext_getElem
  · simp [row]
  · intro i h1 h2
    simp [row] at h1 h2
    rw [List.getElem_set]
    by_cases e : s - 1 = i
    · subst e
      simp only [if_true, List.getElem_map, List.getElem_range, byteAt]
      rw [if_neg (by omega)]
      simp
    · simp only [e, if_false]
      simp only [row, List.getElem_map, List.getElem_range, byteAt]
      rw [if_pos h1, if_pos (by omega)]

end Go.Proofs.Ytkdhchdhgmaolaa.Pk
