/-
  A byte behind a backslash, as the program's lexer reads it; plain mathematics.
-/
import Derived.Test.YtjndgfppjdobiaaGreatDoorLxQuo
namespace Go.Proofs.YtjndgfppjdobiaaGreatDoor.Lx
open Va

/-- A letter's small form. -/
def low (c : UInt8) : UInt8 := c ||| 32
/-- What a hexadecimal digit is worth. -/
def hexD (c : UInt8) : Option Nat :=
  if 48 ≤ c.toNat ∧ c.toNat ≤ 57 then some (c.toNat - 48)
  else if 97 ≤ (low c).toNat ∧ (low c).toNat ≤ 102 then some ((low c).toNat - 87)
  else none
theorem hexD_lt {c : UInt8} {n : Nat} (h : hexD c = some n) : n < 16 := by
  unfold hexD at h
  split at h
  · obtain rfl := Option.some.inj h; omega
  · split at h
    · obtain rfl := Option.some.inj h; omega
    · cases h
def hexP (a b : UInt8) : Option Nat := match hexD a, hexD b with
  | some x, some y => some (16 * x + y)
  | _, _ => none
theorem hexP_lt {a b : UInt8} {n : Nat} (h : hexP a b = some n) : n < 256 := by
  unfold hexP at h
  split at h
  · rename_i x y h1 h2
    have := hexD_lt h1
    have := hexD_lt h2
    obtain rfl := Option.some.inj h
    omega
  · cases h
theorem hexP_esc (c : UInt8) : hexP (hexC (c.toNat / 16)) (hexC (c.toNat % 16)) = some c.toNat := by
  have : ∀ i : Fin 256, hexP (hexC (i.val / 16)) (hexC (i.val % 16)) = some i.val := by decide +kernel
  exact this ⟨c.toNat, c.toNat_lt⟩
def unescM : List UInt8 → UInt8 × Nat
  | [] => (0, 1)
  | [c] => (c, 1)
  | c :: d :: r => if c = 92 then (if d = 120 then (match r with
      | a :: b :: _ => (match hexP a b with
        | some n => (UInt8.ofNat n, 4)
        | none => (d, 2))
      | _ => (d, 2)) else (d, 2)) else (c, 1)
theorem unescM_one (c : UInt8) : unescM [c] = (c, 1) := rfl
theorem unescM_plain (c : UInt8) (r : List UInt8) (h : c ≠ 92) : unescM (c :: r) = (c, 1) := by
  cases r with
  | nil => rfl
  | cons d r => show (if c = 92 then _ else _) = _; rw [if_neg h]
theorem unescM_two (d : UInt8) (r : List UInt8) (h : d ≠ 120) : unescM (92 :: d :: r) = (d, 2) := by
  simp [unescM, h]
theorem unescM_few (r : List UInt8) (h : r.length < 2) : unescM (92 :: 120 :: r) = (120, 2) := by
  match r, h with
  | [], _ => rfl
  | [_], _ => rfl
theorem unescM_hex (a b : UInt8) (r : List UInt8) (n : Nat) (h : hexP a b = some n) : unescM (92 :: 120 :: a :: b :: r) = (UInt8.ofNat n, 4) := by
  have e : unescM (92 :: 120 :: a :: b :: r) = match hexP a b with
    | some n => (UInt8.ofNat n, 4)
    | none => (120, 2) := rfl
  rw [e, h]
theorem unescM_nohex (a b : UInt8) (r : List UInt8) (h : hexP a b = none) : unescM (92 :: 120 :: a :: b :: r) = (120, 2) := by
  have e : unescM (92 :: 120 :: a :: b :: r) = match hexP a b with
    | some n => (UInt8.ofNat n, 4)
    | none => (120, 2) := rfl
  rw [e, h]
theorem unescM_esc (c : UInt8) (s : List UInt8) : unescM (esc c ++ s) = (c, (esc c).length) := by
  unfold esc
  by_cases h1 : (c < 32 || 126 < c) = true
  · rw [if_pos h1]
    have := unescM_hex (hexC (c.toNat / 16)) (hexC (c.toNat % 16)) s c.toNat (hexP_esc c)
    rw [UInt8.ofNat_toNat] at this
    exact this
  · rw [if_neg h1]
    by_cases h2 : (c == 34 || c == 92) = true
    · rw [if_pos h2]
      exact unescM_two c s (by intro e; subst e; simp at h2)
    · rw [if_neg h2]
      exact unescM_plain c s (by intro e; subst e; simp at h2)
theorem unescM_len : ∀ l : List UInt8, l ≠ [] → 1 ≤ (unescM l).2 ∧ (unescM l).2 ≤ l.length
  | [], h => absurd rfl h
  | [c], _ => by simp [unescM]
  | c :: d :: r, _ => by
    by_cases hc : c = 92
    · subst hc
      by_cases hd : d = 120
      · subst hd
        match r with
        | [] => simp [unescM]
        | [_] => simp [unescM]
        | a :: b :: r =>
          cases h : hexP a b with
          | none => rw [unescM_nohex a b r h]; simp
          | some n => rw [unescM_hex a b r n h]; simp
      · rw [unescM_two d r hd]; simp
    · rw [unescM_plain c _ hc]; simp

end Go.Proofs.YtjndgfppjdobiaaGreatDoor.Lx
