/-
  Varints read: plain mathematics; no Go in sight.
-/
import Derived.Test.YtkdhchdhgmaolaaZPkPure
namespace Go.Proofs.Ytkdhchdhgmaolaa.Pk

/-- Why a count can't end with b as its byte i, or 0. -/
def lastErr (i : Nat) (b : UInt8) : Nat := if (0 < i ∧ b.toNat = 0) ∨ (i = 9 ∧ 1 < b.toNat) then 4 else 0
/-- What a round adds. -/
def addB (acc : Nat) (b : UInt8) (i : Nat) : Nat := acc ||| (b.toNat % 128 * 128 ^ i % 2 ^ 64)
/-- The count that l begins with, behind i bytes that came to acc: value, size, error. -/
def dec (l : List UInt8) : Nat → Nat → Nat → Nat × Nat × Nat
  | 0, _, _ => (0, 0, 4)
  | f + 1, i, acc =>
    match l[i]? with
    | none => (0, 0, 3)
    | some b => if b.toNat < 128 then (addB acc b i, i + 1, lastErr i b) else dec l f (i + 1) (addB acc b i)
def decC (l : List UInt8) : Nat × Nat × Nat := dec l 10 0 0

/-- What a reader's method answers, what is left, and the error that is kept. -/
def rdG {α : Type} (z : α) (d : α × Nat × Nat) (l : List UInt8) (bad : Nat) : α × List UInt8 × Nat :=
  if bad ≠ 0 then (z, l, bad) else if d.2.2 ≠ 0 then (z, l, d.2.2) else (d.1, l.drop d.2.1, 0)

theorem addB_lt (acc : Nat) (b : UInt8) (i : Nat) (h : acc < 2 ^ 64) : addB acc b i < 2 ^ 64 := by
  unfold addB
  exact Nat.or_lt_two_pow h (Nat.mod_lt _ (by omega))

theorem dec_short (l : List UInt8) (f i acc : Nat) (h : l.length ≤ i) : dec l (f + 1) i acc = (0, 0, 3) := by
  simp [dec, List.getElem?_eq_none h]
theorem dec_end (l : List UInt8) (f i acc : Nat) (h : i < l.length) (hb : (l.getD i 0).toNat < 128) : dec l (f + 1) i acc = (addB acc (l.getD i 0) i, i + 1, lastErr i (l.getD i 0)) := by
  have e : l.getD i 0 = l[i] := by simp [List.getD, h]
  rw [e] at hb ⊢
  simp [dec, List.getElem?_eq_getElem h, hb]
theorem dec_more (l : List UInt8) (f i acc : Nat) (h : i < l.length) (hb : ¬ (l.getD i 0).toNat < 128) : dec l (f + 1) i acc = dec l f (i + 1) (addB acc (l.getD i 0) i) := by
  have e : l.getD i 0 = l[i] := by simp [List.getD, h]
  rw [e] at hb ⊢
  simp [dec, List.getElem?_eq_getElem h, hb]

/-- A size that is told is not more than there is; beside an error there is none; a value fits. -/
theorem dec_size (l : List UInt8) (f : Nat) : ∀ (i acc : Nat), acc < 2 ^ 64 → (dec l f i acc).2.1 ≤ l.length ∧ (dec l f i acc).1 < 2 ^ 64 ∧ (dec l f i acc).2.2 ≤ 4 := by
  induction f with
  | zero => intro i acc _; simp [dec]
  | succ f ih =>
    intro i acc ha
    by_cases h : i < l.length
    · by_cases hb : (l.getD i 0).toNat < 128
      · rw [dec_end l f i acc h hb]
        refine ⟨h, addB_lt _ _ _ ha, ?_⟩
        simp only [lastErr]; split <;> omega
      · rw [dec_more l f i acc h hb]
        exact ih _ _ (addB_lt _ _ _ ha)
    · rw [dec_short l f i acc (by omega)]
      simp

/-- The number that a count stands for. -/
def unz (v : Nat) : Int := if v % 2 = 1 then -1 - ((v / 2 : Nat) : Int) else ((v / 2 : Nat) : Int)
def decN (l : List UInt8) : Int × Nat × Nat := (unz (decC l).1, (decC l).2.1, (decC l).2.2)
def decB (l : List UInt8) : Nat × Nat × Nat :=
  match l with
  | [] => (0, 0, 3)
  | b :: _ => (b.toNat, 1, 0)
def decT (l : List UInt8) : Bool × Nat × Nat :=
  if 1 < (decB l).1 then (false, 0, 4) else ((decB l).1 == 1, (decB l).2.1, (decB l).2.2)
def decS (l : List UInt8) (most : Int) : Nat × Nat × Nat :=
  if (decC l).2.2 ≠ 0 then (0, 0, (decC l).2.2) else if most < 0 ∨ most < ((decC l).1 : Int) then (0, 0, 5) else ((decC l).1, (decC l).2.1, 0)
def decX (l : List UInt8) (most : Int) : List UInt8 × Nat × Nat :=
  if (decS l most).2.2 ≠ 0 then ([], 0, (decS l most).2.2) else if l.length - (decS l most).2.1 < (decS l most).1 then ([], 0, 3)
  else ((l.drop (decS l most).2.1).take (decS l most).1, (decS l most).2.1 + (decS l most).1, 0)

theorem decC_size (l : List UInt8) : (decC l).2.1 ≤ l.length ∧ (decC l).1 < 2 ^ 64 ∧ (decC l).2.2 ≤ 4 := dec_size l 10 0 0 (by omega)

end Go.Proofs.Ytkdhchdhgmaolaa.Pk
