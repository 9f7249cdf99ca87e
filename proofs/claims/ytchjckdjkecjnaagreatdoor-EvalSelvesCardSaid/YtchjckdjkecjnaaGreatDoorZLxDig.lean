/-
  Digits, as the library reads them; plain mathematics.
-/
import Derived.Test.YtchjckdjkecjnaaGreatDoorZTzA
import Derived.Lib.ParseIntB
namespace Go.Proofs.YtchjckdjkecjnaaGreatDoor.Lx
open Va

def dfold (acc : Nat) (d : List UInt8) : Nat := d.foldl (fun a c => 10 * a + (c.toNat - 48)) acc
theorem dfold_cons (acc : Nat) (c : UInt8) (d : List UInt8) : dfold acc (c :: d) = dfold (10 * acc + (c.toNat - 48)) d := by simp only [dfold, List.foldl_cons]
theorem dfold_ge (acc : Nat) (d : List UInt8) : acc ≤ dfold acc d := by
  induction d generalizing acc with
  | nil => exact Nat.le_refl _
  | cons c d ih => rw [dfold_cons]; exact Nat.le_trans (by omega) (ih _)
theorem digB_iff (c : UInt8) : digB c = true ↔ 48 ≤ c.toNat ∧ c.toNat ≤ 57 := by
  unfold digB
  simp [UInt8.le_iff_toNat_le]
theorem uintM_digs (d : List UInt8) (h : ∀ c ∈ d, digB c = true) (acc : Nat) (ha : acc ≤ 18446744073709551615) :
    Lib.parseUintM (2 ^ 64 - 1) acc d = if dfold acc d ≤ 18446744073709551615 then .ok (dfold acc d) else .range := by
  induction d generalizing acc with
  | nil =>
    show Lib.NumEnd.ok acc = _
    rw [if_pos (show dfold acc [] ≤ _ from ha)]; rfl
  | cons c d ih =>
    have hc := (digB_iff c).1 (h c (by simp))
    have hge := dfold_ge (10 * acc + (c.toNat - 48)) d
    unfold Lib.parseUintM
    rw [if_pos hc, dfold_cons]
    by_cases h1 : 1844674407370955162 ≤ acc
    · rw [if_pos h1, if_neg (by omega)]
    · rw [if_neg h1]
      by_cases h2 : 2 ^ 64 - 1 < acc * 10 + (c.toNat - 48)
      · rw [if_pos h2, if_neg (by omega)]
      · rw [if_neg h2, show acc * 10 + (c.toNat - 48) = 10 * acc + (c.toNat - 48) by omega]
        exact ih (fun x hx => h x (by simp [hx])) _ (by omega)
theorem intB_digs (d : List UInt8) (hne : d ≠ []) (h : ∀ c ∈ d, digB c = true) :
    Lib.parseIntB 64 d = if undig d ≤ 9223372036854775807 then .ok ((undig d : Nat) : Int) else .range := by
  cases d with
  | nil => exact absurd rfl hne
  | cons c r =>
    have hc := (digB_iff c).1 (h c (by simp))
    have hu : undig (c :: r) = dfold 0 (c :: r) := rfl
    have hm := uintM_digs (c :: r) h 0 (by omega)
    unfold Lib.parseIntB
    simp only
    rw [if_neg (by omega)]
    unfold Lib.parseUintB
    rw [if_neg (by simp), hm, hu]
    by_cases h1 : dfold 0 (c :: r) ≤ 18446744073709551615
    · rw [if_pos h1]
      simp only
      have hn : ¬ c.toNat = 45 := by omega
      by_cases h2 : dfold 0 (c :: r) ≤ 9223372036854775807
      · rw [if_pos h2, if_neg (by omega), if_neg (by simp [hn]), if_neg hn]
      · rw [if_neg h2, if_pos ⟨hn, by omega⟩]
    · rw [if_neg h1, if_neg (by omega)]

/-- Digits at the beginning. -/
def digM (l : List UInt8) : Option Tok := let d := l.takeWhile digB; if digsOk d = true then some ⟨2, d, undig d, d.length⟩ else none
theorem digsOk_eq (d : List UInt8) : digsOk d = ((d.length == 1 || d.head? != some 48) && decide (undig d ≤ 9223372036854775807)) := rfl

end Go.Proofs.YtchjckdjkecjnaaGreatDoor.Lx
