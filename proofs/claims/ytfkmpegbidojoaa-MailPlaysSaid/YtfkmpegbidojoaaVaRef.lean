/-
  The document's own answer for values: names, what may be.
-/
import Derived.Test.YtfkmpegbidojoaaMem
import Derived.Test.YtfkmpegbidojoaaVaKeys
namespace Go.Proofs.Ytfkmpegbidojoaa.Va
open Go.RowKit

def anyB (l : List UInt8) (c : UInt8) : Bool := l.any (· == c)
def LET : ByteArray := ⟨#[97, 98, 99, 100, 101, 102, 103, 104, 105, 106, 107, 108, 109, 110, 111, 112, 113, 114, 115, 116, 117, 118, 119, 120, 121, 122, 65, 66, 67, 68, 69, 70, 71, 72, 73, 74, 75, 76, 77, 78, 79, 80, 81, 82, 83, 84, 85, 86, 87, 88, 89, 90]⟩
def DIG : ByteArray := ⟨#[48, 49, 50, 51, 52, 53, 54, 55, 56, 57, 95]⟩
theorem let_any (c : UInt8) : anyB LET.data.toList c = letB c := by
  have : ∀ i : Fin 256, anyB LET.data.toList (UInt8.ofNat i.val) = letB (UInt8.ofNat i.val) := by decide +kernel
  have h := this ⟨c.toNat, c.toNat_lt⟩
  simpa using h
theorem dig_any (c : UInt8) : anyB DIG.data.toList c = (digB c || c == 95) := by
  have : ∀ i : Fin 256, anyB DIG.data.toList (UInt8.ofNat i.val) = (digB (UInt8.ofNat i.val) || UInt8.ofNat i.val == 95) := by decide +kernel
  have h := this ⟨c.toNat, c.toNat_lt⟩
  simpa using h
/-- A byte of a name, at a place. -/
def okAt (i : Nat) (c : UInt8) : Bool := letB c || (decide (0 < i) && (digB c || c == 95))
def okK (l : List UInt8) : Nat → Bool
  | 0 => decide (0 < l.length) && decide (l.length ≤ 24)
  | k + 1 => okK l k && okAt k (l.getD k 0)
theorem okK_mono (l : List UInt8) (k j : Nat) (h : okK l k = false) : okK l (k + j) = false := by
  induction j with
  | zero => exact h
  | succ j ih => show (okK l (k + j) && _) = false; rw [ih]; rfl
theorem okK_all (l : List UInt8) (hl : okK l 0 = true) : ∀ k, k ≤ l.length → okK l k = true → ∀ i, i < k → okAt i (l.getD i 0) = true
  | 0, _, _, i, hi => by omega
  | k + 1, hk, h, i, hi => by
    simp only [okK, Bool.and_eq_true] at h
    by_cases e : i = k
    · subst e; exact h.2
    · exact okK_all l hl k (by omega) h.1 i (by omega)
theorem okK_of (l : List UInt8) (hl : okK l 0 = true) (h : ∀ i, i < l.length → okAt i (l.getD i 0) = true) : ∀ k, k ≤ l.length → okK l k = true
  | 0, _ => hl
  | k + 1, hk => by simp only [okK, Bool.and_eq_true]; exact ⟨okK_of l hl h k (by omega), h k (by omega)⟩
theorem nameB_okK (l : List UInt8) : okK l l.length = nameB l := by
  cases l with
  | nil => rfl
  | cons c r =>
    rw [Bool.eq_iff_iff]
    have h0 : okK (c :: r) 0 = decide (r.length ≤ 23) := by simp [okK]
    constructor
    · intro h
      have hl : okK (c :: r) 0 = true := by
        cases e : okK (c :: r) 0 with
        | true => rfl
        | false => have := okK_mono (c :: r) 0 (c :: r).length e; rw [Nat.zero_add, h] at this; cases this
      have ha := okK_all _ hl _ (Nat.le_refl _) h
      simp only [nameB, Bool.and_eq_true, decide_eq_true_eq, List.all_eq_true]
      refine ⟨⟨?_, fun x hx => ?_⟩, by simpa [h0] using hl⟩
      · have := ha 0 (by simp); simpa [okAt] using this
      · obtain ⟨i, hi, rfl⟩ := List.getElem_of_mem hx
        have := ha (i + 1) (by simpa using hi)
        simp [okAt, List.getD, hi] at this
        simp only [wordB, Bool.or_eq_true, beq_iff_eq]
        rcases this with h1 | h1 | h1
        · exact .inl (.inl h1)
        · exact .inl (.inr h1)
        · exact .inr h1
    · intro h
      simp only [nameB, Bool.and_eq_true, decide_eq_true_eq, List.all_eq_true] at h
      refine okK_of _ (by rw [h0]; simpa using h.2) (fun i hi => ?_) _ (Nat.le_refl _)
      cases i with
      | zero => simp [okAt, h.1.1]
      | succ i =>
        have hi' : i < r.length := by simpa using hi
        have := h.1.2 r[i] (List.getElem_mem _)
        simp only [wordB, Bool.or_eq_true, beq_iff_eq] at this
        simp [okAt, List.getD, hi']
        rcases this with (h1 | h1) | h1
        · exact .inl h1
        · exact .inr (.inl h1)
        · exact .inr (.inr h1)

end Go.Proofs.Ytfkmpegbidojoaa.Va
