/-
  The document's own answer for values: the text of any value.
-/
import Derived.Test.YtgfgafpaokefhaaZVaPrint
namespace Go.Proofs.Ytgfgafpaokefhaa.Va
open Go.RowKit

theorem decZ_len (n : Int) (h1 : -9223372036854775808 ≤ n) (h2 : n ≤ 9223372036854775807) : (decZ n).length ≤ 20 := by
  unfold decZ
  split
  · rw [List.length_cons]; have := digs_len19 n.natAbs (by omega); omega
  · have := digs_len19 n.toNat (by omega); omega
theorem numsT_snoc : ∀ (l : List Int) (n : Int), numsT (l ++ [n]) = if l = [] then decZ n else numsT l ++ 44 :: 32 :: decZ n
  | [], n => rfl
  | [m], n => rfl
  | m :: m2 :: r, n => by
    have ih := numsT_snoc (m2 :: r) n
    rw [if_neg (by simp)] at ih ⊢
    show decZ m ++ 44 :: 32 :: numsT ((m2 :: r) ++ [n]) = _
    rw [ih]
    show _ = (decZ m ++ 44 :: 32 :: numsT (m2 :: r)) ++ 44 :: 32 :: decZ n
    simp
theorem numsT_len (l : List Int) (h : ∀ n ∈ l, -9223372036854775808 ≤ n ∧ n ≤ 9223372036854775807) : (numsT l).length ≤ 22 * l.length := by
  induction l with
  | nil => simp [numsT]
  | cons n r ih =>
    have h1 := decZ_len n (h n (by simp)).1 (h n (by simp)).2
    have h2 := ih (fun m hm => h m (by simp [hm]))
    cases r with
    | nil => show (decZ n).length ≤ _; simp; omega
    | cons m r =>
      show (decZ n ++ 44 :: 32 :: numsT (m :: r)).length ≤ _
      simp only [List.length_append, List.length_cons] at h2 ⊢
      omega

/-- The bounds of what is among the arguments. -/
structure VIn (v : V) : Prop where
  num : -9223372036854775808 ≤ v.num ∧ v.num ≤ 9223372036854775807
  text : v.text.length ≤ 100000
  list : v.list.length ≤ 1000
  nums : ∀ n ∈ v.list, -9223372036854775808 ≤ n ∧ n ≤ 9223372036854775807

set_option linter.unusedSimpArgs false
end Go.Proofs.Ytgfgafpaokefhaa.Va
