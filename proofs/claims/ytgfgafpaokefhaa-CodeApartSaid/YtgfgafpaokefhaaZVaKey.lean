/-
  The document's own answer for values: the key of a row.
-/
import Derived.Test.YtgfgafpaokefhaaZVaRows
namespace Go.Proofs.Ytgfgafpaokefhaa.Va
open Go.RowKit

theorem keyT_snoc : ∀ (l : List V) (v : V), keyT (l ++ [v]) = if l = [] then printV v else keyT l ++ 44 :: printV v
  | [], v => rfl
  | [m], v => rfl
  | m :: m2 :: r, v => by
    have ih := keyT_snoc (m2 :: r) v
    rw [if_neg (by simp)] at ih ⊢
    show printV m ++ 44 :: keyT ((m2 :: r) ++ [v]) = _
    rw [ih]
    show _ = (printV m ++ 44 :: keyT (m2 :: r)) ++ 44 :: printV v
    simp
theorem printV_len (v : V) (ok : VIn v) : (printV v).length ≤ 500000 := by
  have h1 := decZ_len v.num ok.num.1 ok.num.2
  have h2 := escT_len v.text
  have h3 := numsT_len v.list ok.nums
  have h4 := ok.text
  have h5 := ok.list
  unfold printV
  split
  · omega
  · split
    · split <;> simp
    · split
      · simp only [List.length_cons, List.length_append, List.length_nil]; omega
      · split
        · simp only [List.length_cons]; omega
        · split
          · simp only [List.length_cons, List.length_append, List.length_nil]; omega
          · simp
theorem keyT_len (l : List V) (h : ∀ v ∈ l, VIn v) : (keyT l).length ≤ 500001 * l.length := by
  induction l with
  | nil => simp [keyT]
  | cons v r ih =>
    have h1 := printV_len v (h v (by simp))
    have h2 := ih (fun m hm => h m (by simp [hm]))
    cases r with
    | nil => show (printV v).length ≤ _; simp; omega
    | cons m r =>
      show (printV v ++ 44 :: keyT (m :: r)).length ≤ _
      simp only [List.length_append, List.length_cons] at h2 ⊢
      omega

set_option linter.unusedSimpArgs false
end Go.Proofs.Ytgfgafpaokefhaa.Va
