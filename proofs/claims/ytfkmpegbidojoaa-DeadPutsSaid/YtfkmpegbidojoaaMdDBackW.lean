/-
  DeadBack, walked.
-/
import Derived.Test.YtfkmpegbidojoaaMdDSmall
import Derived.Test.YtfkmpegbidojoaaMdTake
namespace Go.Proofs.Ytfkmpegbidojoaa.Md
open Go.RowKit
open Va
set_option linter.unusedVariables false
set_option linter.unusedSimpArgs false

theorem findL_last {l : List DeadP} {x : DeadP} (h : l.any (fun y => y.n == x.n) = false) : findL (l ++ [x]) x.n = some x := by
  unfold findL
  rw [List.find?_append, List.find?_eq_none.2 (fun y hy => by have := List.any_eq_false.1 h y hy; simpa using this)]
  simp
theorem dropL_last {l : List DeadP} {x : DeadP} (h : l.any (fun y => y.n == x.n) = false) : dropL (l ++ [x]) x.n = l := by
  unfold dropL
  rw [List.filter_append, List.filter_eq_self.2 (fun y hy => by have := List.any_eq_false.1 h y hy; simpa using this)]
  simp
theorem countL_last (l : List DeadP) (x : DeadP) : countL (l ++ [x]) x.reason = countL l x.reason + 1 := by
  unfold countL
  rw [List.filter_append, List.length_append]
  simp
theorem countL_le (l : List DeadP) (r : Int) : countL l r ≤ l.length := List.length_filter_le _ _
theorem putE_any {l : List DeadP} {n r most : Int} (h : putE l n r most = 0) : l.any (fun x => x.n == n) = false := by
  unfold putE at h
  split at h
  · cases h
  · split at h
    · cases h
    · rename_i h2; simpa using h2

end Go.Proofs.Ytfkmpegbidojoaa.Md
