/-
  What the rows of the laws of values list: the table of the library's that a number's text is made with.
-/
import Derived.Test.YtipabjefkbgjbaaDoorRows
import Derived.Test.YtipabjefkbgjbaaDoorVlPrint
import Derived.Lib.LaidTab
import Derived.MakeChecks
namespace Go.Proofs.YtipabjefkbgjbaaDoor
open Go.RowKit

theorem laid_tail {P : Program} {W : World} {x : String × DataW Unit} {r : List (String × DataW Unit)} (h : laidMet P (x :: r) W) : laidMet P r W := by
  obtain ⟨ps, ⟨g, t, cs, fuel, p, q, _, _, _, _, hL, rfl⟩, hnd, hc⟩ := h
  exact ⟨q, hL, (List.nodup_append.1 hnd).2.1, fun b off hm => hc b off (List.mem_append.2 (.inr hm))⟩
theorem tab_data : (Rows.laid_internal_strconv_uint64pow10 : DataW Unit) = Lib.tabData .u64 Lib.pow10Tab := by kernel_rfl
theorem gT : Tryd.prog.globalNamed "internal/strconv.uint64pow10" = some 1 := by kernel_rfl
/-- The table, wherever it stands at the list's head. -/
theorem tab_of_head {W : World} {r : List (String × DataW Unit)} (h : laidMet Tryd.prog (("internal/strconv.uint64pow10", Rows.laid_internal_strconv_uint64pow10) :: r) W) : Va.Tab W := by
  rw [tab_data] at h
  exact Lib.tabIs_of_head (t := 98) (e := 77) (n := 20) gT (by kernel_rfl) (by kernel_rfl) (by kernel_rfl) (by kernel_rfl) (by kernel_rfl) h
theorem laid_valuePrints (W : World) (h : laidMetH Tryd.prog Rows.valuePrintsRow.laid W) : Va.Tab W := by
  rw [MakeChecks.laidMetH_plain _ _ _ (by kernel_rfl)] at h
  exact tab_of_head (laid_tail (laid_tail h))
end Go.Proofs.YtipabjefkbgjbaaDoor
