/-
  Is one of two texts the beginning of the other one?
-/
import Derived.Test.YtgfgafpaokefhaaZCdInj
import Derived.Test.YtgfgafpaokefhaaZCdKeeps
import Derived.Test.YtgfgafpaokefhaaZPkRead
import Derived.Test.YtgfgafpaokefhaaZVaOrder
namespace Go.Proofs.Ytgfgafpaokefhaa.Cd
open Go.RowKit
open Pk Va
set_option linter.unusedVariables false
set_option linter.unusedSimpArgs false

set_option maxRecDepth 100000 in
set_option maxHeartbeats 2000000 in
theorem ahead_any (a b : List UInt8) (ha : a.length ≤ 4000000000000000000) (hb : b.length ≤ 4000000000000000000) (w : World) :
    Calls Try.prog 48 #[.string (S a), .string (S b)] w fun e w' => e = .returned (.bool (aheadB a b)) ∧ Below w.heap.size w w' := by
  have HB := Lib.hid (Below.refl w.heap.size w).drew
  obtain ⟨m, hm⟩ : ∃ m, m = min a.length b.length := ⟨_, rfl⟩
  have hmI : min (a.length : Int) (b.length : Int) = (m : Int) := by omega
  have hma : m ≤ a.length := by omega
  have hmb : m ≤ b.length := by omega
  have hA : (S a).size = a.length := S_size _
  have hB : (S b).size = b.length := S_size _
  have hR : (((S a).extract 0 m).toList == ((S b).extract 0 m).toList) = aheadB a b := by
    unfold aheadB
    rw [S_extract, S_extract, Va.S_beq, S_toList, S_toList, ← hm]
    simp
  clear hm
  have HR := Lib.hid (ret_b hR)
  clear hR
  go_enter Try.func48, Try.ntmps48
  go_wp2_with fail
  go_region_held3 (fun _ => True) (trivial) (fail)
  all_goals
    go_wp2_with fail
    go_ret
    exact ⟨HR.out, HB.out⟩
end Go.Proofs.Ytgfgafpaokefhaa.Cd
