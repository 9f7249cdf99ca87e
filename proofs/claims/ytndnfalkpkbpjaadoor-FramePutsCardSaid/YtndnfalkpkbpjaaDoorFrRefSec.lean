/-
  The walk over the document's own Sectors of package frame.
-/
import Derived.Test.YtndnfalkpkbpjaaDoorFrRef
namespace Go.Proofs.YtndnfalkpkbpjaaDoor.Fr
open Go.RowKit

set_option maxRecDepth 100000 in
/-- Sectors. -/
theorem refSectors_any (n : Int) (w : World) :
    Calls Tryd.prog 8 #[.int .i64 n] w fun e w' => e = .returned (.int .i64 (secs n : Nat)) ∧ w = w' := by
  unfold secs
  by_cases h1 : n < 0
  · rw [if_pos (Or.inl h1)]
    go_enter Tryd.func8, Tryd.ntmps8
    go_wp2_with fail
    go_ret
    exact ⟨rfl, rfl⟩
  · by_cases h2 : 1048576 < n
    · rw [if_pos (Or.inr h2)]
      go_enter Tryd.func8, Tryd.ntmps8
      go_wp2_with fail
      go_ret
      exact ⟨rfl, rfl⟩
    · rw [if_neg (by omega)]
      obtain ⟨N, rfl⟩ := Int.eq_ofNat_of_zero_le (show 0 ≤ n by omega)
      rw [Int.toNat_natCast]
      have h3 : N ≤ 1048576 := by omega
      clear h1 h2
      go_enter Tryd.func8, Tryd.ntmps8
      go_wp2_with fail
      go_loop [3] (fun k => ∃ K : Nat, K ≤ 16385 ∧ k = .int .i64 K ∧ (K = 0 ∨ (K - 1) * 64 < 21 + N)) (fun k => 20000 - (intOf k).toNat)
      case atStart => exact ⟨0, by omega, rfl, Or.inl rfl⟩
      case round =>
        obtain ⟨K, hK, rfl, hlo⟩ := hrel
        have HLO := Lib.hid hlo
        clear hlo
        by_cases hlt : K * 64 < 21 + N
        · go_wp2_with fail
          go_round
          case rel => exact ⟨K + 1, by omega, by go_num, Or.inr (by omega)⟩
          case measure => simp [intOf]; omega
        · go_wp2_with fail
          go_ret
          have hKN : (K : Int) = (((N + 84) / 64 : Nat) : Int) := by have := HLO.out; omega
          exact ⟨congrArg (fun v => Ending.returned (Value.int .i64 v)) hKN, rfl⟩

end Go.Proofs.YtndnfalkpkbpjaaDoor.Fr
