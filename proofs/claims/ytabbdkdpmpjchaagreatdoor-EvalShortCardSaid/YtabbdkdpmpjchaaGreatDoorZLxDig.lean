/- LxDig -/
import Derived.Test.YtabbdkdpmpjchaaGreatDoorZTzA
import Derived.Lib.ParseIntB
namespace Go.Proofs.YtabbdkdpmpjchaaGreatDoor.Lx
open Va
def dfold (acc : Nat) (d : List UInt8) : Nat := d.foldl (fun a c => 10 * a + (c.toNat - 48)) acc
theorem dfold_cons (acc : Nat) (c : UInt8) (d : List UInt8) : dfold acc (c :: d) = dfold (10 * acc + (c.toNat - 48)) d := by simp only [dfold, List.foldl_cons]
theorem dfold_ge (acc : Nat) (d : List UInt8) : acc ≤ dfold acc d := by
  induction d generalizing acc with
  | nil => exact Nat.le_refl _
  | cons c d ih => rw [dfold_cons]; exact Nat.le_trans (by omega) (ih _)
theorem digB_iff (c : UInt8) : digB c = true ↔ 48 ≤ c.toNat ∧ c.toNat ≤ 57 := by
  unfold digB
  simp [UInt8.le_iff_toNat_le]
end Go.Proofs.YtabbdkdpmpjchaaGreatDoor.Lx
