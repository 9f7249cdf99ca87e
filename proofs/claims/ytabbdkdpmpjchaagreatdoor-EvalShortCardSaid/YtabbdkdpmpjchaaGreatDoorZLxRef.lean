/- LxRef -/
import Derived.Test.YtabbdkdpmpjchaaGreatDoorZTzB
import Derived.Test.YtabbdkdpmpjchaaGreatDoorZTzL
namespace Go.Proofs.YtabbdkdpmpjchaaGreatDoor.Lx
open Va
open Go.RowKit
theorem word_nat (c : UInt8) : wordB c = (decide (48 ≤ c.toNat ∧ c.toNat ≤ 57) || decide (97 ≤ c.toNat ∧ c.toNat ≤ 122) || decide (65 ≤ c.toNat ∧ c.toNat ≤ 90) || decide (c.toNat = 95)) := by
  have : ∀ i : Fin 256, wordB (UInt8.ofNat i.val) = (decide (48 ≤ (UInt8.ofNat i.val).toNat ∧ (UInt8.ofNat i.val).toNat ≤ 57) || decide (97 ≤ (UInt8.ofNat i.val).toNat ∧ (UInt8.ofNat i.val).toNat ≤ 122) || decide (65 ≤ (UInt8.ofNat i.val).toNat ∧ (UInt8.ofNat i.val).toNat ≤ 90) || decide ((UInt8.ofNat i.val).toNat = 95)) := by decide +kernel
  have h := this ⟨c.toNat, c.toNat_lt⟩
  simpa only [UInt8.ofNat_toNat] using h
set_option maxHeartbeats 800000 in
theorem word_any (c : UInt8) (n : Nat) (hn : n = c.toNat) (w : World) :
    Calls Tryz.prog 137 #[.int .u8 (n : Int)] w fun e w' => e = .returned (.bool (wordB c)) ∧ w = w' := by
  have hb : n < 256 := by have := c.toNat_lt; omega
  rw [word_nat, ← hn]
  clear hn
  have hc : n < 48 ∨ (48 ≤ n ∧ n ≤ 57) ∨ (58 ≤ n ∧ n < 65) ∨ (65 ≤ n ∧ n ≤ 90) ∨ (91 ≤ n ∧ n < 95) ∨ n = 95 ∨ n = 96 ∨ (97 ≤ n ∧ n ≤ 122) ∨ 123 ≤ n := by omega
  rcases hc with hc | hc | hc | hc | hc | hc | hc | hc | hc <;> (
    have hr : ∃ b : Bool, (decide (48 ≤ n ∧ n ≤ 57) || decide (97 ≤ n ∧ n ≤ 122) || decide (65 ≤ n ∧ n ≤ 90) || decide (n = 95)) = b ∧ (b = true ↔ ((48 ≤ n ∧ n ≤ 57) ∨ (97 ≤ n ∧ n ≤ 122) ∨ (65 ≤ n ∧ n ≤ 90) ∨ n = 95)) := ⟨_, rfl, by simp [or_assoc]⟩
    obtain ⟨b, hr, hi⟩ := hr
    rw [hr]
    clear hr
    first
      | (have e : b = true := hi.2 (by omega)
         subst e
         clear hi
         go_enter Tryz.func137, Tryz.ntmps137
         go_wp2_with fail
         go_ret
         refine ⟨?_, rfl⟩
         first
           | rfl
           | (refine congrArg (fun b => Ending.returned (Value.bool b)) (?_ : _ = _)
              simp <;> omega))
      | (have e : b = false := by
           cases b with
           | false => rfl
           | true => exfalso; have := hi.1 rfl; omega
         subst e
         clear hi
         go_enter Tryz.func137, Tryz.ntmps137
         go_wp2_with fail
         go_ret
         refine ⟨?_, rfl⟩
         first
           | rfl
           | (refine congrArg (fun b => Ending.returned (Value.bool b)) (?_ : _ = _)
              simp <;> omega)))
end Go.Proofs.YtabbdkdpmpjchaaGreatDoor.Lx
