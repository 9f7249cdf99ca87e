/-
  The walk over the document's own PutHead of package frame, whatever it is given.
-/
import Derived.Test.YtndnfalkpkbpjabDoorFrRefHead
namespace Go.Proofs.YtndnfalkpkbpjabDoor.Fr
open Go.RowKit

set_option maxRecDepth 100000 in
set_option maxHeartbeats 1600000 in
/-- PutHead, of what is no head. -/
theorem refPutHead_no (serial base prev seq : Nat) (hh : isHead serial base prev = false) (w : World) :
    Calls Tryd.prog 14 #[.agg #[.int .u32 (serial : Int), .int .u32 (base : Int), .int .u32 (prev : Int), .int .u64 (seq : Int)]] w fun e w' =>
      e = .returned (.tuple #[.string ⟨#[]⟩, .int .i64 2]) ∧ Below w.heap.size w w' := by
  have hb0 := (Below.refl w.heap.size w).alloc (Nat.le_refl _) (.cells #[.int .u32 (serial : Int), .int .u32 (base : Int), .int .u32 (prev : Int), .int .u64 (seq : Int)] 37)
  have HB0 := Lib.hid hb0
  clear hb0
  have hn : ¬ (1 ≤ serial ∧ 1 ≤ base ∧ base ≤ serial ∧ prev < serial) := by simpa [isHead] using hh
  have HN := Lib.hid hn
  clear hn hh
  by_cases h1 : serial < 1
  · have h1' : decide ((serial : Int) < 1) = true := by simp; omega
    clear h1
    go_enter Tryd.func14, Tryd.ntmps14
    go_wp2_with fail
    go_ret2
    exact ⟨rfl, HB0.out⟩
  · have h1' : decide ((serial : Int) < 1) = false := by simp; omega
    have h1'' : decide (serial < 1) = false := by simp; omega
    by_cases h2 : base < 1
    · have h2' : decide ((base : Int) < 1) = true := by simp; omega
      clear h1 h2
      go_enter Tryd.func14, Tryd.ntmps14
      go_wp2_with fail
      go_ret2
      exact ⟨rfl, HB0.out⟩
    · have h2' : decide ((base : Int) < 1) = false := by simp; omega
      have h2'' : decide (base < 1) = false := by simp; omega
      by_cases h3 : serial < base
      · clear h1 h2
        go_enter Tryd.func14, Tryd.ntmps14
        go_wp2_with fail
        go_ret2
        exact ⟨rfl, HB0.out⟩
      · have h4 : serial ≤ prev := by have := HN.out; omega
        have h3' : decide (serial < base) = false := by simpa using h3
        clear h1 h2 h3
        go_enter Tryd.func14, Tryd.ntmps14
        go_wp2_with fail
        go_ret2
        exact ⟨rfl, HB0.out⟩

theorem refPutHead_any (serial base prev seq : Nat) (h1 : serial < 4294967296) (h2 : base < 4294967296) (h3 : prev < 4294967296) (h4 : seq < 18446744073709551616) (w : World) :
    Calls Tryd.prog 14 #[.agg #[.int .u32 (serial : Int), .int .u32 (base : Int), .int .u32 (prev : Int), .int .u64 (seq : Int)]] w fun e w' =>
      e = .returned (.tuple #[.string (S (headS serial base prev seq)), .int .i64 (headE serial base prev : Nat)]) ∧ Below w.heap.size w w' := by
  cases hh : isHead serial base prev with
  | true =>
    have e1 : headS serial base prev seq = headL serial base prev seq := by unfold headS; rw [hh]; rfl
    have e2 : headE serial base prev = 0 := by unfold headE; rw [hh]; rfl
    rw [e1, e2]
    exact refPutHead_yes serial base prev seq h1 h2 h3 h4 hh w
  | false =>
    have e1 : headS serial base prev seq = [] := by unfold headS; rw [hh]; rfl
    have e2 : headE serial base prev = 2 := by unfold headE; rw [hh]; rfl
    rw [e1, e2]
    exact refPutHead_no serial base prev seq hh w

end Go.Proofs.YtndnfalkpkbpjabDoor.Fr
