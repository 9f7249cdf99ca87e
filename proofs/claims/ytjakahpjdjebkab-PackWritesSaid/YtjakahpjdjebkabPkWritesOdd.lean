/-
  The walk over the law that each count, number, truth and text is written as the document says: odd counts.
-/
import Derived.Test.YtjakahpjdjebkabPkWritesA
namespace Go.Proofs.Ytjakahpjdjebkab.Pk
open Go.RowKit

set_option maxHeartbeats 20000000 in
set_option maxRecDepth 100000 in
theorem writes_odd (N : Nat) (m : Int) (s : ByteArray) (HN : U64 N) (HM : Hid (-9223372036854775808 ≤ m ∧ m < 9223372036854775808)) (HS : Hid (s.size ≤ 20000)) (hle : s.size ≤ 20000) (hz : N % 2 = 1) (w : World) :
    Calls Try.prog 3 #[.int .u64 (N : Int), .int .i64 m, .string s] w fun e w' => e = .returned (.bool true) ∧ Below w.heap.size w w' := by
  have e1 : ((N : Int).tmod 2 == 1) = true := by
    rw [Int.tmod_eq_emod_of_nonneg (by omega)]; simp; omega
  have hv : IntKind.u8.wrap ((N : Int).tmod 2) = ((1 : UInt8).toNat : Int) := by
    rw [Int.tmod_eq_emod_of_nonneg (by omega), show (N : Int) % 2 = 1 by omega]; rfl
  have hconv := fun w => one_byte w 1 _ hv
  clear hz hv
  go_enter Try.func3, Try.ntmps3
  go_wp2_with fail
  refine (awake_any _).mono ?_
  rintro e w1 ⟨rfl, b1⟩
  have b0 : Below w.heap.size w w1.drew := b1.drew
  go_wp2_with fail
  go_region_with (first
      | (go_at_call 8; refine (awake_any _).mono ?_; rintro e w' ⟨rfl, hb⟩; have hq := two (a := w) (by assumption) hb; clear hb)
      | (go_at_call 9; refine (count_int _ (by omega) (by have := HN.lt; omega) _).mono ?_; rintro e w' ⟨rfl, hb⟩; have hq := two (a := w) (by assumption) hb; clear hb)
      | (go_at_call 10; refine (refCount_int _ (by omega) (by have := HN.lt; omega) _).mono ?_; rintro e w' ⟨rfl, hb⟩; have hq := two (a := w) (by assumption) hb; clear hb)
      | (go_at_call 11; refine (number_any _ HM.out.1 HM.out.2 _).mono ?_; rintro e w' ⟨rfl, hb⟩; have hq := two (a := w) (by assumption) hb; clear hb)
      | (go_at_call 12; refine (refNumber_any _ HM.out.1 HM.out.2 _).mono ?_; rintro e w' ⟨rfl, hb⟩; have hq := two (a := w) (by assumption) hb; clear hb)
      | (go_at_call 13; refine (text_any _ (by have := HS.out; omega) _).mono ?_; rintro e w' ⟨rfl, hb⟩; have hq := two (a := w) (by assumption) hb; clear hb)
      | (go_at_call 14; refine (refText_any _ (by have := HS.out; omega) _).mono ?_; rintro e w' ⟨rfl, hb⟩; have hq := two (a := w) (by assumption) hb; clear hb)
      | (go_at_call 15; refine (truth_t _).mono ?_; rintro e w' ⟨rfl, rfl⟩))
  all_goals
    go_wp2_with fail
    go_ret
    exact ⟨rfl, by first | assumption | exact Below.alloc (by assumption) (Below.size (by assumption)) _⟩

end Go.Proofs.Ytjakahpjdjebkab.Pk
