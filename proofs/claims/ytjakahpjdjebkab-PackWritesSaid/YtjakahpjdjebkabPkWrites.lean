/-
  The walk over the law that each count, number, truth and text is written as the document says.
-/
import Derived.Test.YtjakahpjdjebkabPkWritesEven
import Derived.Test.YtjakahpjdjebkabPkWritesOdd
namespace Go.Proofs.Ytjakahpjdjebkab.Pk
open Go.RowKit

set_option maxRecDepth 100000 in
theorem PackWrites_walk (n m : Int) (s : ByteArray) (hn : (Lit.int .u64 n).wf = true) (hm : (Lit.int .i64 m).wf = true) (_hs : s.size ≤ maxLen) (w : World) :
    Calls Try.prog 3 #[.int .u64 n, .int .i64 m, .string s] w fun e w' => e = .returned (.bool true) ∧ Below w.heap.size w w' := by
  have hn' : 0 ≤ n ∧ n < 18446744073709551616 := by
    simp [Lit.wf, IntKind.min, IntKind.max, IntKind.signed, IntKind.bits] at hn; omega
  have hm' : -9223372036854775808 ≤ m ∧ m < 9223372036854775808 := by
    simp [Lit.wf, IntKind.min, IntKind.max, IntKind.signed, IntKind.bits] at hm; omega
  clear hn hm
  obtain ⟨hn0, hn1⟩ := hn'
  obtain ⟨N, rfl⟩ := Int.eq_ofNat_of_zero_le hn0
  have HN : U64 N := ⟨by omega⟩
  have HM := Lib.hid hm'
  clear hn0 hn1 hm'
  by_cases hl : 20000 < s.size
  · go_enter Try.func3, Try.ntmps3
    go_wp2_with fail
    refine (awake_any _).mono ?_
    rintro e w1 ⟨rfl, b1⟩
    have B1 := Lib.hid b1
    clear b1
    go_wp2_with fail
    refine (awake_any _).mono ?_
    rintro e w2 ⟨rfl, b2⟩
    have B2 := Lib.hid b2
    clear b2
    go_wp2_with fail
    go_ret
    exact ⟨rfl, two B1.out B2.out⟩
  · have hle : s.size ≤ 20000 := by omega
    rcases Nat.mod_two_eq_zero_or_one N with hz | hz
    · exact writes_even N m s HN HM (Lib.hid hle) hle hz w
    · exact writes_odd N m s HN HM (Lib.hid hle) hle hz w

end Go.Proofs.Ytjakahpjdjebkab.Pk
