/-
  BlockSizes' walk.
-/
import Derived.Test.YtndnfalkpkbpjaaBkAwake
import Derived.Test.YtndnfalkpkbpjaaBkLast
namespace Go.Proofs.Ytndnfalkpkbpjaa.Bk
open Go.RowKit
theorem newN_max (n : Int) : max 0 (min n 4096) = (newN n : Int) := by unfold newN; split <;> (try split) <;> omega
theorem flat_size (N : Nat) : (S (List.replicate N Z64).flatten).size = N * 64 := by
  rw [S_size, List.length_flatten, List.map_replicate, List.sum_replicate_nat, Z64_length]
set_option maxRecDepth 100000 in
set_option maxHeartbeats 1600000 in
theorem BlockSizes_walk (n : Int) (_hn : (Lit.int .i64 n).wf = true) (w : World) :
    Calls Try.prog 4 #[.int .i64 n] w fun e w' => e = .returned (.bool true) ∧ Below w.heap.size w w' := by
  have hmm := newN_max n
  have hle := newN_le n
  have hnew := fun w => new_any n w
  have hsz := flat_size (newN n)
  generalize newN n = N at *
  have hr : refE (newD N) (N : Int) = 2 := by
    unfold refE
    rw [if_neg (by simp [newD]), if_pos (Or.inr (by simp [newD]))]
  have hre := fun w D R (h : DevAt w D R (.slice none 0 0) (newD N)) => read_no h (N : Int) (by rw [hr]; omega)
  rw [hr] at hre
  have hse := fun w D R (h : DevAt w D R (.slice none 0 0) (newD N)) => sectors_any h
  have hla := fun w D R (h : DevAt w D R (.slice none 0 0) (newD N)) => lasting_any h
  have hwa := fun w D R (h : DevAt w D R (.slice none 0 0) (newD N)) => waits_any h
  simp only [newD, List.length_replicate, List.length_nil] at hse hla hwa
  have HNEW := Lib.hid hnew
  have HRE := Lib.hid hre
  have HSE := Lib.hid hse
  have HLA := Lib.hid hla
  have HWA := Lib.hid hwa
  have hmul : IntKind.i64.wrap ((N : Int) * 64) = (N : Int) * 64 := by rw [IntKind.wrap_i64]; omega
  have hsi : ((S (List.replicate N Z64).flatten).size : Int) = (N : Int) * 64 := by omega
  generalize (S (List.replicate N Z64).flatten) = s at *
  clear hnew hre hse hla hwa hr
  go_enter Try.func4, Try.ntmps4
  go_wp2_with fail
  refine (awake_any _).mono ?_
  rintro e w1 ⟨rfl, b1⟩
  have B1 := Lib.hid b1
  clear b1
  go_wp2_with fail
  refine (HNEW.out _).mono ?_
  rintro e w2 ⟨rfl, d2, b2⟩
  have D2 := Lib.hid d2
  have B2 := Lib.hid (two B1.out b2)
  clear d2 b2 B1
  go_wp2_with fail
  refine (HRE.out _ _ _ D2.out).mono ?_
  rintro e w3 ⟨rfl, b3⟩
  have D3 := Lib.hid (D2.out.later (Onl.of_below b3 []) (by simp))
  have B3 := Lib.hid (two B2.out b3)
  clear b3 B2 D2
  go_wp2_with fail
  refine (awake_any _).mono ?_
  rintro e w4 ⟨rfl, b4⟩
  have D4 := Lib.hid (D3.out.later (Onl.of_below b4 []) (by simp))
  have B4 := Lib.hid (two B3.out b4)
  clear b4 B3 D3
  go_wp2_with fail
  refine (HSE.out _ _ _ D4.out).mono ?_
  rintro e w5 ⟨rfl, rfl⟩
  go_wp2_with fail
  refine (HLA.out _ _ _ D4.out).mono ?_
  rintro e w6 ⟨rfl, b6⟩
  have D6 := Lib.hid (D4.out.later (Onl.of_below b6 []) (by simp))
  have B6 := Lib.hid (two B4.out b6)
  clear b6 B4 D4
  go_wp2_with fail
  refine (HWA.out _ _ _ D6.out).mono ?_
  rintro e w7 ⟨rfl, rfl⟩
  go_wp2_with fail
  go_ret
  exact ⟨rfl, B6.out⟩
end Go.Proofs.Ytndnfalkpkbpjaa.Bk
