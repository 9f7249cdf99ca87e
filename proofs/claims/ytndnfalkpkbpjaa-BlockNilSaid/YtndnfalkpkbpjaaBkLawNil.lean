/-
  BlockNil's walk.
-/
import Derived.Test.YtndnfalkpkbpjaaBkAwake
namespace Go.Proofs.Ytndnfalkpkbpjaa.Bk
open Go.RowKit
set_option maxRecDepth 100000 in
set_option maxHeartbeats 1600000 in
theorem BlockNil_walk (w : World) :
    Calls Try.prog 6 #[] w fun e w' => e = .returned (.bool true) ∧ Below w.heap.size w w' := by
  go_enter Try.func6, Try.ntmps6
  go_wp2_with fail
  refine (awake_any _).mono ?_
  rintro e w1 ⟨rfl, b1⟩
  have B1 := Lib.hid b1
  clear b1
  go_wp2_with fail
  refine (kill_nil _ _ ⟨_, _, _, rfl⟩).mono ?_
  rintro e w2 ⟨rfl, b2⟩
  have B2 := Lib.hid (two B1.out b2)
  clear b2 B1
  go_wp2_with fail
  refine (fuse_nil _ _ _ ⟨_, _, _, rfl⟩).mono ?_
  rintro e w3 ⟨rfl, b3⟩
  have B3 := Lib.hid (two B2.out b3)
  clear b3 B2
  go_wp2_with fail
  refine (up_nil _).mono ?_
  rintro e w4 ⟨rfl, rfl⟩
  go_wp2_with fail
  refine (fill_nil _ _).mono ?_
  rintro e w5 ⟨rfl, b5⟩
  have B5 := Lib.hid (two B3.out b5)
  clear b5 B3
  go_wp2_with fail
  refine (read_nil _ _).mono ?_
  rintro e w6 ⟨rfl, b6⟩
  have B6 := Lib.hid (two B5.out b6)
  clear b6 B5
  go_wp2_with fail
  refine (awake_any _).mono ?_
  rintro e w7 ⟨rfl, b7⟩
  have B7 := Lib.hid (two B6.out b7)
  clear b7 B6
  go_wp2_with fail
  refine (write_nil _ _ _).mono ?_
  rintro e w8 ⟨rfl, rfl⟩
  go_wp2_with fail
  refine (flush_nil _).mono ?_
  rintro e w8 ⟨rfl, rfl⟩
  go_wp2_with fail
  refine (sectors_nil _).mono ?_
  rintro e w8 ⟨rfl, rfl⟩
  go_wp2_with fail
  refine (waits_nil _).mono ?_
  rintro e w8 ⟨rfl, rfl⟩
  go_wp2_with fail
  refine (off_nil _).mono ?_
  rintro e w8 ⟨rfl, rfl⟩
  go_wp2_with fail
  refine (lasting_nil _).mono ?_
  rintro e w8 ⟨rfl, rfl⟩
  go_wp2_with fail
  go_ret
  exact ⟨rfl, B7.out⟩
end Go.Proofs.Ytndnfalkpkbpjaa.Bk
