/-
  The walk over the law FramePuts.
-/
import Derived.Test.YtndnfalkpkbpjaaDoorFrLaws
import Derived.Test.YtndnfalkpkbpjaaDoorFrRefSec
namespace Go.Proofs.YtndnfalkpkbpjaaDoor.Fr
open Go.RowKit

theorem alloc1 (w : World) (o : Obj) : Below w.heap.size w (w.alloc o) := (Below.refl _ _).alloc (Nat.le_refl _) o

set_option maxRecDepth 100000 in
set_option maxHeartbeats 3200000 in
theorem FramePuts_walk (serial seq : Nat) (kind : Int) (b : ByteArray) (n : Int) (h1 : serial < 4294967296) (h2 : seq < 18446744073709551616) (_hn : (Lit.int .i64 n).wf = true) (w : World) :
    Calls Tryd.prog 3 #[.agg #[.int .u32 (serial : Int), .int .u64 (seq : Int), .int .i64 kind, .string b], .int .i64 n] w fun e w' => e = .returned (.bool true) ∧ Below w.heap.size w w' := by
  have HB0 := Lib.hid (alloc1 w (.cells #[.int .u32 (serial : Int), .int .u64 (seq : Int), .int .i64 kind, .string b] 25))
  have HU0 := Lib.hid (Fr4.alloc (c0 := .int .u32 (serial : Int)) (c1 := .int .u64 (seq : Int)) (c2 := .int .i64 kind) (c3 := .string b) (T := 25) w)
  by_cases hc1 : 20000 < b.size
  · clear h1 h2 _hn
    go_enter Tryd.func3, Tryd.ntmps3
    go_wp2_with fail
    refine (awake_any _).mono ?_
    rintro e w1 ⟨rfl, b1⟩
    have hU1 := later4 b1 HU0.out
    have B1 := Lib.hid (two HB0.out b1)
    clear b1
    go_wp2_with fail
    refine (awake_any _).mono ?_
    rintro e w2 ⟨rfl, b2⟩
    have B2 := Lib.hid (two B1.out b2)
    clear b2
    go_wp2_with fail
    go_ret
    exact ⟨rfl, B2.out⟩
  · have hc1' : decide (20000 < b.size) = false := by simpa using hc1
    have hc1i : decide ((20000 : Int) < (b.size : Int)) = false := by simp; omega
    have hp := put_any serial seq kind b h1 h2
    have hq := refPut_any serial seq kind b h1 h2
    have hs := sectors_any n
    have ht := refSectors_any n
    generalize S (putS serial seq kind b.data.toList) = sp at *
    generalize putE kind b.size = pe at *
    generalize secs n = k at *
    have HP := Lib.hid hp
    have HQ := Lib.hid hq
    have HS := Lib.hid hs
    have HT := Lib.hid ht
    clear hp hq hs ht h1 h2 hc1 _hn
    go_enter Tryd.func3, Tryd.ntmps3
    go_wp2_with fail
    refine (awake_any _).mono ?_
    rintro e w1 ⟨rfl, b1⟩
    have hU1 := later4 b1 HU0.out
    have B1 := Lib.hid (two HB0.out b1)
    clear b1
    go_wp2_with fail
    refine (HP.out _).mono ?_
    rintro e w2 ⟨rfl, b2⟩
    have hU2 := later4 b2 hU1
    have B2 := Lib.hid (two B1.out b2)
    clear b2 hU1
    go_wp2_with fail
    refine (HQ.out _).mono ?_
    rintro e w3 ⟨rfl, b3⟩
    have B3 := Lib.hid (two B2.out b3)
    clear b3 hU2
    go_wp2_with fail
    refine (awake_any _).mono ?_
    rintro e w4 ⟨rfl, b4⟩
    have B4 := Lib.hid (two B3.out b4)
    clear b4
    go_wp2_with fail
    refine (HS.out _).mono ?_
    rintro e w5 ⟨rfl, rfl⟩
    go_wp2_with fail
    refine (HT.out _).mono ?_
    rintro e w6 ⟨rfl, rfl⟩
    go_wp2_with fail
    go_ret
    exact ⟨rfl, B4.out⟩

end Go.Proofs.YtndnfalkpkbpjaaDoor.Fr
