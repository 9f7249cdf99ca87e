/-
  GetSub, walked whole.
-/
import Derived.Test.YtkdhchdhgmaolaaZCdGetS
namespace Go.Proofs.Ytkdhchdhgmaolaa.Cd
open Go.RowKit
open Pk Va
set_option linter.unusedVariables false
set_option linter.unusedSimpArgs false

set_option maxRecDepth 100000 in
set_option maxHeartbeats 4000000 in
theorem GetSub_any (s : List UInt8) (hs : s.length ≤ 1000000) (w : World) :
    Calls Try.prog 21 #[.string (S s)] w fun e w' => GetS (getS s) w e w' := by
  have kk := (Below.refl w.heap.size w).alloc (Nat.le_refl _) (.cells #[.int .i64 0, .string ⟨#[]⟩, .int .i64 0] 63)
  have hz0 : BS (w.alloc (.cells #[.int .i64 0, .string ⟨#[]⟩, .int .i64 0] 63)) w.heap.size (.int .i64 0) (.string ⟨#[]⟩) (.int .i64 0) := heap_alloc_new w _
  have HC := Lib.hid (get_sub s hs (w.alloc (.cells #[.int .i64 0, .string ⟨#[]⟩, .int .i64 0] 63)))
  have HZ0 := Lib.hid hz0
  have HK := Lib.hid kk
  clear kk hz0
  generalize getS s = X at *
  obtain ⟨⟨xi, xc, xp⟩, ev⟩ := X
  go_enter Try.func21, Try.ntmps21
  go_wp2_with fail
  refine HC.out.mono ?_
  rintro e w1 ⟨rfl, b1⟩
  have hz1 : BS w1 w.heap.size (.int .i64 0) (.string ⟨#[]⟩) (.int .i64 0) := (b1.block _ (by simp)).trans HZ0.out
  have z0 := hz1.c0
  have z1 := hz1.c1
  have z2 := hz1.c2
  have fz := hz1.fz
  have HB := Lib.hid (sput_below (HK.out.trans (b1.mono HK.out.size)) w.heap.size (Nat.le_refl _) (.int .i64 xi) (.string (S xc)) (.int .i64 xp))
  have HP := Lib.hid (hz1.put (.int .i64 xi) (.string (S xc)) (.int .i64 xp))
  clear b1 hz1
  go_wp2_with fail
  refine bodyPost_ret (res_bs2 rfl _ _ w.heap.size _ _ _ (.int .i64 (ev : Int)) rfl HP.out rfl) rfl ?_
  exact ⟨rfl, HB.out⟩

end Go.Proofs.Ytkdhchdhgmaolaa.Cd
