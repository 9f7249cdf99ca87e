/-
  GetMail, walked whole.
-/
import Derived.Test.YtkdhchdhgmaolaaZCdGetM
namespace Go.Proofs.Ytkdhchdhgmaolaa.Cd
open Go.RowKit
open Pk Va
set_option linter.unusedVariables false
set_option linter.unusedSimpArgs false

set_option maxRecDepth 100000 in
set_option maxHeartbeats 4000000 in
theorem GetMail_any (s : List UInt8) (hs : s.length ≤ 1000000) (w : World) :
    Calls Try.prog 10 #[.string (S s)] w fun e w' => GetM (getM s) w e w' := by
  have kk := (Below.refl w.heap.size w).alloc (Nat.le_refl _) (.cells #[.int .i64 0, .string ⟨#[]⟩, .slice none 0 0, .slice none 0 0] 33)
  have hz0 : BM (w.alloc (.cells #[.int .i64 0, .string ⟨#[]⟩, .slice none 0 0, .slice none 0 0] 33)) w.heap.size (.int .i64 0) (.string ⟨#[]⟩) (.slice none 0 0) (.slice none 0 0) := heap_alloc_new w _
  have HC := Lib.hid (get_mail s hs (w.alloc (.cells #[.int .i64 0, .string ⟨#[]⟩, .slice none 0 0, .slice none 0 0] 33)))
  have HZ0 := Lib.hid hz0
  have HK := Lib.hid kk
  clear kk hz0
  generalize getM s = X at *
  obtain ⟨⟨xi, xc, xk, xf⟩, ev⟩ := X
  go_enter Try.func10, Try.ntmps10
  go_wp2_with fail
  refine HC.out.mono ?_
  rintro e w1 ⟨r, qk, dk, ck, qf, df, cf, rfl, ek, ef, b1, hr, vk, vf⟩
  simp only at ek ef ⊢
  have hz1 : BM w1 w.heap.size (.int .i64 0) (.string ⟨#[]⟩) (.slice none 0 0) (.slice none 0 0) := (b1.block _ (by simp)).trans HZ0.out
  have z0 := hz1.c0
  have z1 := hz1.c1
  have z2 := hz1.c2
  have z3 := hz1.c3
  have fz := hz1.fz
  have hsz : (w.alloc (.cells #[.int .i64 0, .string ⟨#[]⟩, .slice none 0 0, .slice none 0 0] 33)).heap.size = w.heap.size + 1 := by simp
  rw [hsz] at hr vk vf
  have vk4 := vk.mono (B' := w.heap.size + 1) (by omega)
  have vf4 := vf.mono (B' := w.heap.size + 1) (by omega)
  have hne : w.heap.size ≠ r := by omega
  have HB := Lib.hid (bput_below (HK.out.trans (b1.mono HK.out.size)) w.heap.size (Nat.le_refl _) (.int .i64 xi) (.string (S xc)) (.slice qk dk.length ck) (.slice qf df.length cf))
  have HP := Lib.hid (hz1.put (.int .i64 xi) (.string (S xc)) (.slice qk dk.length ck) (.slice qf df.length cf))
  have VK := Lib.hid ((((vk4.set (j := 0) (Nat.lt_succ_self _) hne (.int .i64 xi)).set (j := 1) (Nat.lt_succ_self _) hne (.string (S xc))).set (j := 2) (Nat.lt_succ_self _) hne (.slice qk dk.length ck)).set (j := 3) (Nat.lt_succ_self _) hne (.slice qf df.length cf))
  have VF := Lib.hid ((((vf4.set (j := 0) (Nat.lt_succ_self _) hne (.int .i64 xi)).set (j := 1) (Nat.lt_succ_self _) hne (.string (S xc))).set (j := 2) (Nat.lt_succ_self _) hne (.slice qk dk.length ck)).set (j := 3) (Nat.lt_succ_self _) hne (.slice qf df.length cf))
  have HR := Lib.hid (show w.heap.size + 1 ≤ r by omega)
  have EK := Lib.hid ek
  have EF := Lib.hid ef
  clear b1 vk vf vk4 vf4 ek ef hr hsz hz1 hne
  go_wp2_with fail
  refine bodyPost_ret (res_bm2 rfl _ _ w.heap.size _ _ _ _ (.int .i64 (ev : Int)) rfl HP.out rfl) rfl ?_
  exact ⟨r, qk, dk, ck, qf, df, cf, rfl, EK.out, EF.out, HB.out, HR.out, VK.out, VF.out⟩

end Go.Proofs.Ytkdhchdhgmaolaa.Cd
