/-
  Several texts in one: CdGetM, CdGetMA.
-/
import Derived.Test.YtkdhchdhgmaolaaZCdGetV
import Derived.Test.YtkdhchdhgmaolaaZTzJ
namespace Go.Proofs.Ytkdhchdhgmaolaa.Cd
open Go.RowKit
open Pk Va
set_option linter.unusedVariables false
set_option linter.unusedSimpArgs false

def getM (l : List UInt8) : MailP × Nat := if endV (pMail l 0).2.1 (pMail l 0).2.2 = 0 then ((pMail l 0).1, 0) else (⟨0, [], [], []⟩, endV (pMail l 0).2.1 (pMail l 0).2.2)
def BM (w : World) (H : Nat) (a b c d : Value) : Prop := w.heap[H]? = some (.cells #[a, b, c, d] 33 (0, 0))
section
variable {w : World} {H : Nat} {a b c d : Value}
theorem BM.c0 (h : BM w H a b c d) : w.cell? ⟨H, 0, none⟩ = some a := cell_of_row w H 0 _ _ (0, 0) h
theorem BM.c1 (h : BM w H a b c d) : w.cell? ⟨H, 1, none⟩ = some b := cell_of_row w H 1 _ _ (0, 0) h
theorem BM.c2 (h : BM w H a b c d) : w.cell? ⟨H, 2, none⟩ = some c := cell_of_row w H 2 _ _ (0, 0) h
theorem BM.c3 (h : BM w H a b c d) : w.cell? ⟨H, 3, none⟩ = some d := cell_of_row w H 3 _ _ (0, 0) h
theorem BM.fz (h : BM w H a b c d) (j : Nat) : w.frozen? ⟨H, j, none⟩ = false := frozen_of_row w H j _ _ h
theorem BM.lt (h : BM w H a b c d) : H < w.heap.size := lt_of_heapV h
theorem BM.put (h : BM w H a b c d) (x y z u : Value) : BM (bput w H x y z u) H x y z u :=
  heap_setCell_same _ H 3 _ _ _ (heap_setCell_same _ H 2 _ _ _ (heap_setCell_same _ H 1 _ _ _ (heap_setCell_same w H 0 _ _ _ h)))
end
theorem RdTo.bm {H r g : Nat} {l : List UInt8} {bad : Nat} {w w' : World} {a b c d : Value} (t : RdTo H r l bad w w') (h : BM w g a b c d) (f : OffR r g w) : BM w' g a b c d ∧ OffR r g w' := t.box h f
theorem res_bm2 {fn : Func} {p u : Tmp} (h : fn.results = #[.cell p 33, .tmp u]) (tmps : Array Value) (w : World) (g : Nat) (a b c d x : Value)
    (hp : tmps.getD p undef = .pointer (some ⟨g, 0, none⟩)) (hg : BM w g a b c d) (hx : tmps.getD u undef = x) :
    (results fn tmps).run Try.prog w = .ok (.tuple #[.agg #[a, b, c, d], x]) w := by
  have hp' : tmps[p]?.getD undef = .pointer (some ⟨g, 0, none⟩) := by simpa using hp
  have hx' : tmps[u]?.getD undef = x := by simpa using hx
  have hr := run_loadVar_row (P := Try.prog) w g 33 33 #[a, b, c, d] (0, 0) _ hg Try.underlying33 rfl (by kernel_rfl)
  simp [results, h, hp', hx', asAddr, hr]
/-- What GetMail hands out. -/
def GetM (X : MailP × Nat) (w : World) (e : Ending) (w' : World) : Prop :=
  ∃ r ka dk kc fa df fc, e = .returned (.tuple #[.agg #[.int .i64 X.1.id, .string (S X.1.chan), .slice ka dk.length kc, .slice fa df.length fc], .int .i64 (X.2 : Int)]) ∧ dk.map (·.1) = X.1.key ∧ df.map (·.1) = X.1.fields ∧ Below w.heap.size w w' ∧ w.heap.size + 1 ≤ r ∧ VRow (w.heap.size + 1) r w' ka dk kc ∧ VRow (w.heap.size + 1) r w' fa df fc

set_option maxRecDepth 100000 in
set_option maxHeartbeats 4000000 in
theorem get_mail (s : List UInt8) (hs : s.length ≤ 2000000) (w : World) :
    Calls Try.prog 36 #[.string (S s), .func (Fn.func 37) #[] #[]] w fun e w' =>
      GetM (getM s) w e w' := by
  have kk := (Below.refl w.heap.size w).alloc (Nat.le_refl _) (.cells #[.int .i64 0, .string ⟨#[]⟩, .slice none 0 0, .slice none 0 0] 33)
  have hz0 : BM (w.alloc (.cells #[.int .i64 0, .string ⟨#[]⟩, .slice none 0 0, .slice none 0 0] 33)) w.heap.size (.int .i64 0) (.string ⟨#[]⟩) (.slice none 0 0) (.slice none 0 0) := heap_alloc_new w _
  have HN := Lib.hid (new_any (S s) (w.alloc (.cells #[.int .i64 0, .string ⟨#[]⟩, .slice none 0 0, .slice none 0 0] 33)))
  rw [S_toList, show (w.alloc (.cells #[.int .i64 0, .string ⟨#[]⟩, .slice none 0 0, .slice none 0 0] 33)).heap.size = w.heap.size + 1 by simp] at HN
  unfold getM
  obtain ⟨⟨⟨xi, xc, xk, xf⟩, l2, b2⟩, hX⟩ : ∃ x, x = pMail s 0 := ⟨_, rfl⟩
  rw [← hX]
  simp only
  have HX := Lib.hid hX
  have HZ0 := Lib.hid hz0
  have HK := Lib.hid kk
  clear kk hz0 hX
  obtain ⟨ev, hev⟩ : ∃ ev, ev = endV l2 b2 := ⟨_, rfl⟩
  rw [← hev]
  have HEV := Lib.hid hev
  clear hev
  by_cases h0 : ev = 0
  · subst h0
    rw [if_pos rfl]
    go_enter Try.func36, Try.ntmps36
    go_wp2_with fail
    refine HN.out.mono ?_
    rintro e w1 ⟨rfl, r1, b1, s1⟩
    have hz1 : BM w1 w.heap.size (.int .i64 0) (.string ⟨#[]⟩) (.slice none 0 0) (.slice none 0 0) := (b1.block _ (Nat.lt_succ_self _)).trans HZ0.out
    have hR2 := rdr_new (w.heap.size + 1) s w1 (w.heap.size + 1) r1 (Nat.le_refl _) w1.heap.size rfl
    have ka := (Below.refl w1.heap.size w1).alloc (Nat.le_refl _) (.cells #[.pointer (some ⟨w.heap.size + 1, 0, none⟩)] 133)
    have hz2 : BM (w1.alloc (.cells #[.pointer (some ⟨w.heap.size + 1, 0, none⟩)] 133)) w.heap.size (.int .i64 0) (.string ⟨#[]⟩) (.slice none 0 0) (.slice none 0 0) := (ka.block _ hz1.lt).trans hz1
    have HC := Lib.hid (mail_r (w.heap.size + 1) w1.heap.size (w.heap.size + 1) s hs 0 _ hR2)
    rw [← HX.out] at HC
    have HZ2 := Lib.hid hz2
    have HB2 := Lib.hid ((HK.out.trans (b1.mono (Nat.le_succ _))).trans (ka.mono (by omega)))
    have HR2 := Lib.hid hR2
    have HSZ := Lib.hid s1
    clear r1 b1 s1 hz1 hR2 ka hz2
    go_wp2_with fail
    refine HC.out.mono ?_
    rintro e w3 ⟨qk, dk, ck, qf, df, cf, rfl, ek, ef, t3, vk, vf⟩
    simp only at ek ef t3 vk vf ⊢
    have EK := Lib.hid ek
    have EF := Lib.hid ef
    have kv := (Below.refl w3.heap.size w3).alloc (Nat.le_refl _) (.cells #[.int .i64 xi, .string (S xc), .slice qk dk.length ck, .slice qf df.length cf] 33)
    have hz3 := (t3.bm HZ2.out (HR2.out.off (Nat.lt_succ_self _))).1
    obtain ⟨R3, hR3⟩ := t3.rdr
    have hR4 := hR3.below kv
    have c0 := hR4.c0
    have HEN := Lib.hid (end_any R3 l2 b2 _ hR4.2.2.2.2)
    rw [← HEV.out] at HEN
    have hz4 : BM (w3.alloc (.cells #[.int .i64 xi, .string (S xc), .slice qk dk.length ck, .slice qf df.length cf] 33)) w.heap.size (.int .i64 0) (.string ⟨#[]⟩) (.slice none 0 0) (.slice none 0 0) := (kv.block _ hz3.lt).trans hz3
    have hr9 := HR2.out.1
    have hr8 := HR2.out.lt
    have vk4 := ((vk.below hR3 kv)).mono (B' := w.heap.size + 1) (by omega)
    have vf4 := ((vf.below hR3 kv)).mono (B' := w.heap.size + 1) (by omega)
    have hne : w.heap.size ≠ w1.heap.size := by omega
    have z0 := hz4.c0
    have z1 := hz4.c1
    have z2 := hz4.c2
    have z3 := hz4.c3
    have fz := hz4.fz
    have HB4 := Lib.hid (bput_below ((HB2.out.trans (t3.below.mono (Nat.le_succ _))).trans (kv.mono (Nat.le_of_lt hz3.lt))) w.heap.size (Nat.le_refl _) (.int .i64 xi) (.string (S xc)) (.slice qk dk.length ck) (.slice qf df.length cf))
    have HP := Lib.hid (hz4.put (.int .i64 xi) (.string (S xc)) (.slice qk dk.length ck) (.slice qf df.length cf))
    have VK := Lib.hid ((((vk4.set (j := 0) (Nat.lt_succ_self _) hne (.int .i64 xi)).set (j := 1) (Nat.lt_succ_self _) hne (.string (S xc))).set (j := 2) (Nat.lt_succ_self _) hne (.slice qk dk.length ck)).set (j := 3) (Nat.lt_succ_self _) hne (.slice qf df.length cf))
    have VF := Lib.hid ((((vf4.set (j := 0) (Nat.lt_succ_self _) hne (.int .i64 xi)).set (j := 1) (Nat.lt_succ_self _) hne (.string (S xc))).set (j := 2) (Nat.lt_succ_self _) hne (.slice qk dk.length ck)).set (j := 3) (Nat.lt_succ_self _) hne (.slice qf df.length cf))
    have HR9 := Lib.hid (show w.heap.size + 1 ≤ w1.heap.size by omega)
    clear t3 vk vf vk4 vf4 ek ef kv hz3 hR3 hR4 hz4 hne hr9 hr8
    go_wp2_with fail
    refine HEN.out.mono ?_
    rintro e w5 ⟨rfl, rfl⟩
    go_wp2_with fail
    refine bodyPost_ret (res_bm2 rfl _ _ w.heap.size _ _ _ _ (.int .i64 0) rfl HP.out rfl) rfl ?_
    exact ⟨w1.heap.size, qk, dk, ck, qf, df, cf, rfl, EK.out, EF.out, HB4.out, HR9.out, VK.out, VF.out⟩
  · rw [if_neg h0]
    have h3 := (err_ne ev h0).1
    clear h0
    go_enter Try.func36, Try.ntmps36
    go_wp2_with fail
    refine HN.out.mono ?_
    rintro e w1 ⟨rfl, r1, b1, s1⟩
    have hz1 : BM w1 w.heap.size (.int .i64 0) (.string ⟨#[]⟩) (.slice none 0 0) (.slice none 0 0) := (b1.block _ (Nat.lt_succ_self _)).trans HZ0.out
    have hR2 := rdr_new (w.heap.size + 1) s w1 (w.heap.size + 1) r1 (Nat.le_refl _) w1.heap.size rfl
    have ka := (Below.refl w1.heap.size w1).alloc (Nat.le_refl _) (.cells #[.pointer (some ⟨w.heap.size + 1, 0, none⟩)] 133)
    have hz2 : BM (w1.alloc (.cells #[.pointer (some ⟨w.heap.size + 1, 0, none⟩)] 133)) w.heap.size (.int .i64 0) (.string ⟨#[]⟩) (.slice none 0 0) (.slice none 0 0) := (ka.block _ hz1.lt).trans hz1
    have HC := Lib.hid (mail_r (w.heap.size + 1) w1.heap.size (w.heap.size + 1) s hs 0 _ hR2)
    rw [← HX.out] at HC
    have HZ2 := Lib.hid hz2
    have HB2 := Lib.hid ((HK.out.trans (b1.mono (Nat.le_succ _))).trans (ka.mono (by omega)))
    have HR2 := Lib.hid hR2
    clear r1 b1 s1 hz1 hR2 ka hz2
    go_wp2_with fail
    refine HC.out.mono ?_
    rintro e w3 ⟨qk, dk, ck, qf, df, cf, rfl, ek, ef, t3, vk, vf⟩
    simp only at ek ef t3 vk vf ⊢
    have kv := (Below.refl w3.heap.size w3).alloc (Nat.le_refl _) (.cells #[.int .i64 xi, .string (S xc), .slice qk dk.length ck, .slice qf df.length cf] 33)
    have kv2 := kv.alloc kv.size (.cells #[.int .i64 0, .string ⟨#[]⟩, .slice none 0 0, .slice none 0 0] 33)
    have hz3 := (t3.bm HZ2.out (HR2.out.off (Nat.lt_succ_self _))).1
    obtain ⟨R3, hR3⟩ := t3.rdr
    have hR4 := hR3.below kv
    have c0 := hR4.c0
    have HEN := Lib.hid (end_any R3 l2 b2 _ hR4.2.2.2.2)
    rw [← HEV.out] at HEN
    have hz4 : BM ((w3.alloc (.cells #[.int .i64 xi, .string (S xc), .slice qk dk.length ck, .slice qf df.length cf] 33)).alloc (.cells #[.int .i64 0, .string ⟨#[]⟩, .slice none 0 0, .slice none 0 0] 33)) w.heap.size (.int .i64 0) (.string ⟨#[]⟩) (.slice none 0 0) (.slice none 0 0) := (kv2.block _ hz3.lt).trans hz3
    have z0 := hz4.c0
    have z1 := hz4.c1
    have z2 := hz4.c2
    have z3 := hz4.c3
    have fz := hz4.fz
    have HB4 := Lib.hid (bput_below ((HB2.out.trans (t3.below.mono (Nat.le_succ _))).trans (kv2.mono (Nat.le_of_lt hz3.lt))) w.heap.size (Nat.le_refl _) (.int .i64 0) (.string ⟨#[]⟩) (.slice none 0 0) (.slice none 0 0))
    have HP := Lib.hid (hz4.put (.int .i64 0) (.string ⟨#[]⟩) (.slice none 0 0) (.slice none 0 0))
    clear t3 vk vf ek ef kv kv2 hz3 hR3 hR4 hz4
    go_wp2_with fail
    refine HEN.out.mono ?_
    rintro e w5 ⟨rfl, rfl⟩
    go_wp2_with fail
    refine bodyPost_ret (res_bm2 rfl _ _ w.heap.size _ _ _ _ (.int .i64 (ev : Int)) rfl HP.out rfl) rfl ?_
    exact ⟨w.heap.size + 1, none, [], 0, none, [], 0, rfl, rfl, rfl, HB4.out, Nat.le_refl _, VRow.nil _ _ _, VRow.nil _ _ _⟩

end Go.Proofs.Ytkdhchdhgmaolaa.Cd

namespace Go.Proofs.Ytkdhchdhgmaolaa.Cd
open Go.RowKit
open Pk Va
set_option linter.unusedVariables false
set_option linter.unusedSimpArgs false

set_option maxRecDepth 100000 in
set_option maxHeartbeats 4000000 in
theorem GetMail_any (s : List UInt8) (hs : s.length ≤ 2000000) (w : World) :
    Calls Try.prog 10 #[.string (S s)] w fun e w' => GetM (getM s) w e w' := by
  have kk := (Below.refl w.heap.size w).alloc (Nat.le_refl _) (.cells #[.int .i64 0, .string ⟨#[]⟩, .slice none 0 0, .slice none 0 0] 33)
  have hz0 : BM (w.alloc (.cells #[.int .i64 0, .string ⟨#[]⟩, .slice none 0 0, .slice none 0 0] 33)) w.heap.size (.int .i64 0) (.string ⟨#[]⟩) (.slice none 0 0) (.slice none 0 0) := heap_alloc_new w _
  have HC := Lib.hid (get_mail s hs (w.alloc (.cells #[.int .i64 0, .string ⟨#[]⟩, .slice none 0 0, .slice none 0 0] 33)))
  have HZ0 := Lib.hid hz0
  have HK := Lib.hid kk
  clear kk hz0
  generalize getM s = X at *
  obtain ⟨⟨xi, xc, xk, xf⟩, ev⟩ := X
  go_enter Try.func10, Try.ntmps10
  go_wp2_with fail
  refine HC.out.mono ?_
  rintro e w1 ⟨r, qk, dk, ck, qf, df, cf, rfl, ek, ef, b1, hr, vk, vf⟩
  simp only at ek ef ⊢
  have hz1 : BM w1 w.heap.size (.int .i64 0) (.string ⟨#[]⟩) (.slice none 0 0) (.slice none 0 0) := (b1.block _ (by simp)).trans HZ0.out
  have z0 := hz1.c0
  have z1 := hz1.c1
  have z2 := hz1.c2
  have z3 := hz1.c3
  have fz := hz1.fz
  have hsz : (w.alloc (.cells #[.int .i64 0, .string ⟨#[]⟩, .slice none 0 0, .slice none 0 0] 33)).heap.size = w.heap.size + 1 := by simp
  rw [hsz] at hr vk vf
  have vk4 := vk.mono (B' := w.heap.size + 1) (by omega)
  have vf4 := vf.mono (B' := w.heap.size + 1) (by omega)
  have hne : w.heap.size ≠ r := by omega
  have HB := Lib.hid (bput_below (HK.out.trans (b1.mono HK.out.size)) w.heap.size (Nat.le_refl _) (.int .i64 xi) (.string (S xc)) (.slice qk dk.length ck) (.slice qf df.length cf))
  have HP := Lib.hid (hz1.put (.int .i64 xi) (.string (S xc)) (.slice qk dk.length ck) (.slice qf df.length cf))
  have VK := Lib.hid ((((vk4.set (j := 0) (Nat.lt_succ_self _) hne (.int .i64 xi)).set (j := 1) (Nat.lt_succ_self _) hne (.string (S xc))).set (j := 2) (Nat.lt_succ_self _) hne (.slice qk dk.length ck)).set (j := 3) (Nat.lt_succ_self _) hne (.slice qf df.length cf))
  have VF := Lib.hid ((((vf4.set (j := 0) (Nat.lt_succ_self _) hne (.int .i64 xi)).set (j := 1) (Nat.lt_succ_self _) hne (.string (S xc))).set (j := 2) (Nat.lt_succ_self _) hne (.slice qk dk.length ck)).set (j := 3) (Nat.lt_succ_self _) hne (.slice qf df.length cf))
  have HR := Lib.hid (show w.heap.size + 1 ≤ r by omega)
  have EK := Lib.hid ek
  have EF := Lib.hid ef
  clear b1 vk vf vk4 vf4 ek ef hr hsz hz1 hne
  go_wp2_with fail
  refine bodyPost_ret (res_bm2 rfl _ _ w.heap.size _ _ _ _ (.int .i64 (ev : Int)) rfl HP.out rfl) rfl ?_
  exact ⟨r, qk, dk, ck, qf, df, cf, rfl, EK.out, EF.out, HB.out, HR.out, VK.out, VF.out⟩

end Go.Proofs.Ytkdhchdhgmaolaa.Cd
