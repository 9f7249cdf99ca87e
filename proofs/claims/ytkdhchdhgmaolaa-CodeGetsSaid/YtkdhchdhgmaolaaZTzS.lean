/-
  Several texts in one: CdGetS, CdGetSA.
-/
import Derived.Test.YtkdhchdhgmaolaaZCdGetV
import Derived.Test.YtkdhchdhgmaolaaZCdRdH
namespace Go.Proofs.Ytkdhchdhgmaolaa.Cd
open Go.RowKit
open Pk Va
set_option linter.unusedVariables false
set_option linter.unusedSimpArgs false

def getS (l : List UInt8) : SubP × Nat := if endV (pSub l 0).2.1 (pSub l 0).2.2 = 0 then ((pSub l 0).1, 0) else (⟨0, [], 0⟩, endV (pSub l 0).2.1 (pSub l 0).2.2)
def BS (w : World) (H : Nat) (a b c : Value) : Prop := w.heap[H]? = some (.cells #[a, b, c] 63 (0, 0))
def sput (w : World) (H : Nat) (x y z : Value) : World := ((w.setCell ⟨H, 0, none⟩ x).setCell ⟨H, 1, none⟩ y).setCell ⟨H, 2, none⟩ z
theorem sput_below {B : Nat} {w w' : World} (h : Below B w w') (g : Nat) (hg : B ≤ g) (x y z : Value) : Below B w (sput w' g x y z) :=
  ((h.setCell (p := ⟨g, 0, none⟩) hg x).setCell (p := ⟨g, 1, none⟩) hg y).setCell (p := ⟨g, 2, none⟩) hg z
section
variable {w : World} {H : Nat} {a b c : Value}
theorem BS.c0 (h : BS w H a b c) : w.cell? ⟨H, 0, none⟩ = some a := cell_of_row w H 0 _ _ (0, 0) h
theorem BS.c1 (h : BS w H a b c) : w.cell? ⟨H, 1, none⟩ = some b := cell_of_row w H 1 _ _ (0, 0) h
theorem BS.c2 (h : BS w H a b c) : w.cell? ⟨H, 2, none⟩ = some c := cell_of_row w H 2 _ _ (0, 0) h
theorem BS.fz (h : BS w H a b c) (j : Nat) : w.frozen? ⟨H, j, none⟩ = false := frozen_of_row w H j _ _ h
theorem BS.lt (h : BS w H a b c) : H < w.heap.size := lt_of_heapV h
theorem BS.put (h : BS w H a b c) (x y z : Value) : BS (sput w H x y z) H x y z :=
  heap_setCell_same _ H 2 _ _ _ (heap_setCell_same _ H 1 _ _ _ (heap_setCell_same w H 0 _ _ _ h))
end
theorem RdTo.bs {H r g : Nat} {l : List UInt8} {bad : Nat} {w w' : World} {a b c : Value} (t : RdTo H r l bad w w') (h : BS w g a b c) (f : OffR r g w) : BS w' g a b c ∧ OffR r g w' := t.box h f
theorem res_bs2 {fn : Func} {p u : Tmp} (h : fn.results = #[.cell p 63, .tmp u]) (tmps : Array Value) (w : World) (g : Nat) (a b c x : Value)
    (hp : tmps.getD p undef = .pointer (some ⟨g, 0, none⟩)) (hg : BS w g a b c) (hx : tmps.getD u undef = x) :
    (results fn tmps).run Try.prog w = .ok (.tuple #[.agg #[a, b, c], x]) w := by
  have hp' : tmps[p]?.getD undef = .pointer (some ⟨g, 0, none⟩) := by simpa using hp
  have hx' : tmps[u]?.getD undef = x := by simpa using hx
  have hr := run_loadVar_row (P := Try.prog) w g 63 63 #[a, b, c] (0, 0) _ hg Try.underlying63 rfl (by kernel_rfl)
  simp [results, h, hp', hx', asAddr, hr]
/-- What GetSub hands out. -/
def GetS (X : SubP × Nat) (w : World) (e : Ending) (w' : World) : Prop :=
  e = .returned (.tuple #[.agg #[.int .i64 X.1.id, .string (S X.1.role), .int .i64 X.1.past], .int .i64 (X.2 : Int)]) ∧ Below w.heap.size w w'

set_option maxRecDepth 100000 in
set_option maxHeartbeats 4000000 in
theorem get_sub (s : List UInt8) (hs : s.length ≤ 2000000) (w : World) :
    Calls Try.prog 53 #[.string (S s), .func (Fn.func 54) #[] #[]] w fun e w' =>
      GetS (getS s) w e w' := by
  have kk := (Below.refl w.heap.size w).alloc (Nat.le_refl _) (.cells #[.int .i64 0, .string ⟨#[]⟩, .int .i64 0] 63)
  have hz0 : BS (w.alloc (.cells #[.int .i64 0, .string ⟨#[]⟩, .int .i64 0] 63)) w.heap.size (.int .i64 0) (.string ⟨#[]⟩) (.int .i64 0) := heap_alloc_new w _
  have HN := Lib.hid (new_any (S s) (w.alloc (.cells #[.int .i64 0, .string ⟨#[]⟩, .int .i64 0] 63)))
  rw [S_toList, show (w.alloc (.cells #[.int .i64 0, .string ⟨#[]⟩, .int .i64 0] 63)).heap.size = w.heap.size + 1 by simp] at HN
  unfold getS
  obtain ⟨⟨⟨xi, xc, xp⟩, l2, b2⟩, hX⟩ : ∃ x, x = pSub s 0 := ⟨_, rfl⟩
  rw [← hX]
  simp only
  have HX := Lib.hid hX
  have HZ0 := Lib.hid hz0
  have HK := Lib.hid kk
  clear kk hz0 hX
  obtain ⟨ev, hev⟩ : ∃ ev, ev = endV l2 b2 := ⟨_, rfl⟩
  rw [← hev]
  have HEV := Lib.hid hev
  clear hev
  by_cases h0 : ev = 0
  · subst h0
    rw [if_pos rfl]
    go_enter Try.func53, Try.ntmps53
    go_wp2_with fail
    refine HN.out.mono ?_
    rintro e w1 ⟨rfl, r1, b1, s1⟩
    have hz1 : BS w1 w.heap.size (.int .i64 0) (.string ⟨#[]⟩) (.int .i64 0) := (b1.block _ (Nat.lt_succ_self _)).trans HZ0.out
    have hR2 := rdr_new (w.heap.size + 1) s w1 (w.heap.size + 1) r1 (Nat.le_refl _) w1.heap.size rfl
    have ka := (Below.refl w1.heap.size w1).alloc (Nat.le_refl _) (.cells #[.pointer (some ⟨w.heap.size + 1, 0, none⟩)] 133)
    have hz2 : BS (w1.alloc (.cells #[.pointer (some ⟨w.heap.size + 1, 0, none⟩)] 133)) w.heap.size (.int .i64 0) (.string ⟨#[]⟩) (.int .i64 0) := (ka.block _ hz1.lt).trans hz1
    have HC := Lib.hid (sub_r (w.heap.size + 1) w1.heap.size (w.heap.size + 1) s hs 0 _ hR2)
    rw [← HX.out] at HC
    have HZ2 := Lib.hid hz2
    have HB2 := Lib.hid ((HK.out.trans (b1.mono (Nat.le_succ _))).trans (ka.mono (by omega)))
    have HR2 := Lib.hid hR2
    have HSZ := Lib.hid s1
    clear r1 b1 s1 hz1 hR2 ka hz2
    go_wp2_with fail
    refine HC.out.mono ?_
    rintro e w3 ⟨rfl, t3⟩
    simp only at t3 ⊢
    have kv := (Below.refl w3.heap.size w3).alloc (Nat.le_refl _) (.cells #[.int .i64 xi, .string (S xc), .int .i64 xp] 63)
    have hz3 := (t3.bs HZ2.out (HR2.out.off (Nat.lt_succ_self _))).1
    obtain ⟨R3, hR3⟩ := t3.rdr
    have hR4 := hR3.below kv
    have c0 := hR4.c0
    have HEN := Lib.hid (end_any R3 l2 b2 _ hR4.2.2.2.2)
    rw [← HEV.out] at HEN
    have hz4 : BS (w3.alloc (.cells #[.int .i64 xi, .string (S xc), .int .i64 xp] 63)) w.heap.size (.int .i64 0) (.string ⟨#[]⟩) (.int .i64 0) := (kv.block _ hz3.lt).trans hz3
    have z0 := hz4.c0
    have z1 := hz4.c1
    have z2 := hz4.c2
    have fz := hz4.fz
    have HB4 := Lib.hid (sput_below ((HB2.out.trans (t3.below.mono (Nat.le_succ _))).trans (kv.mono (Nat.le_of_lt hz3.lt))) w.heap.size (Nat.le_refl _) (.int .i64 xi) (.string (S xc)) (.int .i64 xp))
    have HP := Lib.hid (hz4.put (.int .i64 xi) (.string (S xc)) (.int .i64 xp))
    clear t3 kv hz3 hR3 hR4 hz4
    go_wp2_with fail
    refine HEN.out.mono ?_
    rintro e w5 ⟨rfl, rfl⟩
    go_wp2_with fail
    refine bodyPost_ret (res_bs2 rfl _ _ w.heap.size _ _ _ (.int .i64 0) rfl HP.out rfl) rfl ?_
    exact ⟨rfl, HB4.out⟩
  · rw [if_neg h0]
    have h3 := (err_ne ev h0).1
    clear h0
    go_enter Try.func53, Try.ntmps53
    go_wp2_with fail
    refine HN.out.mono ?_
    rintro e w1 ⟨rfl, r1, b1, s1⟩
    have hz1 : BS w1 w.heap.size (.int .i64 0) (.string ⟨#[]⟩) (.int .i64 0) := (b1.block _ (Nat.lt_succ_self _)).trans HZ0.out
    have hR2 := rdr_new (w.heap.size + 1) s w1 (w.heap.size + 1) r1 (Nat.le_refl _) w1.heap.size rfl
    have ka := (Below.refl w1.heap.size w1).alloc (Nat.le_refl _) (.cells #[.pointer (some ⟨w.heap.size + 1, 0, none⟩)] 133)
    have hz2 : BS (w1.alloc (.cells #[.pointer (some ⟨w.heap.size + 1, 0, none⟩)] 133)) w.heap.size (.int .i64 0) (.string ⟨#[]⟩) (.int .i64 0) := (ka.block _ hz1.lt).trans hz1
    have HC := Lib.hid (sub_r (w.heap.size + 1) w1.heap.size (w.heap.size + 1) s hs 0 _ hR2)
    rw [← HX.out] at HC
    have HZ2 := Lib.hid hz2
    have HB2 := Lib.hid ((HK.out.trans (b1.mono (Nat.le_succ _))).trans (ka.mono (by omega)))
    have HR2 := Lib.hid hR2
    clear r1 b1 s1 hz1 hR2 ka hz2
    go_wp2_with fail
    refine HC.out.mono ?_
    rintro e w3 ⟨rfl, t3⟩
    simp only at t3 ⊢
    have kv := (Below.refl w3.heap.size w3).alloc (Nat.le_refl _) (.cells #[.int .i64 xi, .string (S xc), .int .i64 xp] 63)
    have kv2 := kv.alloc kv.size (.cells #[.int .i64 0, .string ⟨#[]⟩, .int .i64 0] 63)
    have hz3 := (t3.bs HZ2.out (HR2.out.off (Nat.lt_succ_self _))).1
    obtain ⟨R3, hR3⟩ := t3.rdr
    have hR4 := hR3.below kv
    have c0 := hR4.c0
    have HEN := Lib.hid (end_any R3 l2 b2 _ hR4.2.2.2.2)
    rw [← HEV.out] at HEN
    have hz4 : BS ((w3.alloc (.cells #[.int .i64 xi, .string (S xc), .int .i64 xp] 63)).alloc (.cells #[.int .i64 0, .string ⟨#[]⟩, .int .i64 0] 63)) w.heap.size (.int .i64 0) (.string ⟨#[]⟩) (.int .i64 0) := (kv2.block _ hz3.lt).trans hz3
    have z0 := hz4.c0
    have z1 := hz4.c1
    have z2 := hz4.c2
    have fz := hz4.fz
    have HB4 := Lib.hid (sput_below ((HB2.out.trans (t3.below.mono (Nat.le_succ _))).trans (kv2.mono (Nat.le_of_lt hz3.lt))) w.heap.size (Nat.le_refl _) (.int .i64 0) (.string ⟨#[]⟩) (.int .i64 0))
    have HP := Lib.hid (hz4.put (.int .i64 0) (.string ⟨#[]⟩) (.int .i64 0))
    clear t3 kv kv2 hz3 hR3 hR4 hz4
    go_wp2_with fail
    refine HEN.out.mono ?_
    rintro e w5 ⟨rfl, rfl⟩
    go_wp2_with fail
    refine bodyPost_ret (res_bs2 rfl _ _ w.heap.size _ _ _ (.int .i64 (ev : Int)) rfl HP.out rfl) rfl ?_
    exact ⟨rfl, HB4.out⟩

end Go.Proofs.Ytkdhchdhgmaolaa.Cd

namespace Go.Proofs.Ytkdhchdhgmaolaa.Cd
open Go.RowKit
open Pk Va
set_option linter.unusedVariables false
set_option linter.unusedSimpArgs false

set_option maxRecDepth 100000 in
set_option maxHeartbeats 4000000 in
theorem GetSub_any (s : List UInt8) (hs : s.length ≤ 2000000) (w : World) :
    Calls Try.prog 21 #[.string (S s)] w fun e w' => GetS (getS s) w e w' := by
  have kk := (Below.refl w.heap.size w).alloc (Nat.le_refl _) (.cells #[.int .i64 0, .string ⟨#[]⟩, .int .i64 0] 63)
  have hz0 : BS (w.alloc (.cells #[.int .i64 0, .string ⟨#[]⟩, .int .i64 0] 63)) w.heap.size (.int .i64 0) (.string ⟨#[]⟩) (.int .i64 0) := heap_alloc_new w _
  have HC := Lib.hid (get_sub s hs (w.alloc (.cells #[.int .i64 0, .string ⟨#[]⟩, .int .i64 0] 63)))
  have HZ0 := Lib.hid hz0
  have HK := Lib.hid kk
  clear kk hz0
  generalize getS s = X at *
  obtain ⟨⟨xi, xc, xp⟩, ev⟩ := X
  go_enter Try.func21, Try.ntmps21
  go_wp2_with fail
  refine HC.out.mono ?_
  rintro e w1 ⟨rfl, b1⟩
  have hz1 : BS w1 w.heap.size (.int .i64 0) (.string ⟨#[]⟩) (.int .i64 0) := (b1.block _ (by simp)).trans HZ0.out
  have z0 := hz1.c0
  have z1 := hz1.c1
  have z2 := hz1.c2
  have fz := hz1.fz
  have HB := Lib.hid (sput_below (HK.out.trans (b1.mono HK.out.size)) w.heap.size (Nat.le_refl _) (.int .i64 xi) (.string (S xc)) (.int .i64 xp))
  have HP := Lib.hid (hz1.put (.int .i64 xi) (.string (S xc)) (.int .i64 xp))
  clear b1 hz1
  go_wp2_with fail
  refine bodyPost_ret (res_bs2 rfl _ _ w.heap.size _ _ _ (.int .i64 (ev : Int)) rfl HP.out rfl) rfl ?_
  exact ⟨rfl, HB.out⟩

end Go.Proofs.Ytkdhchdhgmaolaa.Cd
