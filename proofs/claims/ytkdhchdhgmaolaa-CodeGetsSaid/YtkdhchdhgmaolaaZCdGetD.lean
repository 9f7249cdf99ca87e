/-
  GetDead, walked.
-/
import Derived.Test.YtkdhchdhgmaolaaZCdGetV
import Derived.Test.YtkdhchdhgmaolaaZCdRdM
namespace Go.Proofs.Ytkdhchdhgmaolaa.Cd
open Go.RowKit
open Pk Va
set_option linter.unusedVariables false
set_option linter.unusedSimpArgs false

theorem endV_zero {l : List UInt8} {b : Nat} (h : endV l b = 0) : b = 0 := by
  unfold endV at h
  split at h
  · exact h
  · omega

def getD (l : List UInt8) : DeadP × Nat := if endV (pDead l 0).2.1 (pDead l 0).2.2 = 0 then ((pDead l 0).1, 0) else (⟨0, ⟨0, [], [], []⟩, 0⟩, endV (pDead l 0).2.1 (pDead l 0).2.2)
def Dput (w : World) (H : Nat) (v0 v1 v2 v3 v4 v5 : Value) : World := ((((((w.setCell ⟨H, 0, none⟩ v0).setCell ⟨H, 1, none⟩ v1).setCell ⟨H, 2, none⟩ v2).setCell ⟨H, 3, none⟩ v3).setCell ⟨H, 4, none⟩ v4).setCell ⟨H, 5, none⟩ v5)
theorem Dput_at {w : World} {H : Nat} {z0 z1 z2 z3 z4 z5 : Value} (h : w.heap[H]? = some (.cells #[z0, z1, z2, z3, z4, z5] 51 (0, 0))) (v0 v1 v2 v3 v4 v5 : Value) : (Dput w H v0 v1 v2 v3 v4 v5).heap[H]? = some (.cells #[v0, v1, v2, v3, v4, v5] 51 (0, 0)) := by
  have h0 := heap_setCell_same _ H 0 _ _ v0 h
  simp only [List.setIfInBounds_toArray, List.set_cons_zero, List.set_cons_succ] at h0
  have h1 := heap_setCell_same _ H 1 _ _ v1 h0
  simp only [List.setIfInBounds_toArray, List.set_cons_zero, List.set_cons_succ] at h1
  have h2 := heap_setCell_same _ H 2 _ _ v2 h1
  simp only [List.setIfInBounds_toArray, List.set_cons_zero, List.set_cons_succ] at h2
  have h3 := heap_setCell_same _ H 3 _ _ v3 h2
  simp only [List.setIfInBounds_toArray, List.set_cons_zero, List.set_cons_succ] at h3
  have h4 := heap_setCell_same _ H 4 _ _ v4 h3
  simp only [List.setIfInBounds_toArray, List.set_cons_zero, List.set_cons_succ] at h4
  have h5 := heap_setCell_same _ H 5 _ _ v5 h4
  simp only [List.setIfInBounds_toArray, List.set_cons_zero, List.set_cons_succ] at h5
  exact h5
theorem Dput_below {B : Nat} {w w' : World} (h : Below B w w') (g : Nat) (hg : B ≤ g) (v0 v1 v2 v3 v4 v5 : Value) : Below B w (Dput w' g v0 v1 v2 v3 v4 v5) :=
  ((((((h.setCell (p := ⟨g, 0, none⟩) hg v0).setCell (p := ⟨g, 1, none⟩) hg v1).setCell (p := ⟨g, 2, none⟩) hg v2).setCell (p := ⟨g, 3, none⟩) hg v3).setCell (p := ⟨g, 4, none⟩) hg v4).setCell (p := ⟨g, 5, none⟩) hg v5)
theorem VRow.Dput {B r g cap : Nat} {w : World} {q : Option Addr} {d : List (V × Option Addr × Nat)} (h : VRow B r w q d cap) (hg : g < B) (hr : g ≠ r) (v0 v1 v2 v3 v4 v5 : Value) : VRow B r (Dput w g v0 v1 v2 v3 v4 v5) q d cap :=
  ((((((h.set (j := 0) hg hr v0).set (j := 1) hg hr v1).set (j := 2) hg hr v2).set (j := 3) hg hr v3).set (j := 4) hg hr v4).set (j := 5) hg hr v5)
theorem res_Dput {fn : Func} {p u : Tmp} (h : fn.results = #[.cell p 51, .tmp u]) (tmps : Array Value) (w : World) (g : Nat) (c0 c1 c2 c3 c4 c5 x : Value)
    (hp : tmps.getD p undef = .pointer (some ⟨g, 0, none⟩)) (hg : w.heap[g]? = some (.cells #[c0, c1, c2, c3, c4, c5] 51 (0, 0))) (hx : tmps.getD u undef = x) :
    (results fn tmps).run Try.prog w = .ok (.tuple #[.agg #[c0, c1, c2, c3, c4, c5], x]) w := by
  have hp' : tmps[p]?.getD undef = .pointer (some ⟨g, 0, none⟩) := by simpa using hp
  have hx' : tmps[u]?.getD undef = x := by simpa using hx
  have hr := run_loadVar_row (P := Try.prog) w g 51 51 #[c0, c1, c2, c3, c4, c5] (0, 0) _ hg Try.underlying51 rfl (by kernel_rfl)
  simp [results, h, hp', hx', asAddr, hr]
def GetD (X : DeadP × Nat) (w : World) (e : Ending) (w' : World) : Prop :=
  ∃ r ka dk kc fa df fc, e = .returned (.tuple #[.agg #[.int .i64 X.1.n, .int .i64 X.1.mail.id, .string (S X.1.mail.chan), .slice ka dk.length kc, .slice fa df.length fc, .int .i64 X.1.reason], .int .i64 (X.2 : Int)]) ∧ dk.map (·.1) = X.1.mail.key ∧ df.map (·.1) = X.1.mail.fields ∧ Below w.heap.size w w' ∧ w.heap.size + 1 ≤ r ∧ VRow (w.heap.size + 1) r w' ka dk kc ∧ VRow (w.heap.size + 1) r w' fa df fc

set_option maxRecDepth 100000 in
set_option maxHeartbeats 8000000 in
theorem get_dead (s : List UInt8) (hs : s.length ≤ 2000000) (w : World) :
    Calls Try.prog 45 #[.string (S s), .func (Fn.func 46) #[] #[]] w fun e w' => GetD (getD s) w e w' := by
  have kk := (Below.refl w.heap.size w).alloc (Nat.le_refl _) (.cells #[.int .i64 0, .int .i64 0, .string ⟨#[]⟩, .slice none 0 0, .slice none 0 0, .int .i64 0] 51)
  have hz0 : (w.alloc (.cells #[.int .i64 0, .int .i64 0, .string ⟨#[]⟩, .slice none 0 0, .slice none 0 0, .int .i64 0] 51)).heap[w.heap.size]? = some (.cells #[.int .i64 0, .int .i64 0, .string ⟨#[]⟩, .slice none 0 0, .slice none 0 0, .int .i64 0] 51 (0, 0)) := heap_alloc_new w _
  have HN := Lib.hid (new_any (S s) (w.alloc (.cells #[.int .i64 0, .int .i64 0, .string ⟨#[]⟩, .slice none 0 0, .slice none 0 0, .int .i64 0] 51)))
  rw [S_toList, show (w.alloc (.cells #[.int .i64 0, .int .i64 0, .string ⟨#[]⟩, .slice none 0 0, .slice none 0 0, .int .i64 0] 51)).heap.size = w.heap.size + 1 by simp] at HN
  unfold getD
  obtain ⟨⟨⟨xn, ⟨xi, xc, xk, xf⟩, xs⟩, l2, b2⟩, hX⟩ : ∃ x, x = pDead s 0 := ⟨_, rfl⟩
  rw [← hX]
  simp only
  have HX := Lib.hid hX
  have HZ0 := Lib.hid hz0
  have HK := Lib.hid kk
  clear kk hz0 hX
  obtain ⟨ev, hev⟩ : ∃ ev, ev = endV l2 b2 := ⟨_, rfl⟩
  rw [← hev]
  have HEV := Lib.hid hev
  clear hev
  by_cases h0 : ev = 0
  · subst h0
    rw [if_pos rfl]
    go_enter Try.func45, Try.ntmps45
    go_wp2_with fail
    refine HN.out.mono ?_
    rintro e w1 ⟨rfl, r1, b1, s1⟩
    have hz1 := (b1.block _ (Nat.lt_succ_self _)).trans HZ0.out
    have hR2 := rdr_new (w.heap.size + 1) s w1 (w.heap.size + 1) r1 (Nat.le_refl _) w1.heap.size rfl
    have ka := (Below.refl w1.heap.size w1).alloc (Nat.le_refl _) (.cells #[.pointer (some ⟨w.heap.size + 1, 0, none⟩)] 133)
    have hz2 := (ka.block _ (lt_of_heapV hz1)).trans hz1
    have HC := Lib.hid (dead_r (w.heap.size + 1) w1.heap.size (w.heap.size + 1) s hs 0 _ hR2)
    rw [← HX.out] at HC
    have HZ2 := Lib.hid hz2
    have HB2 := Lib.hid ((HK.out.trans (b1.mono (Nat.le_succ _))).trans (ka.mono (by omega)))
    have HR2 := Lib.hid hR2
    have HSZ := Lib.hid s1
    clear r1 b1 s1 hz1 hR2 ka hz2
    go_wp2_with fail
    refine HC.out.mono ?_
    rintro e w3 ⟨ka, dk, kc, fa, df, fc, sv, rfl, hsv, ek, ef, t3, vk, vf⟩
    (try simp only at hsv ek ef t3 ⊢)
    have hb2 : b2 = 0 := endV_zero HEV.out.symm
    obtain rfl := hsv hb2
    have EK := Lib.hid ek
    have EF := Lib.hid ef
    have kv := (Below.refl w3.heap.size w3).alloc (Nat.le_refl _) (.cells #[.int .i64 xn, .int .i64 xi, .string (S xc), .slice ka dk.length kc, .slice fa df.length fc, .int .i64 (sv : Int)] 51)
    have hz3 := (t3.box HZ2.out (HR2.out.off (Nat.lt_succ_self _))).1
    obtain ⟨R3, hR3⟩ := t3.rdr
    have hR4 := hR3.below kv
    have c0 := hR4.c0
    have HEN := Lib.hid (end_any R3 l2 b2 _ hR4.2.2.2.2)
    rw [← HEV.out] at HEN
    have hz4 := (kv.block _ (lt_of_heapV hz3)).trans hz3
    have hr9 := HR2.out.1
    have hr8 := HR2.out.lt
    have vk4 := (vk.below hR3 kv).mono (B' := w.heap.size + 1) (by omega)
    have vf4 := (vf.below hR3 kv).mono (B' := w.heap.size + 1) (by omega)
    have hne : w.heap.size ≠ w1.heap.size := by omega
    have z0 := cell_of_row _ w.heap.size 0 _ _ (0, 0) hz4
    have z1 := cell_of_row _ w.heap.size 1 _ _ (0, 0) hz4
    have z2 := cell_of_row _ w.heap.size 2 _ _ (0, 0) hz4
    have z3 := cell_of_row _ w.heap.size 3 _ _ (0, 0) hz4
    have z4 := cell_of_row _ w.heap.size 4 _ _ (0, 0) hz4
    have z5 := cell_of_row _ w.heap.size 5 _ _ (0, 0) hz4
    have fz := fun j => frozen_of_row _ w.heap.size j _ _ hz4
    have HB4 := Lib.hid (Dput_below ((HB2.out.trans (t3.below.mono (Nat.le_succ _))).trans (kv.mono (Nat.le_of_lt (lt_of_heapV hz3)))) w.heap.size (Nat.le_refl _) (.int .i64 xn) (.int .i64 xi) (.string (S xc)) (.slice ka dk.length kc) (.slice fa df.length fc) (.int .i64 (sv : Int)))
    have HP := Lib.hid (Dput_at hz4 (.int .i64 xn) (.int .i64 xi) (.string (S xc)) (.slice ka dk.length kc) (.slice fa df.length fc) (.int .i64 (sv : Int)))
    have HVK := Lib.hid (vk4.Dput (Nat.lt_succ_self _) hne (.int .i64 xn) (.int .i64 xi) (.string (S xc)) (.slice ka dk.length kc) (.slice fa df.length fc) (.int .i64 (sv : Int)))
    have HVF := Lib.hid (vf4.Dput (Nat.lt_succ_self _) hne (.int .i64 xn) (.int .i64 xi) (.string (S xc)) (.slice ka dk.length kc) (.slice fa df.length fc) (.int .i64 (sv : Int)))
    have HR9 := Lib.hid (show w.heap.size + 1 ≤ w1.heap.size by omega)
    clear t3 kv hz3 hR3 hR4 hz4 hne hr9 hr8 vk vf vk4 vf4 ek ef
    go_wp2_with fail
    refine HEN.out.mono ?_
    rintro e w5 ⟨rfl, rfl⟩
    go_wp2_with fail
    refine bodyPost_ret (res_Dput rfl _ _ w.heap.size _ _ _ _ _ _ (.int .i64 0) rfl HP.out rfl) rfl ?_
    exact ⟨w1.heap.size, ka, dk, kc, fa, df, fc, rfl, EK.out, EF.out, HB4.out, HR9.out, HVK.out, HVF.out⟩
  · rw [if_neg h0]
    have h3 := (err_ne ev h0).1
    clear h0
    go_enter Try.func45, Try.ntmps45
    go_wp2_with fail
    refine HN.out.mono ?_
    rintro e w1 ⟨rfl, r1, b1, s1⟩
    have hz1 := (b1.block _ (Nat.lt_succ_self _)).trans HZ0.out
    have hR2 := rdr_new (w.heap.size + 1) s w1 (w.heap.size + 1) r1 (Nat.le_refl _) w1.heap.size rfl
    have ka := (Below.refl w1.heap.size w1).alloc (Nat.le_refl _) (.cells #[.pointer (some ⟨w.heap.size + 1, 0, none⟩)] 133)
    have hz2 := (ka.block _ (lt_of_heapV hz1)).trans hz1
    have HC := Lib.hid (dead_r (w.heap.size + 1) w1.heap.size (w.heap.size + 1) s hs 0 _ hR2)
    rw [← HX.out] at HC
    have HZ2 := Lib.hid hz2
    have HB2 := Lib.hid ((HK.out.trans (b1.mono (Nat.le_succ _))).trans (ka.mono (by omega)))
    have HR2 := Lib.hid hR2
    have HSZ := Lib.hid s1
    clear r1 b1 s1 hz1 hR2 ka hz2
    go_wp2_with fail
    refine HC.out.mono ?_
    rintro e w3 ⟨ka, dk, kc, fa, df, fc, sv, rfl, hsv, ek, ef, t3, vk, vf⟩
    (try simp only at hsv ek ef t3 ⊢)
    have kv := (Below.refl w3.heap.size w3).alloc (Nat.le_refl _) (.cells #[.int .i64 xn, .int .i64 xi, .string (S xc), .slice ka dk.length kc, .slice fa df.length fc, .int .i64 (sv : Int)] 51)
    have kv2 := kv.alloc kv.size (.cells #[.int .i64 0, .int .i64 0, .string ⟨#[]⟩, .slice none 0 0, .slice none 0 0, .int .i64 0] 51)
    have hz3 := (t3.box HZ2.out (HR2.out.off (Nat.lt_succ_self _))).1
    obtain ⟨R3, hR3⟩ := t3.rdr
    have hR4 := hR3.below kv
    have c0 := hR4.c0
    have HEN := Lib.hid (end_any R3 l2 b2 _ hR4.2.2.2.2)
    rw [← HEV.out] at HEN
    have hz4 := (kv2.block _ (lt_of_heapV hz3)).trans hz3
    have z0 := cell_of_row _ w.heap.size 0 _ _ (0, 0) hz4
    have z1 := cell_of_row _ w.heap.size 1 _ _ (0, 0) hz4
    have z2 := cell_of_row _ w.heap.size 2 _ _ (0, 0) hz4
    have z3 := cell_of_row _ w.heap.size 3 _ _ (0, 0) hz4
    have z4 := cell_of_row _ w.heap.size 4 _ _ (0, 0) hz4
    have z5 := cell_of_row _ w.heap.size 5 _ _ (0, 0) hz4
    have fz := fun j => frozen_of_row _ w.heap.size j _ _ hz4
    have HB4 := Lib.hid (Dput_below ((HB2.out.trans (t3.below.mono (Nat.le_succ _))).trans (kv2.mono (Nat.le_of_lt (lt_of_heapV hz3)))) w.heap.size (Nat.le_refl _) (.int .i64 0) (.int .i64 0) (.string ⟨#[]⟩) (.slice none 0 0) (.slice none 0 0) (.int .i64 0))
    have HP := Lib.hid (Dput_at hz4 (.int .i64 0) (.int .i64 0) (.string ⟨#[]⟩) (.slice none 0 0) (.slice none 0 0) (.int .i64 0))
    clear t3 kv kv2 hz3 hR3 hR4 hz4 vk vf ek ef
    go_wp2_with fail
    refine HEN.out.mono ?_
    rintro e w5 ⟨rfl, rfl⟩
    go_wp2_with fail
    refine bodyPost_ret (res_Dput rfl _ _ w.heap.size _ _ _ _ _ _ (.int .i64 (ev : Int)) rfl HP.out rfl) rfl ?_
    exact ⟨w.heap.size + 1, none, [], 0, none, [], 0, rfl, rfl, rfl, HB4.out, Nat.le_refl _, VRow.nil _ _ _, VRow.nil _ _ _⟩
    
def GotD (X : DeadP × Nat) (w : World) (e : Ending) (w' : World) : Prop :=
  ∃ ka kc fa fc, e = .returned (.tuple #[.agg #[.int .i64 X.1.n, .int .i64 X.1.mail.id, .string (S X.1.mail.chan), .slice ka X.1.mail.key.length kc, .slice fa X.1.mail.fields.length fc, .int .i64 X.1.reason], .int .i64 (X.2 : Int)]) ∧ Below w.heap.size w w' ∧ ValsAt w' ka X.1.mail.key ∧ ValsAt w' fa X.1.mail.fields

set_option maxRecDepth 100000 in
set_option maxHeartbeats 8000000 in
theorem GetDead_any (s : List UInt8) (hs : s.length ≤ 2000000) (w : World) :
    Calls Try.prog 17 #[.string (S s)] w fun e w' => GotD (getD s) w e w' := by
  have kk := (Below.refl w.heap.size w).alloc (Nat.le_refl _) (.cells #[.int .i64 0, .int .i64 0, .string ⟨#[]⟩, .slice none 0 0, .slice none 0 0, .int .i64 0] 51)
  have hz0 : (w.alloc (.cells #[.int .i64 0, .int .i64 0, .string ⟨#[]⟩, .slice none 0 0, .slice none 0 0, .int .i64 0] 51)).heap[w.heap.size]? = some (.cells #[.int .i64 0, .int .i64 0, .string ⟨#[]⟩, .slice none 0 0, .slice none 0 0, .int .i64 0] 51 (0, 0)) := heap_alloc_new w _
  have HC := Lib.hid (get_dead s hs (w.alloc (.cells #[.int .i64 0, .int .i64 0, .string ⟨#[]⟩, .slice none 0 0, .slice none 0 0, .int .i64 0] 51)))
  have HZ0 := Lib.hid hz0
  have HK := Lib.hid kk
  clear kk hz0
  generalize getD s = X at *
  obtain ⟨⟨xn, ⟨xi, xc, xk, xf⟩, xs⟩, ev⟩ := X
  go_enter Try.func17, Try.ntmps17
  go_wp2_with fail
  refine HC.out.mono ?_
  rintro e w1 ⟨r, ka, dk, kc, fa, df, fc, rfl, ek, ef, b1, hr, vk, vf⟩
  (try simp only at ek ef ⊢)
  have hz1 := (b1.block w.heap.size (by simp)).trans HZ0.out
  have z0 := cell_of_row _ w.heap.size 0 _ _ (0, 0) hz1
  have z1 := cell_of_row _ w.heap.size 1 _ _ (0, 0) hz1
  have z2 := cell_of_row _ w.heap.size 2 _ _ (0, 0) hz1
  have z3 := cell_of_row _ w.heap.size 3 _ _ (0, 0) hz1
  have z4 := cell_of_row _ w.heap.size 4 _ _ (0, 0) hz1
  have z5 := cell_of_row _ w.heap.size 5 _ _ (0, 0) hz1
  have fz := fun j => frozen_of_row _ w.heap.size j _ _ hz1
  have hsz : (w.alloc (.cells #[.int .i64 0, .int .i64 0, .string ⟨#[]⟩, .slice none 0 0, .slice none 0 0, .int .i64 0] 51)).heap.size = w.heap.size + 1 := by simp
  rw [hsz] at hr vk vf
  have vk4 := vk.mono (B' := w.heap.size + 1) (by omega)
  have vf4 := vf.mono (B' := w.heap.size + 1) (by omega)
  have hne : w.heap.size ≠ r := by omega
  have HB := Lib.hid (Dput_below (HK.out.trans (b1.mono HK.out.size)) w.heap.size (Nat.le_refl _) (.int .i64 xn) (.int .i64 xi) (.string (S xc)) (.slice ka dk.length kc) (.slice fa df.length fc) (.int .i64 xs))
  have HP := Lib.hid (Dput_at hz1 (.int .i64 xn) (.int .i64 xi) (.string (S xc)) (.slice ka dk.length kc) (.slice fa df.length fc) (.int .i64 xs))
  have HVK := Lib.hid (vk4.Dput (Nat.lt_succ_self _) hne (.int .i64 xn) (.int .i64 xi) (.string (S xc)) (.slice ka dk.length kc) (.slice fa df.length fc) (.int .i64 xs))
  have HVF := Lib.hid (vf4.Dput (Nat.lt_succ_self _) hne (.int .i64 xn) (.int .i64 xi) (.string (S xc)) (.slice ka dk.length kc) (.slice fa df.length fc) (.int .i64 xs))
  have EK := Lib.hid ek
  have EF := Lib.hid ef
  clear b1 hr hsz hz1 hne vk vf vk4 vf4 ek ef
  go_wp2_with fail
  refine bodyPost_ret (res_Dput rfl _ _ w.heap.size _ _ _ _ _ _ (.int .i64 (ev : Int)) rfl HP.out rfl) rfl ?_
  have e1 := EK.out
  have e2 := EF.out
  (try simp only at e1 e2)
  have hv := HVK.out.vals
  have hm := HVF.out.vals
  rw [e1] at hv
  rw [e2] at hm
  exact ⟨ka, kc, fa, fc, by simp only; rw [← e1, ← e2, List.length_map, List.length_map], HB.out, hv, hm⟩

end Go.Proofs.Ytkdhchdhgmaolaa.Cd
