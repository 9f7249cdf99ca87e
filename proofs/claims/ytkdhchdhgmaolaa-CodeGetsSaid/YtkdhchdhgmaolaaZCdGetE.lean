/-
  GetEvent, walked.
-/
import Derived.Test.YtkdhchdhgmaolaaZCdGetV
import Derived.Test.YtkdhchdhgmaolaaZCdRdL
namespace Go.Proofs.Ytkdhchdhgmaolaa.Cd
open Go.RowKit
open Pk Va
set_option linter.unusedVariables false
set_option linter.unusedSimpArgs false

def getE (l : List UInt8) : EventP × Nat := if endV (pEvent l 0).2.1 (pEvent l 0).2.2 = 0 then ((pEvent l 0).1, 0) else (⟨0, 0, [], 0, [], [], []⟩, endV (pEvent l 0).2.1 (pEvent l 0).2.2)
def Eput (w : World) (H : Nat) (v0 v1 v2 v3 v4 v5 v6 : Value) : World := (((((((w.setCell ⟨H, 0, none⟩ v0).setCell ⟨H, 1, none⟩ v1).setCell ⟨H, 2, none⟩ v2).setCell ⟨H, 3, none⟩ v3).setCell ⟨H, 4, none⟩ v4).setCell ⟨H, 5, none⟩ v5).setCell ⟨H, 6, none⟩ v6)
theorem Eput_at {w : World} {H : Nat} {z0 z1 z2 z3 z4 z5 z6 : Value} (h : w.heap[H]? = some (.cells #[z0, z1, z2, z3, z4, z5, z6] 57 (0, 0))) (v0 v1 v2 v3 v4 v5 v6 : Value) : (Eput w H v0 v1 v2 v3 v4 v5 v6).heap[H]? = some (.cells #[v0, v1, v2, v3, v4, v5, v6] 57 (0, 0)) := by
  have h0 := heap_setCell_same _ H 0 _ _ v0 h
  simp only [List.setIfInBounds_toArray, List.set_cons_zero, List.set_cons_succ] at h0
  have h1 := heap_setCell_same _ H 1 _ _ v1 h0
  simp only [List.setIfInBounds_toArray, List.set_cons_zero, List.set_cons_succ] at h1
  have h2 := heap_setCell_same _ H 2 _ _ v2 h1
  simp only [List.setIfInBounds_toArray, List.set_cons_zero, List.set_cons_succ] at h2
  have h3 := heap_setCell_same _ H 3 _ _ v3 h2
  simp only [List.setIfInBounds_toArray, List.set_cons_zero, List.set_cons_succ] at h3
  have h4 := heap_setCell_same _ H 4 _ _ v4 h3
  simp only [List.setIfInBounds_toArray, List.set_cons_zero, List.set_cons_succ] at h4
  have h5 := heap_setCell_same _ H 5 _ _ v5 h4
  simp only [List.setIfInBounds_toArray, List.set_cons_zero, List.set_cons_succ] at h5
  have h6 := heap_setCell_same _ H 6 _ _ v6 h5
  simp only [List.setIfInBounds_toArray, List.set_cons_zero, List.set_cons_succ] at h6
  exact h6
theorem Eput_below {B : Nat} {w w' : World} (h : Below B w w') (g : Nat) (hg : B ≤ g) (v0 v1 v2 v3 v4 v5 v6 : Value) : Below B w (Eput w' g v0 v1 v2 v3 v4 v5 v6) :=
  (((((((h.setCell (p := ⟨g, 0, none⟩) hg v0).setCell (p := ⟨g, 1, none⟩) hg v1).setCell (p := ⟨g, 2, none⟩) hg v2).setCell (p := ⟨g, 3, none⟩) hg v3).setCell (p := ⟨g, 4, none⟩) hg v4).setCell (p := ⟨g, 5, none⟩) hg v5).setCell (p := ⟨g, 6, none⟩) hg v6)
theorem VRow.Eput {B r g cap : Nat} {w : World} {q : Option Addr} {d : List (V × Option Addr × Nat)} (h : VRow B r w q d cap) (hg : g < B) (hr : g ≠ r) (v0 v1 v2 v3 v4 v5 v6 : Value) : VRow B r (Eput w g v0 v1 v2 v3 v4 v5 v6) q d cap :=
  (((((((h.set (j := 0) hg hr v0).set (j := 1) hg hr v1).set (j := 2) hg hr v2).set (j := 3) hg hr v3).set (j := 4) hg hr v4).set (j := 5) hg hr v5).set (j := 6) hg hr v6)
theorem res_Eput {fn : Func} {p u : Tmp} (h : fn.results = #[.cell p 57, .tmp u]) (tmps : Array Value) (w : World) (g : Nat) (c0 c1 c2 c3 c4 c5 c6 x : Value)
    (hp : tmps.getD p undef = .pointer (some ⟨g, 0, none⟩)) (hg : w.heap[g]? = some (.cells #[c0, c1, c2, c3, c4, c5, c6] 57 (0, 0))) (hx : tmps.getD u undef = x) :
    (results fn tmps).run Try.prog w = .ok (.tuple #[.agg #[c0, c1, c2, c3, c4, c5, c6], x]) w := by
  have hp' : tmps[p]?.getD undef = .pointer (some ⟨g, 0, none⟩) := by simpa using hp
  have hx' : tmps[u]?.getD undef = x := by simpa using hx
  have hr := run_loadVar_row (P := Try.prog) w g 57 57 #[c0, c1, c2, c3, c4, c5, c6] (0, 0) _ hg Try.underlying57 rfl (by kernel_rfl)
  simp [results, h, hp', hx', asAddr, hr]
def GetE (X : EventP × Nat) (w : World) (e : Ending) (w' : World) : Prop :=
  ∃ r qv dv cv, e = .returned (.tuple #[.agg #[.int .i64 X.1.n, .int .i64 X.1.tick, .string (S X.1.name), .int .i64 X.1.item, .string (S X.1.typ), .string (S X.1.state), .slice qv dv.length cv], .int .i64 (X.2 : Int)]) ∧ dv.map (·.1) = X.1.attrs ∧ Below w.heap.size w w' ∧ w.heap.size + 1 ≤ r ∧ VRow (w.heap.size + 1) r w' qv dv cv

set_option maxRecDepth 100000 in
set_option maxHeartbeats 8000000 in
theorem get_event (s : List UInt8) (hs : s.length ≤ 2000000) (w : World) :
    Calls Try.prog 49 #[.string (S s), .func (Fn.func 50) #[] #[]] w fun e w' => GetE (getE s) w e w' := by
  have kk := (Below.refl w.heap.size w).alloc (Nat.le_refl _) (.cells #[.int .i64 0, .int .i64 0, .string ⟨#[]⟩, .int .i64 0, .string ⟨#[]⟩, .string ⟨#[]⟩, .slice none 0 0] 57)
  have hz0 : (w.alloc (.cells #[.int .i64 0, .int .i64 0, .string ⟨#[]⟩, .int .i64 0, .string ⟨#[]⟩, .string ⟨#[]⟩, .slice none 0 0] 57)).heap[w.heap.size]? = some (.cells #[.int .i64 0, .int .i64 0, .string ⟨#[]⟩, .int .i64 0, .string ⟨#[]⟩, .string ⟨#[]⟩, .slice none 0 0] 57 (0, 0)) := heap_alloc_new w _
  have HN := Lib.hid (new_any (S s) (w.alloc (.cells #[.int .i64 0, .int .i64 0, .string ⟨#[]⟩, .int .i64 0, .string ⟨#[]⟩, .string ⟨#[]⟩, .slice none 0 0] 57)))
  rw [S_toList, show (w.alloc (.cells #[.int .i64 0, .int .i64 0, .string ⟨#[]⟩, .int .i64 0, .string ⟨#[]⟩, .string ⟨#[]⟩, .slice none 0 0] 57)).heap.size = w.heap.size + 1 by simp] at HN
  unfold getE
  obtain ⟨⟨⟨xn, xt, xa, xi, xy, xz, xv⟩, l2, b2⟩, hX⟩ : ∃ x, x = pEvent s 0 := ⟨_, rfl⟩
  rw [← hX]
  simp only
  have HX := Lib.hid hX
  have HZ0 := Lib.hid hz0
  have HK := Lib.hid kk
  clear kk hz0 hX
  obtain ⟨ev, hev⟩ : ∃ ev, ev = endV l2 b2 := ⟨_, rfl⟩
  rw [← hev]
  have HEV := Lib.hid hev
  clear hev
  by_cases h0 : ev = 0
  · subst h0
    rw [if_pos rfl]
    go_enter Try.func49, Try.ntmps49
    go_wp2_with fail
    refine HN.out.mono ?_
    rintro e w1 ⟨rfl, r1, b1, s1⟩
    have hz1 := (b1.block _ (Nat.lt_succ_self _)).trans HZ0.out
    have hR2 := rdr_new (w.heap.size + 1) s w1 (w.heap.size + 1) r1 (Nat.le_refl _) w1.heap.size rfl
    have ka := (Below.refl w1.heap.size w1).alloc (Nat.le_refl _) (.cells #[.pointer (some ⟨w.heap.size + 1, 0, none⟩)] 133)
    have hz2 := (ka.block _ (lt_of_heapV hz1)).trans hz1
    have HC := Lib.hid (event_r (w.heap.size + 1) w1.heap.size (w.heap.size + 1) s hs 0 _ hR2)
    rw [← HX.out] at HC
    have HZ2 := Lib.hid hz2
    have HB2 := Lib.hid ((HK.out.trans (b1.mono (Nat.le_succ _))).trans (ka.mono (by omega)))
    have HR2 := Lib.hid hR2
    have HSZ := Lib.hid s1
    clear r1 b1 s1 hz1 hR2 ka hz2
    go_wp2_with fail
    refine HC.out.mono ?_
    rintro e w3 ⟨qv, dv, cv, rfl, t3, ev2, vv⟩
    (try simp only at t3 ev2 vv ⊢)
    have EV2 := Lib.hid ev2
    have kv := (Below.refl w3.heap.size w3).alloc (Nat.le_refl _) (.cells #[.int .i64 xn, .int .i64 xt, .string (S xa), .int .i64 xi, .string (S xy), .string (S xz), .slice qv dv.length cv] 57)
    have hz3 := (t3.box HZ2.out (HR2.out.off (Nat.lt_succ_self _))).1
    obtain ⟨R3, hR3⟩ := t3.rdr
    have hR4 := hR3.below kv
    have c0 := hR4.c0
    have HEN := Lib.hid (end_any R3 l2 b2 _ hR4.2.2.2.2)
    rw [← HEV.out] at HEN
    have hz4 := (kv.block _ (lt_of_heapV hz3)).trans hz3
    have hr9 := HR2.out.1
    have hr8 := HR2.out.lt
    have vv4 := (vv.below hR3 kv).mono (B' := w.heap.size + 1) (by omega)
    have hne : w.heap.size ≠ w1.heap.size := by omega
    have z0 := cell_of_row _ w.heap.size 0 _ _ (0, 0) hz4
    have z1 := cell_of_row _ w.heap.size 1 _ _ (0, 0) hz4
    have z2 := cell_of_row _ w.heap.size 2 _ _ (0, 0) hz4
    have z3 := cell_of_row _ w.heap.size 3 _ _ (0, 0) hz4
    have z4 := cell_of_row _ w.heap.size 4 _ _ (0, 0) hz4
    have z5 := cell_of_row _ w.heap.size 5 _ _ (0, 0) hz4
    have z6 := cell_of_row _ w.heap.size 6 _ _ (0, 0) hz4
    have fz := fun j => frozen_of_row _ w.heap.size j _ _ hz4
    have HB4 := Lib.hid (Eput_below ((HB2.out.trans (t3.below.mono (Nat.le_succ _))).trans (kv.mono (Nat.le_of_lt (lt_of_heapV hz3)))) w.heap.size (Nat.le_refl _) (.int .i64 xn) (.int .i64 xt) (.string (S xa)) (.int .i64 xi) (.string (S xy)) (.string (S xz)) (.slice qv dv.length cv))
    have HP := Lib.hid (Eput_at hz4 (.int .i64 xn) (.int .i64 xt) (.string (S xa)) (.int .i64 xi) (.string (S xy)) (.string (S xz)) (.slice qv dv.length cv))
    have HVV := Lib.hid (vv4.Eput (Nat.lt_succ_self _) hne (.int .i64 xn) (.int .i64 xt) (.string (S xa)) (.int .i64 xi) (.string (S xy)) (.string (S xz)) (.slice qv dv.length cv))
    have HR9 := Lib.hid (show w.heap.size + 1 ≤ w1.heap.size by omega)
    clear t3 kv hz3 hR3 hR4 hz4 hne hr9 hr8 vv vv4 ev2
    go_wp2_with fail
    refine HEN.out.mono ?_
    rintro e w5 ⟨rfl, rfl⟩
    go_wp2_with fail
    refine bodyPost_ret (res_Eput rfl _ _ w.heap.size _ _ _ _ _ _ _ (.int .i64 0) rfl HP.out rfl) rfl ?_
    exact ⟨w1.heap.size, qv, dv, cv, rfl, EV2.out, HB4.out, HR9.out, HVV.out⟩
  · rw [if_neg h0]
    have h3 := (err_ne ev h0).1
    clear h0
    go_enter Try.func49, Try.ntmps49
    go_wp2_with fail
    refine HN.out.mono ?_
    rintro e w1 ⟨rfl, r1, b1, s1⟩
    have hz1 := (b1.block _ (Nat.lt_succ_self _)).trans HZ0.out
    have hR2 := rdr_new (w.heap.size + 1) s w1 (w.heap.size + 1) r1 (Nat.le_refl _) w1.heap.size rfl
    have ka := (Below.refl w1.heap.size w1).alloc (Nat.le_refl _) (.cells #[.pointer (some ⟨w.heap.size + 1, 0, none⟩)] 133)
    have hz2 := (ka.block _ (lt_of_heapV hz1)).trans hz1
    have HC := Lib.hid (event_r (w.heap.size + 1) w1.heap.size (w.heap.size + 1) s hs 0 _ hR2)
    rw [← HX.out] at HC
    have HZ2 := Lib.hid hz2
    have HB2 := Lib.hid ((HK.out.trans (b1.mono (Nat.le_succ _))).trans (ka.mono (by omega)))
    have HR2 := Lib.hid hR2
    have HSZ := Lib.hid s1
    clear r1 b1 s1 hz1 hR2 ka hz2
    go_wp2_with fail
    refine HC.out.mono ?_
    rintro e w3 ⟨qv, dv, cv, rfl, t3, ev2, vv⟩
    (try simp only at t3 ev2 vv ⊢)
    have kv := (Below.refl w3.heap.size w3).alloc (Nat.le_refl _) (.cells #[.int .i64 xn, .int .i64 xt, .string (S xa), .int .i64 xi, .string (S xy), .string (S xz), .slice qv dv.length cv] 57)
    have kv2 := kv.alloc kv.size (.cells #[.int .i64 0, .int .i64 0, .string ⟨#[]⟩, .int .i64 0, .string ⟨#[]⟩, .string ⟨#[]⟩, .slice none 0 0] 57)
    have hz3 := (t3.box HZ2.out (HR2.out.off (Nat.lt_succ_self _))).1
    obtain ⟨R3, hR3⟩ := t3.rdr
    have hR4 := hR3.below kv
    have c0 := hR4.c0
    have HEN := Lib.hid (end_any R3 l2 b2 _ hR4.2.2.2.2)
    rw [← HEV.out] at HEN
    have hz4 := (kv2.block _ (lt_of_heapV hz3)).trans hz3
    have z0 := cell_of_row _ w.heap.size 0 _ _ (0, 0) hz4
    have z1 := cell_of_row _ w.heap.size 1 _ _ (0, 0) hz4
    have z2 := cell_of_row _ w.heap.size 2 _ _ (0, 0) hz4
    have z3 := cell_of_row _ w.heap.size 3 _ _ (0, 0) hz4
    have z4 := cell_of_row _ w.heap.size 4 _ _ (0, 0) hz4
    have z5 := cell_of_row _ w.heap.size 5 _ _ (0, 0) hz4
    have z6 := cell_of_row _ w.heap.size 6 _ _ (0, 0) hz4
    have fz := fun j => frozen_of_row _ w.heap.size j _ _ hz4
    have HB4 := Lib.hid (Eput_below ((HB2.out.trans (t3.below.mono (Nat.le_succ _))).trans (kv2.mono (Nat.le_of_lt (lt_of_heapV hz3)))) w.heap.size (Nat.le_refl _) (.int .i64 0) (.int .i64 0) (.string ⟨#[]⟩) (.int .i64 0) (.string ⟨#[]⟩) (.string ⟨#[]⟩) (.slice none 0 0))
    have HP := Lib.hid (Eput_at hz4 (.int .i64 0) (.int .i64 0) (.string ⟨#[]⟩) (.int .i64 0) (.string ⟨#[]⟩) (.string ⟨#[]⟩) (.slice none 0 0))
    clear t3 kv kv2 hz3 hR3 hR4 hz4 vv ev2
    go_wp2_with fail
    refine HEN.out.mono ?_
    rintro e w5 ⟨rfl, rfl⟩
    go_wp2_with fail
    refine bodyPost_ret (res_Eput rfl _ _ w.heap.size _ _ _ _ _ _ _ (.int .i64 (ev : Int)) rfl HP.out rfl) rfl ?_
    exact ⟨w.heap.size + 1, none, [], 0, rfl, rfl, HB4.out, Nat.le_refl _, VRow.nil _ _ _⟩
    
def GotE (X : EventP × Nat) (w : World) (e : Ending) (w' : World) : Prop :=
  ∃ aa ac, e = .returned (.tuple #[.agg #[.int .i64 X.1.n, .int .i64 X.1.tick, .string (S X.1.name), .int .i64 X.1.item, .string (S X.1.typ), .string (S X.1.state), .slice aa X.1.attrs.length ac], .int .i64 (X.2 : Int)]) ∧ Below w.heap.size w w' ∧ ValsAt w' aa X.1.attrs

set_option maxRecDepth 100000 in
set_option maxHeartbeats 8000000 in
theorem GetEvent_any (s : List UInt8) (hs : s.length ≤ 2000000) (w : World) :
    Calls Try.prog 19 #[.string (S s)] w fun e w' => GotE (getE s) w e w' := by
  have kk := (Below.refl w.heap.size w).alloc (Nat.le_refl _) (.cells #[.int .i64 0, .int .i64 0, .string ⟨#[]⟩, .int .i64 0, .string ⟨#[]⟩, .string ⟨#[]⟩, .slice none 0 0] 57)
  have hz0 : (w.alloc (.cells #[.int .i64 0, .int .i64 0, .string ⟨#[]⟩, .int .i64 0, .string ⟨#[]⟩, .string ⟨#[]⟩, .slice none 0 0] 57)).heap[w.heap.size]? = some (.cells #[.int .i64 0, .int .i64 0, .string ⟨#[]⟩, .int .i64 0, .string ⟨#[]⟩, .string ⟨#[]⟩, .slice none 0 0] 57 (0, 0)) := heap_alloc_new w _
  have HC := Lib.hid (get_event s hs (w.alloc (.cells #[.int .i64 0, .int .i64 0, .string ⟨#[]⟩, .int .i64 0, .string ⟨#[]⟩, .string ⟨#[]⟩, .slice none 0 0] 57)))
  have HZ0 := Lib.hid hz0
  have HK := Lib.hid kk
  clear kk hz0
  generalize getE s = X at *
  obtain ⟨⟨xn, xt, xa, xi, xy, xz, xv⟩, ev⟩ := X
  go_enter Try.func19, Try.ntmps19
  go_wp2_with fail
  refine HC.out.mono ?_
  rintro e w1 ⟨r, qv, dv, cv, rfl, ev2, b1, hr, vv⟩
  (try simp only at ev2 ⊢)
  have hz1 := (b1.block w.heap.size (by simp)).trans HZ0.out
  have z0 := cell_of_row _ w.heap.size 0 _ _ (0, 0) hz1
  have z1 := cell_of_row _ w.heap.size 1 _ _ (0, 0) hz1
  have z2 := cell_of_row _ w.heap.size 2 _ _ (0, 0) hz1
  have z3 := cell_of_row _ w.heap.size 3 _ _ (0, 0) hz1
  have z4 := cell_of_row _ w.heap.size 4 _ _ (0, 0) hz1
  have z5 := cell_of_row _ w.heap.size 5 _ _ (0, 0) hz1
  have z6 := cell_of_row _ w.heap.size 6 _ _ (0, 0) hz1
  have fz := fun j => frozen_of_row _ w.heap.size j _ _ hz1
  have hsz : (w.alloc (.cells #[.int .i64 0, .int .i64 0, .string ⟨#[]⟩, .int .i64 0, .string ⟨#[]⟩, .string ⟨#[]⟩, .slice none 0 0] 57)).heap.size = w.heap.size + 1 := by simp
  rw [hsz] at hr vv
  have vv4 := vv.mono (B' := w.heap.size + 1) (by omega)
  have hne : w.heap.size ≠ r := by omega
  have HB := Lib.hid (Eput_below (HK.out.trans (b1.mono HK.out.size)) w.heap.size (Nat.le_refl _) (.int .i64 xn) (.int .i64 xt) (.string (S xa)) (.int .i64 xi) (.string (S xy)) (.string (S xz)) (.slice qv dv.length cv))
  have HP := Lib.hid (Eput_at hz1 (.int .i64 xn) (.int .i64 xt) (.string (S xa)) (.int .i64 xi) (.string (S xy)) (.string (S xz)) (.slice qv dv.length cv))
  have HVV := Lib.hid (vv4.Eput (Nat.lt_succ_self _) hne (.int .i64 xn) (.int .i64 xt) (.string (S xa)) (.int .i64 xi) (.string (S xy)) (.string (S xz)) (.slice qv dv.length cv))
  have EV2 := Lib.hid ev2
  clear b1 hr hsz hz1 hne vv vv4 ev2
  go_wp2_with fail
  refine bodyPost_ret (res_Eput rfl _ _ w.heap.size _ _ _ _ _ _ _ (.int .i64 (ev : Int)) rfl HP.out rfl) rfl ?_
  have e1 := EV2.out
  (try simp only at e1)
  have hv := HVV.out.vals
  rw [e1] at hv
  exact ⟨qv, cv, by simp only; rw [← e1, List.length_map], HB.out, hv⟩

end Go.Proofs.Ytkdhchdhgmaolaa.Cd
