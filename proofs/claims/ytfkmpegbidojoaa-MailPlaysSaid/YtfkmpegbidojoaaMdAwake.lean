/-
  The chapter's example of a box of messages; calls on a box that is none.
-/
import Derived.Test.YtfkmpegbidojoaaMdFill
namespace Go.Proofs.Ytfkmpegbidojoaa.Md
open Go.RowKit
open Va
set_option linter.unusedVariables false
set_option linter.unusedSimpArgs false

set_option maxRecDepth 100000 in
theorem take_nil (w : World) : Calls Try.prog 10 #[.pointer none] w fun e w' => e = .returned (.tuple #[zM, .bool false]) ∧ Below w.heap.size w w' := by
  have h1 : (w.alloc (.cells #[.int .i64 0, .string ⟨#[]⟩, .slice none 0 0, .slice none 0 0] 30)).heap[w.heap.size]? = _ := heap_alloc_new w _
  have kk := (Below.refl w.heap.size w).alloc (Nat.le_refl _) (.cells #[.int .i64 0, .string ⟨#[]⟩, .slice none 0 0, .slice none 0 0] 30)
  obtain ⟨W1, hW1⟩ : ∃ W1, W1 = w.alloc (.cells #[.int .i64 0, .string ⟨#[]⟩, .slice none 0 0, .slice none 0 0] 30) := ⟨_, rfl⟩
  have HW := Lib.hid hW1
  rw [← hW1] at h1 kk
  have e1 : BM W1 w.heap.size (.int .i64 0) (.string ⟨#[]⟩) (.slice none 0 0) (.slice none 0 0) := h1
  have HE := Lib.hid e1
  have HK := Lib.hid kk
  have z0 := e1.c0
  have z1 := e1.c1
  have z2 := e1.c2
  have z3 := e1.c3
  have f0 := e1.fz 0
  have f1 := e1.fz 1
  have f2 := e1.fz 2
  have f3 := e1.fz 3
  rw [hW1] at z0 z1 z2 z3 f0 f1 f2 f3
  clear hW1 h1 kk e1
  go_enter Try.func10, Try.ntmps10
  go_wp2_with fail
  rw [← HW.out]
  refine bodyPost_ret (v := .tuple #[zM, .bool false]) (res_bm2 rfl _ _ w.heap.size _ _ _ _ _ rfl HE.out rfl) rfl ?_
  exact ⟨rfl, HK.out⟩
set_option maxRecDepth 100000 in
theorem all_nil (w : World) : Calls Try.prog 14 #[.pointer none] w fun e w' => e = .returned (.slice none 0 0) ∧ w = w' := by
  have HL := Lib.hid (len_nil w)
  go_enter Try.func14, Try.ntmps14
  go_wp2_with fail
  refine HL.out.mono ?_
  rintro e w1 ⟨rfl, rfl⟩
  go_wp2_with fail
  refine wp_loop_rounds 1 ?_
  rw [rounds_succ]
  go_wp2_with fail
  go_ret
  exact ⟨rfl, rfl⟩

theorem map_two {d : List MK} {a b : MailP} (h : d.map (·.m) = [a, b]) : ∃ y0 y1, d = [y0, y1] ∧ y0.m = a ∧ y1.m = b := by
  cases d with
  | nil => cases h
  | cons y0 r =>
    cases r with
    | nil => cases h
    | cons y1 r2 =>
      cases r2 with
      | nil => injection h with h1 h2; injection h2 with h2 _; exact ⟨y0, y1, rfl, h1, h2⟩
      | cons z s => cases h
theorem mini_big (n : Int) (hn : Num64 n) : MBig ⟨n, [], [], []⟩ := ⟨hn, fun v hv => by simp at hv, fun v hv => by simp at hv, by simp, by simp, by simp⟩
theorem offer_num {lo b c cap : Nat} {w : World} {l : List MailP} (h : BoxAt lo w b c cap l) (n : Int) (hn : Num64 n) :
    Calls Try.prog 15 #[.pointer (some ⟨b, 0, none⟩), .agg #[.int .i64 n, .string ⟨#[]⟩, .slice none 0 0, .slice none 0 0]] w fun e w' => (e = .returned (.bool (decide (l.length < cap))) ∧ BoxAt lo w' b c cap (if l.length < cap then l ++ [⟨n, [], [], []⟩] else l)) ∧ Onl c w w' :=
  offer_any h ⟨n, [], [], []⟩ (mini_big n hn) (by simp) (by simp) none 0 none 0 (fun i hi => absurd hi (by simp)) (fun i hi => absurd hi (by simp))
theorem n64 (n : Int) (h : 0 ≤ n) (h2 : n ≤ 1000) : Num64 n := ⟨by omega, by omega⟩

set_option maxRecDepth 100000 in
set_option maxHeartbeats 8000000 in
theorem awake18_any (w : World) : Calls Try.prog 6 #[] w fun e w' => e = .returned (.bool true) ∧ Below w.heap.size w w' := by
  have HN := Lib.hid (new_any 2 (n64 2 (by omega) (by omega)) w)
  rw [show capN 2 = 2 by decide] at HN
  go_enter Try.func6, Try.ntmps6
  go_wp2_with fail
  refine HN.out.mono ?_
  rintro e w1 ⟨⟨rfl, h1⟩, b1⟩
  have H1 := Lib.hid h1
  have B1 := Lib.hid b1
  clear h1 b1 HN
  go_wp2_with fail
  refine (offer_num H1.out 1 (n64 1 (by omega) (by omega))).mono ?_
  rintro e w2 ⟨⟨rfl, h2⟩, o2⟩
  have H2 := Lib.hid (show BoxAt w.heap.size w2 (w.heap.size + 1) w.heap.size 2 [⟨1, [], [], []⟩] from h2)
  have O2 := Lib.hid (o2.then B1.out (Nat.le_refl _) B1.out.size)
  clear h2 o2
  go_wp2_with fail
  refine (offer_num H2.out 2 (n64 2 (by omega) (by omega))).mono ?_
  rintro e w3 ⟨⟨rfl, h3⟩, o3⟩
  have H3 := Lib.hid (show BoxAt w.heap.size w3 (w.heap.size + 1) w.heap.size 2 [⟨1, [], [], []⟩, ⟨2, [], [], []⟩] from h3)
  have O3 := Lib.hid (o3.then O2.out (Nat.le_refl _) O2.out.size)
  clear h3 o3
  go_wp2_with fail
  refine (offer_num H3.out 3 (n64 3 (by omega) (by omega))).mono ?_
  rintro e w4 ⟨⟨rfl, h4⟩, o4⟩
  have H4 := Lib.hid (show BoxAt w.heap.size w4 (w.heap.size + 1) w.heap.size 2 [⟨1, [], [], []⟩, ⟨2, [], [], []⟩] from h4)
  have O4 := Lib.hid (o4.then O3.out (Nat.le_refl _) O3.out.size)
  clear h4 o4
  go_wp2_with fail
  refine (take_any H4.out).mono ?_
  rintro e w5 ⟨⟨ka, kc, fa, fc, rfl, _, _, h5⟩, o5⟩
  have H5 := Lib.hid h5
  have O5 := Lib.hid (o5.then O4.out (Nat.le_refl _) O4.out.size)
  clear h5 o5
  unfold mV
  simp only [List.length_nil, List.length_cons]
  go_wp2_with fail
  have k5 := (Below.refl w5.heap.size w5).alloc (Nat.le_refl _) (.cells #[.int .i64 1, .string (S []), .slice ka 0 kc, .slice fa 0 fc] 30)
  have m6 : BM (w5.alloc (.cells #[.int .i64 1, .string (S []), .slice ka 0 kc, .slice fa 0 fc] 30)) w5.heap.size (.int .i64 1) (.string (S [])) (.slice ka 0 kc) (.slice fa 0 fc) := heap_alloc_new w5 _
  obtain ⟨W6, hW6⟩ : ∃ W6, W6 = w5.alloc (.cells #[.int .i64 1, .string (S []), .slice ka 0 kc, .slice fa 0 fc] 30) := ⟨_, rfl⟩
  rw [← hW6] at m6 k5 ⊢
  have O6 := Lib.hid (O5.out.trans (k5.mono O5.out.size))
  have H6 := Lib.hid (H5.out.below k5)
  have M6 := Lib.hid m6
  clear hW6 m6 k5
  refine (offer_num H6.out 3 (n64 3 (by omega) (by omega))).mono ?_
  rintro e w7 ⟨⟨rfl, h7⟩, o7⟩
  have H7 := Lib.hid (show BoxAt w.heap.size w7 (w.heap.size + 1) w.heap.size 2 [⟨2, [], [], []⟩, ⟨3, [], [], []⟩] from h7)
  have O7 := Lib.hid (o7.then O6.out (Nat.le_refl _) O6.out.size)
  have hne : w5.heap.size ≠ w.heap.size := fun e => by
    obtain ⟨buf, s, r, hc, _⟩ := H6.out.chan
    exact not_chan hc 30 (e ▸ M6.out.blk)
  have M7 := Lib.hid (show BM w7 w5.heap.size _ _ _ _ from (o7.block _ M6.out.lt hne).trans M6.out)
  clear h7 o7 M6
  go_wp2_with fail
  refine (all_any H7.out (fun m hm => by
    simp only [List.mem_cons, List.not_mem_nil, or_false] at hm
    rcases hm with rfl | rfl
    · exact ⟨mini_big 2 (n64 2 (by omega) (by omega)), by simp, by simp⟩
    · exact ⟨mini_big 3 (n64 3 (by omega) (by omega)), by simp, by simp⟩)).mono ?_
  rintro e w8 ⟨⟨⟨q, d, cp, rfl, hd, hout⟩, _⟩, o8⟩
  have O8 := Lib.hid (o8.then O7.out (Nat.le_refl _) O7.out.size)
  have m8 := (o8.block _ M7.out.lt hne).trans M7.out
  have p0 : w8.cell? ⟨w5.heap.size, 0, none⟩ = some (.int .i64 1) := cell_of_row w8 _ 0 _ _ (0, 0) m8
  obtain ⟨y0, y1, rfl, hd2⟩ := map_two hd
  obtain ⟨g, rfl, _, _, q0, _⟩ := hout.cell 0 (by simp)
  obtain ⟨g', e', _, _, q1, _⟩ := hout.cell 1 (by simp)
  obtain rfl : g = g' := by injection e' with e'; injection e'
  simp only [List.getElem_cons_zero, List.getElem_cons_succ, hd2.1, hd2.2] at q0 q1
  clear hd hout e' m8 o8 hne
  simp only [List.length_cons, List.length_nil]
  go_wp2_with fail
  go_ret
  exact ⟨rfl, O8.out⟩

end Go.Proofs.Ytfkmpegbidojoaa.Md
