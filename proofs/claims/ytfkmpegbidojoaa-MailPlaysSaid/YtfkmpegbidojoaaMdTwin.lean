/-
  The twin of a message, walked.
-/
import Derived.Test.YtfkmpegbidojoaaMdBox
import Derived.Test.YtfkmpegbidojoaaUntil
namespace Go.Proofs.Ytfkmpegbidojoaa.Md
open Go.RowKit
open Va
set_option linter.unusedVariables false
set_option linter.unusedSimpArgs false

theorem VBig.tw {v : V} (h : VBig v) : VTw v := ⟨h.text, h.list⟩

set_option maxRecDepth 100000 in
set_option maxHeartbeats 4000000 in
theorem mtwin_any (m : MailP) (hm : MBig m) (hk : m.key.length ≤ 1000) (hf : m.fields.length ≤ 1000) (ka : Option Addr) (kc : Nat) (fa : Option Addr) (fc : Nat) (w : World) (hka : ValsAt w ka m.key) (hfa : ValsAt w fa m.fields) :
    Calls Try.prog 33 #[mV m ka kc fa fc] w fun e w' => (∃ ka' kc' fa' fc', e = .returned (mV m ka' kc' fa' fc') ∧ TwR w.heap.size w' ka' m.key ∧ TwR w.heap.size w' fa' m.fields) ∧ Below w.heap.size w w' := by
  obtain ⟨W0, hW0⟩ : ∃ W0, W0 = (w.alloc (.cells #[.int .i64 m.id, .string (S m.chan), .slice ka m.key.length kc, .slice fa m.fields.length fc] 30)).alloc (.cells #[.int .i64 0, .string ⟨#[]⟩, .slice none 0 0, .slice none 0 0] 30) := ⟨_, rfl⟩
  have hb : Below w.heap.size w W0 := by rw [hW0]; exact ((Below.refl w.heap.size w).alloc (Nat.le_refl _) _).alloc (by simp) _
  have e0 : BM W0 w.heap.size (.int .i64 m.id) (.string (S m.chan)) (.slice ka m.key.length kc) (.slice fa m.fields.length fc) := by rw [hW0]; exact (((Below.refl _ _).alloc (Nat.le_refl _) _).block _ (by simp)).trans (heap_alloc_new w _)
  have e1 : BM W0 (w.heap.size + 1) (.int .i64 0) (.string ⟨#[]⟩) (.slice none 0 0) (.slice none 0 0) := by rw [hW0]; have := heap_alloc_new (w.alloc (.cells #[.int .i64 m.id, .string (S m.chan), .slice ka m.key.length kc, .slice fa m.fields.length fc] 30)) (.cells #[.int .i64 0, .string ⟨#[]⟩, .slice none 0 0, .slice none 0 0] 30); rwa [show (w.alloc (.cells #[.int .i64 m.id, .string (S m.chan), .slice ka m.key.length kc, .slice fa m.fields.length fc] 30)).heap.size = w.heap.size + 1 by simp] at this
  have HKA := Lib.hid hka
  have HFA := Lib.hid hfa
  have HSC := Lib.hid (strClone_any (S m.chan) (by rw [S_size]; have := hm.chan; omega))
  have HTK := Lib.hid (fun W (k : Below w.heap.size w W) => Twin_big m.key hk (fun v hv => (hm.key v hv).tw) ka kc W (hka.below k))
  have HTF := Lib.hid (fun W (k : Below w.heap.size w W) => Twin_big m.fields hf (fun v hv => (hm.fields v hv).tw) fa fc W (hfa.below k))
  have HB0 := Lib.hid hb
  have HE0 := Lib.hid e0
  have HE1 := Lib.hid e1
  have HW0 := Lib.hid hW0
  obtain ⟨mi, mc, mk, mf⟩ := m
  unfold mV
  simp only at *
  clear hb e0 e1 hka hfa hm hW0
  go_enter Try.func33, Try.ntmps33
  go_wp2_with fail
  rw [← HW0.out]
  refine (HSC.out _).mono ?_
  rintro e w1 ⟨rfl, b1⟩
  have x0 := (HE0.out.below b1)
  have p1 := x0.c1
  have f1 := x0.fz 1
  have H0 := Lib.hid (x0.set1 (.string (S mc)))
  have H1 := Lib.hid ((HE1.out.below b1).other (g := w.heap.size) (o := 1) (v := .string (S mc)) (by omega))
  have HB1 := Lib.hid ((HB0.out.trans (b1.mono HB0.out.size)).setCell (p := ⟨w.heap.size, 1, none⟩) (Nat.le_refl _) (.string (S mc)))
  clear b1 x0
  go_wp2_with fail
  obtain ⟨W1, hW1⟩ : ∃ W1, W1 = w1.setCell ⟨w.heap.size, 1, none⟩ (.string (S mc)) := ⟨_, rfl⟩
  rw [← hW1] at H0 H1 HB1 ⊢
  clear hW1 p1 f1
  have hS0 : W1.drew.cell? ⟨w.heap.size, 2, none⟩ = some (.slice ka mk.length kc) ∧ W1.drew.cell? ⟨w.heap.size, 3, none⟩ = some (.slice fa mf.length fc) := ⟨H0.out.c2, H0.out.c3⟩
  have D0 := Lib.hid (show BM W1.drew w.heap.size _ _ _ _ from H0.out)
  have D1 := Lib.hid (show BM W1.drew (w.heap.size + 1) _ _ _ _ from H1.out)
  have HBD := Lib.hid (show Below w.heap.size w W1.drew from (by have := HB1.out; exact ⟨this.os, this.tape, this.output, this.size, this.block⟩))
  clear H0 H1 HB1
  refine Cd.until_start 7 (fun w7 => w7.cell? ⟨w.heap.size, 2, none⟩ = some (.slice ka mk.length kc) ∧ w7.cell? ⟨w.heap.size, 3, none⟩ = some (.slice fa mf.length fc)) (by kernel_rfl) ?_
  refine Cd.untilT (v := ?_) 0 (by decide +kernel) (by decide +kernel) (by decide +kernel) (by kernel_rfl) (by simp only [List.getElem?_toArray, List.getElem?_cons_succ, List.getElem?_cons_zero]; rfl) (by rfl) (by exact fun _ _ _ h => h) (by first | exact fun _ => hS0 | exact fun h => absurd h (by decide +kernel)) ?_ ?_
  rotate_left 1
  focus (intro w8; go_simp; (try with_reducible rfl); done)
  try simp only [Act.put, List.setIfInBounds_toArray, List.set_cons_zero, List.set_cons_succ]
  refine Cd.untilW (v := ?_) 1 [7] (by decide) (by decide +kernel) (by decide +kernel) (by decide +kernel) (by decide +kernel) (by kernel_rfl) (by simp only [List.getElem?_toArray, List.getElem?_cons_succ, List.getElem?_cons_zero]; rfl) (by rfl) (by exact fun _ _ _ h => h) (by exact hS0) ?_ ?_
  rotate_left 1
  focus (intro w8 hSw; (try dsimp only at hSw); (try obtain ⟨hSa, hSb⟩ := hSw); go_simp; (try with_reducible rfl); done)
  try simp only [Act.put, List.setIfInBounds_toArray, List.set_cons_zero, List.set_cons_succ]
  refine Cd.untilT (v := ?_) 3 (by decide +kernel) (by decide +kernel) (by decide +kernel) (by kernel_rfl) (by simp only [List.getElem?_toArray, List.getElem?_cons_succ, List.getElem?_cons_zero]; rfl) (by rfl) (by exact fun _ _ _ h => h) (by first | exact fun _ => hS0 | exact fun h => absurd h (by decide +kernel)) ?_ ?_
  rotate_left 1
  focus (intro w8; go_simp; (try with_reducible rfl); done)
  try simp only [Act.put, List.setIfInBounds_toArray, List.set_cons_zero, List.set_cons_succ]
  refine Cd.untilW (v := ?_) 4 [7] (by decide) (by decide +kernel) (by decide +kernel) (by decide +kernel) (by decide +kernel) (by kernel_rfl) (by simp only [List.getElem?_toArray, List.getElem?_cons_succ, List.getElem?_cons_zero]; rfl) (by rfl) (by exact fun _ _ _ h => h) (by exact hS0) ?_ ?_
  rotate_left 1
  focus (intro w8 hSw; (try dsimp only at hSw); (try obtain ⟨hSa, hSb⟩ := hSw); go_simp; (try with_reducible rfl); done)
  try simp only [Act.put, List.setIfInBounds_toArray, List.set_cons_zero, List.set_cons_succ]
  refine Cd.until_one (i := 2) (by decide +kernel) (by simp only [List.getElem?_toArray, List.getElem?_cons_succ, List.getElem?_cons_zero]; rfl) ?_
  intro K hK
  go_simp
  go_at_call 44; (with_reducible refine (HTK.out _ HBD.out).mono ?_); rintro e w2 ⟨⟨ka2, kc2, rfl, tk2⟩, b2⟩
  clear hS0
  have x0 := D0.out.below b2
  have hS0 : w2.cell? ⟨w.heap.size, 2, none⟩ = some (.slice ka mk.length kc) ∧ w2.cell? ⟨w.heap.size, 3, none⟩ = some (.slice fa mf.length fc) := ⟨x0.c2, x0.c3⟩
  have F0 := Lib.hid x0
  have F1 := Lib.hid (D1.out.below b2)
  have HB2 := Lib.hid (HBD.out.trans (b2.mono HBD.out.size))
  have TK2 := Lib.hid (TwR.mono (lo := w.heap.size) tk2 HBD.out.size)
  clear b2 tk2 x0
  refine hK.out _ _ (by first | exact fun _ => hS0 | exact fun h => absurd h (by decide +kernel)) ?_
  try simp only [Act.put, List.setIfInBounds_toArray, List.set_cons_zero, List.set_cons_succ]
  clear hK K
  refine Cd.untilT (v := ?_) 6 (by decide +kernel) (by decide +kernel) (by decide +kernel) (by kernel_rfl) (by simp only [List.getElem?_toArray, List.getElem?_cons_succ, List.getElem?_cons_zero]; rfl) (by rfl) (by exact fun _ _ _ h => h) (by first | exact fun _ => hS0 | exact fun h => absurd h (by decide +kernel)) ?_ ?_
  rotate_left 1
  focus (intro w8; go_simp; (try with_reducible rfl); done)
  try simp only [Act.put, List.setIfInBounds_toArray, List.set_cons_zero, List.set_cons_succ]
  refine Cd.until_one (i := 5) (by decide +kernel) (by simp only [List.getElem?_toArray, List.getElem?_cons_succ, List.getElem?_cons_zero]; rfl) ?_
  intro K hK
  go_simp
  go_at_call 44; (with_reducible refine (HTF.out _ HB2.out).mono ?_); rintro e w3 ⟨⟨fa3, fc3, rfl, tf3⟩, b3⟩
  clear hS0
  have x0 := F0.out.below b3
  have hS0 : w3.cell? ⟨w.heap.size, 2, none⟩ = some (.slice ka mk.length kc) ∧ w3.cell? ⟨w.heap.size, 3, none⟩ = some (.slice fa mf.length fc) := ⟨x0.c2, x0.c3⟩
  have p2 := x0.c2
  have f2 := x0.fz 2
  have G0 := Lib.hid (x0.set2 (.slice ka2 mk.length kc2))
  have G1 := Lib.hid ((F1.out.below b3).other (g := w.heap.size) (o := 2) (v := .slice ka2 mk.length kc2) (by omega))
  have HB3 := Lib.hid ((HB2.out.trans (b3.mono HB2.out.size)).setCell (p := ⟨w.heap.size, 2, none⟩) (Nat.le_refl _) (.slice ka2 mk.length kc2))
  have TK3 := Lib.hid ((TK2.out.below b3).set (o := 2) (v := .slice ka2 mk.length kc2) x0.blk)
  have TF3 := Lib.hid ((TwR.mono (lo := w.heap.size) tf3 HB2.out.size).set (o := 2) (v := .slice ka2 mk.length kc2) x0.blk)
  clear b3 tf3 x0
  refine hK.out _ _ (by first | exact fun _ => hS0 | exact fun h => absurd h (by decide +kernel)) ?_
  try simp only [Act.put, List.setIfInBounds_toArray, List.set_cons_zero, List.set_cons_succ]
  clear hK K
  refine Cd.until_one (i := 7) (by decide +kernel) (by simp only [List.getElem?_toArray, List.getElem?_cons_succ, List.getElem?_cons_zero]; rfl) ?_
  intro K hK
  go_simp
  refine hK.out _ _ (by first | exact fun _ => hS0 | exact fun h => absurd h (by decide +kernel)) ?_
  try simp only [Act.put, List.setIfInBounds_toArray, List.set_cons_zero, List.set_cons_succ]
  clear hK K
  clear p2 f2 hS0
  obtain ⟨W4, hW4⟩ : ∃ W4, W4 = w3.setCell ⟨w.heap.size, 2, none⟩ (.slice ka2 mk.length kc2) := ⟨_, rfl⟩
  rw [← hW4] at G0 G1 HB3 TK3 TF3 ⊢
  clear hW4
  refine Cd.untilT (v := ?_) 8 (by decide +kernel) (by decide +kernel) (by decide +kernel) (by kernel_rfl) (by simp only [List.getElem?_toArray, List.getElem?_cons_succ, List.getElem?_cons_zero]; rfl) (by rfl) (by exact fun _ _ _ h => h) (by first | exact fun _ => hS0 | exact fun h => absurd h (by decide +kernel)) ?_ ?_
  rotate_left 1
  focus (intro w8; go_simp; (try with_reducible rfl); done)
  try simp only [Act.put, List.setIfInBounds_toArray, List.set_cons_zero, List.set_cons_succ]
  have p3 := G0.out.c3
  have f3 := G0.out.fz 3
  refine Cd.until_one (i := 9) (by decide +kernel) (by simp only [List.getElem?_toArray, List.getElem?_cons_succ, List.getElem?_cons_zero]; rfl) ?_
  intro K hK
  go_simp
  refine hK.out _ _ (by first | exact fun _ => hS0 | exact fun h => absurd h (by decide +kernel)) ?_
  try simp only [Act.put, List.setIfInBounds_toArray, List.set_cons_zero, List.set_cons_succ]
  clear hK K
  clear p3 f3
  have G2 := Lib.hid (G0.out.set3 (.slice fa3 mf.length fc3))
  have G3 := Lib.hid (G1.out.other (g := w.heap.size) (o := 3) (v := .slice fa3 mf.length fc3) (by omega))
  have HB5 := Lib.hid (HB3.out.setCell (p := ⟨w.heap.size, 3, none⟩) (Nat.le_refl _) (.slice fa3 mf.length fc3))
  have TK5 := Lib.hid (TK3.out.set (o := 3) (v := .slice fa3 mf.length fc3) G0.out.blk)
  have TF5 := Lib.hid (TF3.out.set (o := 3) (v := .slice fa3 mf.length fc3) G0.out.blk)
  obtain ⟨W5, hW5⟩ : ∃ W5, W5 = W4.setCell ⟨w.heap.size, 3, none⟩ (.slice fa3 mf.length fc3) := ⟨_, rfl⟩
  rw [← hW5] at G2 G3 HB5 TK5 TF5 ⊢
  clear hW5 G0 G1 HB3 TK3 TF3
  refine Cd.until_done (by decide +kernel) ?_ _
  have p0 := G2.out.c0
  have p1 := G2.out.c1
  have p2 := G2.out.c2
  have p3 := G2.out.c3
  have q0 := G3.out.c0
  have q1 := G3.out.c1
  have q2 := G3.out.c2
  have q3 := G3.out.c3
  have z0 := G3.out.fz 0
  have z1 := G3.out.fz 1
  have z2 := G3.out.fz 2
  have z3 := G3.out.fz 3
  go_wp2_with fail
  refine bodyPost_ret (v := .agg #[.int .i64 mi, .string (S mc), .slice ka2 mk.length kc2, .slice fa3 mf.length fc3]) (res_bm1 rfl _ _ (w.heap.size + 1) _ _ _ _ rfl (G3.out.put _ _ _ _)) rfl ?_
  exact ⟨⟨ka2, kc2, fa3, fc3, rfl, TK5.out.bput G3.out.blk, TF5.out.bput G3.out.blk⟩, bput_below HB5.out _ (by omega) _ _ _ _⟩

end Go.Proofs.Ytfkmpegbidojoaa.Md
