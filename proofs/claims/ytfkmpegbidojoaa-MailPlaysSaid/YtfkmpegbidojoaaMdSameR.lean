/-
  The document's own answer whether boxes, dead letters are the same: of the same ones.
-/
import Derived.Test.YtfkmpegbidojoaaMdSame
import Derived.Deep.RegionHeld3
namespace Go.Proofs.Ytfkmpegbidojoaa.Md
open Go.RowKit
open Va
set_option linter.unusedVariables false
set_option linter.unusedSimpArgs false

/-- A short message. -/
structure Msh (m : MailP) : Prop where
  big : MBig m
  key : m.key.length ≤ 40
  fields : m.fields.length ≤ 40
theorem sameM_self (x : MailP) : sameM x x = true := (sameM_iff x x).2 rfl
theorem good_call {P : Program} {f : FuncId} {args : Array Value} {W0 W : World} {R : Ending → Prop} (k : Good W0 W) (h : Calls P f args W fun e w' => R e ∧ Below W.heap.size W w') : Calls P f args W fun e w' => R e ∧ Good W0 w' :=
  h.mono fun e w' g => ⟨g.1, k.step g.2⟩
theorem sameMail_refl (x : MailP) (hx : Msh x) (ka : Option Addr) (kc : Nat) (fa : Option Addr) (fc : Nat) (la : Option Addr) (lc : Nat) (ga : Option Addr) (gc : Nat) (w : World)
    (hka : ValsAt w ka x.key) (hfa : ValsAt w fa x.fields) (hla : ValsAt w la x.key) (hga : ValsAt w ga x.fields) :
    Calls Try.prog 12 #[.agg #[.int .i64 x.id, .string (S x.chan), .slice ka x.key.length kc, .slice fa x.fields.length fc], .agg #[.int .i64 x.id, .string (S x.chan), .slice la x.key.length lc, .slice ga x.fields.length gc]] w fun e w' => e = .returned (.bool true) ∧ Below w.heap.size w w' :=
  (sameMail_any x x hx.big hx.big hx.key hx.fields ka kc fa fc la lc ga gc w hka hfa hla hga).mono fun e w' h => by rw [sameM_self] at h; exact h

set_option maxRecDepth 100000 in
set_option maxHeartbeats 4000000 in
theorem sameBox_refl (l : List MailP) (ok : ∀ m ∈ l, Msh m) (hl : l.length ≤ 140737488355328) (a b : Option Addr) (ca cb : Nat) (w : World) (ha : MailsAt w a l) (hb : MailsAt w b l) :
    Calls Try.prog 13 #[.slice a l.length ca, .slice b l.length cb] w fun e w' => e = .returned (.bool true) ∧ Below w.heap.size w w' := by
  have HX := Lib.hid ha
  have HY := Lib.hid hb
  have HOK := Lib.hid ok
  clear ha hb ok
  go_enter Try.func13, Try.ntmps13
  go_wp2_with fail
  go_loopw [13] (fun i wr => ∃ k : Nat, k ≤ l.length ∧ i = .int .i64 k ∧ Below w.heap.size w wr) (fun i _ => l.length - (intOf i).toNat)
  case atStart => exact ⟨0, by omega, rfl, Below.refl _ _⟩
  case round =>
    obtain ⟨k, hk, rfl, hb⟩ := hrel
    have HB := Lib.hid hb
    clear hb
    by_cases hlt : k < l.length
    · obtain ⟨g1, o1, ka, kc, fa, fc, rfl, hm1, hg1⟩ := HX.out k hlt
      obtain ⟨g2, o2, la, lc, ga, gc, rfl, hm2, hg2⟩ := HY.out k hlt
      have HBD := Lib.hid (show Below w.heap.size w wr.drew from ⟨HB.out.os, HB.out.tape, HB.out.output, HB.out.size, HB.out.block⟩)
      have hgw1 : g1 < wr.drew.heap.size := Nat.lt_of_lt_of_le hg1 HBD.out.size
      have hgw2 : g2 < wr.drew.heap.size := Nat.lt_of_lt_of_le hg2 HBD.out.size
      have hok := HOK.out l[k] (List.getElem_mem _)
      have hki : (k : Int) < (l.length : Int) := by omega
      have hm1 := hm1.below hg1 HBD.out
      have hm2 := hm2.below hg2 HBD.out
      generalize l[k] = x at *
      have hkeep : ∀ w7, Below wr.drew.heap.size wr.drew w7 → (w7.cell? ⟨g1, o1 + k * 4, none⟩ = some (.int .i64 x.id) ∧ w7.cell? ⟨g1, o1 + k * 4 + 1, none⟩ = some (.string (S x.chan)) ∧ w7.cell? ⟨g1, o1 + k * 4 + 2, none⟩ = some (.slice ka x.key.length kc) ∧ w7.cell? ⟨g1, o1 + k * 4 + 3, none⟩ = some (.slice fa x.fields.length fc)) ∧
          (w7.cell? ⟨g2, o2 + k * 4, none⟩ = some (.int .i64 x.id) ∧ w7.cell? ⟨g2, o2 + k * 4 + 1, none⟩ = some (.string (S x.chan)) ∧ w7.cell? ⟨g2, o2 + k * 4 + 2, none⟩ = some (.slice la x.key.length lc) ∧ w7.cell? ⟨g2, o2 + k * 4 + 3, none⟩ = some (.slice ga x.fields.length gc)) := fun w7 b7 => by
        obtain ⟨p0, p1, p2, p3, _, _⟩ := hm1.below hgw1 b7
        obtain ⟨q0, q1, q2, q3, _, _⟩ := hm2.below hgw2 b7
        exact ⟨⟨p0, p1, p2, p3⟩, ⟨q0, q1, q2, q3⟩⟩
      have HKEEP := Lib.hid hkeep
      have HST := Lib.hid (hkeep wr.drew (Below.refl _ _))
      have HC := Lib.hid (sameMail_refl x hok ka kc fa fc la lc ga gc wr.drew hm1.2.2.2.2.1 hm1.2.2.2.2.2 hm2.2.2.2.2.1 hm2.2.2.2.2.2)
      clear hkeep hm1 hm2 hok HX HY HOK
      go_wp2_with fail
      go_region_held3 (fun w7 => (w7.cell? ⟨g1, o1 + k * 4, none⟩ = some (.int .i64 x.id) ∧ w7.cell? ⟨g1, o1 + k * 4 + 1, none⟩ = some (.string (S x.chan)) ∧ w7.cell? ⟨g1, o1 + k * 4 + 2, none⟩ = some (.slice ka x.key.length kc) ∧ w7.cell? ⟨g1, o1 + k * 4 + 3, none⟩ = some (.slice fa x.fields.length fc)) ∧
          (w7.cell? ⟨g2, o2 + k * 4, none⟩ = some (.int .i64 x.id) ∧ w7.cell? ⟨g2, o2 + k * 4 + 1, none⟩ = some (.string (S x.chan)) ∧ w7.cell? ⟨g2, o2 + k * 4 + 2, none⟩ = some (.slice la x.key.length lc) ∧ w7.cell? ⟨g2, o2 + k * 4 + 3, none⟩ = some (.slice ga x.fields.length gc)))
        (first | assumption | exact HST.out | exact HK7.out)
        (first | (go_at_call 12; refine HC.out.mono ?_; rintro e w7 ⟨rfl, b7⟩; have HB7 := Lib.hid b7; have HK7 := Lib.hid (HKEEP.out _ b7); clear b7))
      have HBN := Lib.hid (HBD.out.trans (HB7.out.mono HBD.out.size))
      go_wp2_with fail
      go_roundw
      case rel => exact ⟨k + 1, by omega, by go_num, HBN.out⟩
      case measure => simp [intOf]; omega
    · obtain rfl : k = l.length := by omega
      go_wp2_with fail
      go_ret
      exact ⟨rfl, HB.out⟩

set_option maxRecDepth 100000 in
set_option maxHeartbeats 4000000 in
theorem sameDead_refl (x : DeadP) (hm : Msh x.mail) (ka : Option Addr) (kc : Nat) (fa : Option Addr) (fc : Nat) (la : Option Addr) (lc : Nat) (ga : Option Addr) (gc : Nat) (w : World)
    (hka : ValsAt w ka x.mail.key) (hfa : ValsAt w fa x.mail.fields) (hla : ValsAt w la x.mail.key) (hga : ValsAt w ga x.mail.fields) :
    Calls Try.prog 28 #[.agg #[.int .i64 x.n, .int .i64 x.mail.id, .string (S x.mail.chan), .slice ka x.mail.key.length kc, .slice fa x.mail.fields.length fc, .int .i64 x.reason], .agg #[.int .i64 x.n, .int .i64 x.mail.id, .string (S x.mail.chan), .slice la x.mail.key.length lc, .slice ga x.mail.fields.length gc, .int .i64 x.reason]] w fun e w' => e = .returned (.bool true) ∧ Below w.heap.size w w' := by
  obtain ⟨W0, hW0⟩ : ∃ W0, W0 = (w.alloc (.cells #[.int .i64 x.n, .int .i64 x.mail.id, .string (S x.mail.chan), .slice ka x.mail.key.length kc, .slice fa x.mail.fields.length fc, .int .i64 x.reason] 46)).alloc (.cells #[.int .i64 x.n, .int .i64 x.mail.id, .string (S x.mail.chan), .slice la x.mail.key.length lc, .slice ga x.mail.fields.length gc, .int .i64 x.reason] 46) := ⟨_, rfl⟩
  have hb : Below w.heap.size w W0 := by rw [hW0]; exact ((Below.refl w.heap.size w).alloc (Nat.le_refl _) _).alloc (by simp) _
  have e0 : W0.heap[w.heap.size]? = some (.cells #[.int .i64 x.n, .int .i64 x.mail.id, .string (S x.mail.chan), .slice ka x.mail.key.length kc, .slice fa x.mail.fields.length fc, .int .i64 x.reason] 46 (0, 0)) := by rw [hW0]; exact (((Below.refl _ _).alloc (Nat.le_refl _) _).block _ (by simp)).trans (heap_alloc_new w _)
  have e1 : W0.heap[w.heap.size + 1]? = some (.cells #[.int .i64 x.n, .int .i64 x.mail.id, .string (S x.mail.chan), .slice la x.mail.key.length lc, .slice ga x.mail.fields.length gc, .int .i64 x.reason] 46 (0, 0)) := by rw [hW0]; have := heap_alloc_new (w.alloc (.cells #[.int .i64 x.n, .int .i64 x.mail.id, .string (S x.mail.chan), .slice ka x.mail.key.length kc, .slice fa x.mail.fields.length fc, .int .i64 x.reason] 46)) (.cells #[.int .i64 x.n, .int .i64 x.mail.id, .string (S x.mail.chan), .slice la x.mail.key.length lc, .slice ga x.mail.fields.length gc, .int .i64 x.reason] 46); rwa [show (w.alloc (.cells #[.int .i64 x.n, .int .i64 x.mail.id, .string (S x.mail.chan), .slice ka x.mail.key.length kc, .slice fa x.mail.fields.length fc, .int .i64 x.reason] 46)).heap.size = w.heap.size + 1 by simp] at this
  have hka0 := hka.below hb
  have hfa0 := hfa.below hb
  have hla0 := hla.below hb
  have hga0 := hga.below hb
  have HKEEP := Lib.hid (fun W (k : Good W0 W) => show (W.cell? ⟨w.heap.size, 0, none⟩ = some (.int .i64 x.n) ∧ W.cell? ⟨w.heap.size, 1, none⟩ = some (.int .i64 x.mail.id) ∧ W.cell? ⟨w.heap.size, 2, none⟩ = some (.string (S x.mail.chan)) ∧ W.cell? ⟨w.heap.size, 3, none⟩ = some (.slice ka x.mail.key.length kc) ∧ W.cell? ⟨w.heap.size, 4, none⟩ = some (.slice fa x.mail.fields.length fc) ∧ W.cell? ⟨w.heap.size, 5, none⟩ = some (.int .i64 x.reason)) ∧ (W.cell? ⟨w.heap.size + 1, 0, none⟩ = some (.int .i64 x.n) ∧ W.cell? ⟨w.heap.size + 1, 1, none⟩ = some (.int .i64 x.mail.id) ∧ W.cell? ⟨w.heap.size + 1, 2, none⟩ = some (.string (S x.mail.chan)) ∧ W.cell? ⟨w.heap.size + 1, 3, none⟩ = some (.slice la x.mail.key.length lc) ∧ W.cell? ⟨w.heap.size + 1, 4, none⟩ = some (.slice ga x.mail.fields.length gc) ∧ W.cell? ⟨w.heap.size + 1, 5, none⟩ = some (.int .i64 x.reason)) from ⟨⟨cell_of_row W (w.heap.size) 0 _ _ (0, 0) ((k.block (w.heap.size) (lt_of_heapV e0)).trans e0), cell_of_row W (w.heap.size) 1 _ _ (0, 0) ((k.block (w.heap.size) (lt_of_heapV e0)).trans e0), cell_of_row W (w.heap.size) 2 _ _ (0, 0) ((k.block (w.heap.size) (lt_of_heapV e0)).trans e0), cell_of_row W (w.heap.size) 3 _ _ (0, 0) ((k.block (w.heap.size) (lt_of_heapV e0)).trans e0), cell_of_row W (w.heap.size) 4 _ _ (0, 0) ((k.block (w.heap.size) (lt_of_heapV e0)).trans e0), cell_of_row W (w.heap.size) 5 _ _ (0, 0) ((k.block (w.heap.size) (lt_of_heapV e0)).trans e0)⟩, ⟨cell_of_row W (w.heap.size + 1) 0 _ _ (0, 0) ((k.block (w.heap.size + 1) (lt_of_heapV e1)).trans e1), cell_of_row W (w.heap.size + 1) 1 _ _ (0, 0) ((k.block (w.heap.size + 1) (lt_of_heapV e1)).trans e1), cell_of_row W (w.heap.size + 1) 2 _ _ (0, 0) ((k.block (w.heap.size + 1) (lt_of_heapV e1)).trans e1), cell_of_row W (w.heap.size + 1) 3 _ _ (0, 0) ((k.block (w.heap.size + 1) (lt_of_heapV e1)).trans e1), cell_of_row W (w.heap.size + 1) 4 _ _ (0, 0) ((k.block (w.heap.size + 1) (lt_of_heapV e1)).trans e1), cell_of_row W (w.heap.size + 1) 5 _ _ (0, 0) ((k.block (w.heap.size + 1) (lt_of_heapV e1)).trans e1)⟩⟩)
  have HFIN := Lib.hid (fun (wr : World) (h : Good W0 wr) => hb.trans (h.mono hb.size))
  have HG0 := Lib.hid (Good.refl W0)
  have HC0 := Lib.hid (fun W (k : Good W0 W) => good_call (R := fun e => e = .returned (.bool true)) k (sameMail_refl x.mail hm ka kc fa fc la lc ga gc W (hka0.below k) (hfa0.below k) (hla0.below k) (hga0.below k)))
  have HW0 := Lib.hid hW0
  clear hb e0 e1 hW0 hka hka0 hfa hfa0 hla hla0 hga hga0
  go_enter Try.func28, Try.ntmps28
  go_wp2_with fail
  rw [← HW0.out]
  refine (HC0.out _ HG0.out).mono ?_
  rintro e w1 ⟨rfl, b1⟩
  have HG1 := Lib.hid b1
  obtain ⟨⟨p0, p1, p2, p3, p4, p5⟩, ⟨q0, q1, q2, q3, q4, q5⟩⟩ := HKEEP.out _ HG1.out
  clear b1
  go_wp2_with fail
  go_ret
  exact ⟨rfl, HFIN.out _ HG1.out⟩
  
end Go.Proofs.Ytfkmpegbidojoaa.Md
