/-
  The document's own answer whether two messages are the same.
-/
import Derived.Test.YtfkmpegbidojoaaMdPure
namespace Go.Proofs.Ytfkmpegbidojoaa.Md
open Go.RowKit
open Va
set_option linter.unusedVariables false
set_option linter.unusedSimpArgs false

def sameM (x y : MailP) : Bool := x.id == y.id && x.chan == y.chan && sameL x.key y.key && sameL x.fields y.fields
theorem sameM_iff (x y : MailP) : sameM x y = true ↔ x = y := by
  obtain ⟨a, b, c, d⟩ := x
  obtain ⟨a', b', c', d'⟩ := y
  simp [sameM, sameL_iff, and_assoc]

set_option maxRecDepth 100000 in
set_option maxHeartbeats 8000000 in
theorem sameMail_any (x y : MailP) (hx : MBig x) (hy : MBig y) (hxk : x.key.length ≤ 40) (hxf : x.fields.length ≤ 40) (ka : Option Addr) (kc : Nat) (fa : Option Addr) (fc : Nat) (la : Option Addr) (lc : Nat) (ga : Option Addr) (gc : Nat) (w : World)
    (hka : ValsAt w ka x.key) (hfa : ValsAt w fa x.fields) (hla : ValsAt w la y.key) (hga : ValsAt w ga y.fields) :
    Calls Try.prog 12 #[.agg #[.int .i64 x.id, .string (S x.chan), .slice ka x.key.length kc, .slice fa x.fields.length fc], .agg #[.int .i64 y.id, .string (S y.chan), .slice la y.key.length lc, .slice ga y.fields.length gc]] w fun e w' => e = .returned (.bool (sameM x y)) ∧ Below w.heap.size w w' := by
  obtain ⟨W0, hW0⟩ : ∃ W0, W0 = (w.alloc (.cells #[.int .i64 x.id, .string (S x.chan), .slice ka x.key.length kc, .slice fa x.fields.length fc] 30)).alloc (.cells #[.int .i64 y.id, .string (S y.chan), .slice la y.key.length lc, .slice ga y.fields.length gc] 30) := ⟨_, rfl⟩
  have hb : Below w.heap.size w W0 := by rw [hW0]; exact ((Below.refl w.heap.size w).alloc (Nat.le_refl _) _).alloc (by simp) _
  have e0 : W0.heap[w.heap.size]? = some (.cells #[.int .i64 x.id, .string (S x.chan), .slice ka x.key.length kc, .slice fa x.fields.length fc] 30 (0, 0)) := by rw [hW0]; exact (((Below.refl _ _).alloc (Nat.le_refl _) _).block _ (by simp)).trans (heap_alloc_new w _)
  have e1 : W0.heap[w.heap.size + 1]? = some (.cells #[.int .i64 y.id, .string (S y.chan), .slice la y.key.length lc, .slice ga y.fields.length gc] 30 (0, 0)) := by rw [hW0]; have := heap_alloc_new (w.alloc (.cells #[.int .i64 x.id, .string (S x.chan), .slice ka x.key.length kc, .slice fa x.fields.length fc] 30)) (.cells #[.int .i64 y.id, .string (S y.chan), .slice la y.key.length lc, .slice ga y.fields.length gc] 30); rwa [show (w.alloc (.cells #[.int .i64 x.id, .string (S x.chan), .slice ka x.key.length kc, .slice fa x.fields.length fc] 30)).heap.size = w.heap.size + 1 by simp] at this
  have hKA := hka.below hb
  have hFA := hfa.below hb
  have hLA := hla.below hb
  have hGA := hga.below hb
  have HKEEP := Lib.hid (fun W (k : Good W0 W) => show (W.cell? ⟨w.heap.size, 0, none⟩ = some (.int .i64 x.id) ∧ W.cell? ⟨w.heap.size, 1, none⟩ = some (.string (S x.chan)) ∧ W.cell? ⟨w.heap.size, 2, none⟩ = some (.slice ka x.key.length kc) ∧ W.cell? ⟨w.heap.size, 3, none⟩ = some (.slice fa x.fields.length fc)) ∧ (W.cell? ⟨w.heap.size + 1, 0, none⟩ = some (.int .i64 y.id) ∧ W.cell? ⟨w.heap.size + 1, 1, none⟩ = some (.string (S y.chan)) ∧ W.cell? ⟨w.heap.size + 1, 2, none⟩ = some (.slice la y.key.length lc) ∧ W.cell? ⟨w.heap.size + 1, 3, none⟩ = some (.slice ga y.fields.length gc)) from
    ⟨⟨cell_of_row W (w.heap.size) 0 _ _ (0, 0) ((k.block (w.heap.size) (lt_of_heapV e0)).trans e0), cell_of_row W (w.heap.size) 1 _ _ (0, 0) ((k.block (w.heap.size) (lt_of_heapV e0)).trans e0), cell_of_row W (w.heap.size) 2 _ _ (0, 0) ((k.block (w.heap.size) (lt_of_heapV e0)).trans e0), cell_of_row W (w.heap.size) 3 _ _ (0, 0) ((k.block (w.heap.size) (lt_of_heapV e0)).trans e0)⟩, ⟨cell_of_row W (w.heap.size + 1) 0 _ _ (0, 0) ((k.block (w.heap.size + 1) (lt_of_heapV e1)).trans e1), cell_of_row W (w.heap.size + 1) 1 _ _ (0, 0) ((k.block (w.heap.size + 1) (lt_of_heapV e1)).trans e1), cell_of_row W (w.heap.size + 1) 2 _ _ (0, 0) ((k.block (w.heap.size + 1) (lt_of_heapV e1)).trans e1), cell_of_row W (w.heap.size + 1) 3 _ _ (0, 0) ((k.block (w.heap.size + 1) (lt_of_heapV e1)).trans e1)⟩⟩)
  have HFIN := Lib.hid (fun (wr : World) (h : Good W0 wr) => hb.trans (h.mono hb.size))
  have HG0 := Lib.hid (Good.refl W0)
  have HK := Lib.hid (fun W (k : Good W0 W) => good_calls (R := fun e => e = .returned (.bool (sameL x.key y.key))) k (refSameAll_any x.key y.key (fun v hv => (hx.key v hv).ok) (fun v hv => (hy.key v hv).ok) (by omega) ka la kc lc W (hKA.below k) (hLA.below k)))
  have HF := Lib.hid (fun W (k : Good W0 W) => good_calls (R := fun e => e = .returned (.bool (sameL x.fields y.fields))) k (refSameAll_any x.fields y.fields (fun v hv => (hx.fields v hv).ok) (fun v hv => (hy.fields v hv).ok) (by omega) fa ga fc gc W (hFA.below k) (hGA.below k)))
  have HW0 := Lib.hid hW0
  have t1 : ((S x.chan).toList == (S y.chan).toList) = (x.chan == y.chan) := Va.S_beq _ _
  cases h1 : (x.id == y.id) with
  | false =>
    have HR := Lib.hid (show false = sameM x y from by unfold sameM; rw [h1]; rfl)
    clear hb e0 e1 hKA hFA hLA hGA hka hfa hla hga hx hy hW0 t1
    go_enter Try.func12, Try.ntmps12
    go_wp2_with fail
    rw [← HW0.out]
    go_ret
    exact ⟨ret_b HR.out, HFIN.out _ HG0.out⟩
  | true =>
    cases h2 : (x.chan == y.chan) with
    | false =>
      have HR := Lib.hid (show false = sameM x y from by unfold sameM; rw [h1, h2]; rfl)
      rw [h2] at t1
      clear hb e0 e1 hKA hFA hLA hGA hka hfa hla hga hx hy hW0 
      go_enter Try.func12, Try.ntmps12
      go_wp2_with fail
      rw [← HW0.out]
      go_ret
      exact ⟨ret_b HR.out, HFIN.out _ HG0.out⟩
    | true =>
      rw [h2] at t1
      cases h3 : sameL x.key y.key with
      | false =>
        have HR := Lib.hid (show false = sameM x y from by unfold sameM; rw [h1, h2, h3]; rfl)
        rw [h3] at HK
        clear hb e0 e1 hKA hFA hLA hGA hka hfa hla hga hx hy hW0 
        go_enter Try.func12, Try.ntmps12
        go_wp2_with fail
        rw [← HW0.out]
        refine (HK.out _ HG0.out).mono ?_
        rintro e w1 ⟨rfl, b1⟩
        have HG1 := Lib.hid b1
        obtain ⟨⟨p0, p1, p2, p3⟩, ⟨q0, q1, q2, q3⟩⟩ := HKEEP.out _ HG1.out
        clear b1
        go_wp2_with fail
        go_ret
        exact ⟨ret_b HR.out, HFIN.out _ HG1.out⟩
      | true =>
        have HR := Lib.hid (show sameL x.fields y.fields = sameM x y from by unfold sameM; rw [h1, h2, h3]; rfl)
        rw [h3] at HK
        generalize sameL x.fields y.fields = O at *
        clear hb e0 e1 hKA hFA hLA hGA hka hfa hla hga hx hy hW0 
        go_enter Try.func12, Try.ntmps12
        go_wp2_with fail
        rw [← HW0.out]
        refine (HK.out _ HG0.out).mono ?_
        rintro e w1 ⟨rfl, b1⟩
        have HG1 := Lib.hid b1
        obtain ⟨⟨p0, p1, p2, p3⟩, ⟨q0, q1, q2, q3⟩⟩ := HKEEP.out _ HG1.out
        clear b1
        go_wp2_with fail
        refine (HF.out _ HG1.out).mono ?_
        rintro e w2 ⟨rfl, b2⟩
        have HG2 := Lib.hid b2
        obtain ⟨⟨p0, p1, p2, p3⟩, ⟨q0, q1, q2, q3⟩⟩ := HKEEP.out _ HG2.out
        clear b2
        go_wp2_with fail
        go_ret
        exact ⟨ret_b HR.out, HFIN.out _ HG2.out⟩

end Go.Proofs.Ytfkmpegbidojoaa.Md
