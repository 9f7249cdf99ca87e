import Derived.Test.YtfmcbccmijcdgaaBkWrite
import Derived.RangeFuncNested
import Derived.RangeFuncFrom
import Derived.RangeFuncBound
import Derived.RangeFuncCalls
import Derived.RangeFuncLeaves
namespace Go.Proofs.Ytfmcbccmijcdgaa.Bk
open Go.RowKit
theorem back_any (v : Value) (hv : ∃ a n c, v = .slice a n c) (w : World) :
    Calls Try.prog 29 #[v] w fun e w' => e = .returned (.func (.func 35) #[] #[.pointer (some ⟨w.heap.size, 0, none⟩)]) ∧ w' = w.alloc (.cells #[v] 55) := by
  obtain ⟨a, n, c, rfl⟩ := hv
  go_enter Try.func29, Try.ntmps29
  go_wp2_with fail
  go_ret
  exact ⟨rfl, rfl⟩
theorem back_none (l Bs : Nat) (W : World) (hBs : W.cell? ⟨Bs, 0, none⟩ = some (.slice none 0 0)) :
    Calls Try.prog 35 #[.func (.yield l) #[] #[], .pointer (some ⟨Bs, 0, none⟩)] W fun e W' => (∃ v, e = .returned v) ∧ W' = W := by
  go_enter Try.func35, Try.ntmps35
  go_wp2_with fail
  go_loopw [3] (fun i wr => i = .int .i64 (-1) ∧ wr = W) (fun _ _ => 0)
  case atStart => exact ⟨rfl, rfl⟩
  case round =>
    obtain ⟨rfl, rfl⟩ := hrel
    go_wp2_with fail
    go_end0
    exact ⟨⟨_, rfl⟩, rfl⟩
/-- The iterator over no writes: it hands over none. -/
theorem back_stops (Bs : Nat) (w : World) (hBs : w.cell? ⟨Bs, 0, none⟩ = some (.slice none 0 0)) (hlt : Bs < w.heap.size) (n n₀ : Nat) (encs : Empty → Array Value) :
    SeqStopsK Fence.wide n Try.prog 35 #[.pointer (some ⟨Bs, 0, none⟩)] encs (Below n₀) (fun ys => ys = []) (fun _ => False) 0 w := fun l J Jx W hW _ _ _ h0 =>
  callsIn_wide.2 ((back_none l Bs W ((hW.cell (p := ⟨Bs, 0, none⟩) hlt).trans hBs)).mono fun e W' ⟨he, hw⟩ => ⟨he, .inl ⟨[], rfl, by rw [hw]; exact h0⟩⟩)
theorem sec_conv {w : World} {D R : Nat} {pv : Value} {d : Dev} (h : DevAt w D R pv d) (i : Nat) (hi : i < d.dur.length) :
    (convert 69 9 (.slice (some ⟨R, i * 64, none⟩) 64 64)).run Try.prog w = .ok (.string (S (d.dur.getD i []))) w := by
  have hs := dur_get h.ok i hi
  have := run_convert_bytes_back (P := Try.prog) w 69 9 5 ⟨R, i * 64, none⟩ 64 (d.dur.getD i []) Try.underlying69 Try.underlying5 Try.underlying9
    (fun j hj => by
      rw [Addr.add_mid]
      refine (h.sec i hi).1 j _ ?_
      generalize d.dur.getD i [] = l at *
      simp [secC, List.getElem?_eq_getElem hj])
  rw [hs] at this
  exact this

set_option maxRecDepth 100000 in
set_option maxHeartbeats 3200000 in
theorem read_now {w : World} {D R : Nat} {d : Dev} (h : DevAt w D R (.slice none 0 0) d) (i : Nat) (hr : refE d i = 0) (hi : i < d.dur.length) :
    Calls Try.prog 7 #[.pointer (some ⟨D, 0, none⟩), .int .i64 (i : Int)] w fun e w' => e = .returned (.tuple #[.string (S (d.dur.getD i [])), .int .i64 0]) ∧ Below w.heap.size w w' := by
  have href := fun W (hW : DevAt W D R (.slice none 0 0) d) => refuses_any hW i
  rw [hr] at href
  have h0 := h.later ((((Onl.refl [] w).alloc (.cells #[.int .i64 (i : Int)] 3)).alloc (.cells #[.string ⟨#[]⟩] 9)).alloc (.cells #[.int .i64 0] 33)) (by simp)
  have HREF := Lib.hid (href _ h0)
  obtain ⟨⟨c0, c1, c2, c3, c4, c5, c6⟩, ⟨f0, f1, f2, f3, f4, f5, f6⟩, hlt⟩ := h0.cells
  have H0 := Lib.hid h0
  clear href h0 c2 c3 c4 c5 c6 f2 f3 f4 f5 f6
  refine callsIn_wide.1 (callsIn_of_wp_marks (n := 5) Try.func7 rfl trivial (wpIn_wide.2 ?_))
  simp only [Try.ntmps7, List.size_toArray, List.length_cons, List.length_nil, Nat.reduceAdd, Nat.reduceSub, Array.replicate_succ, Array.replicate_zero, List.push_toArray, List.append_toArray, List.nil_append, List.cons_append]
  go_wp2_with fail
  refine HREF.out.mono ?_
  rintro e w1 ⟨rfl, rfl⟩
  go_wp2_with fail
  refine (back_any _ ⟨_, _, _, rfl⟩ _).mono ?_
  rintro e w1 ⟨rfl, rfl⟩
  go_wp2_with fail
  have hbs := World.alloc_heap_new (((w.alloc (.cells #[.int .i64 (i : Int)] 3)).alloc (.cells #[.string ⟨#[]⟩] 9)).alloc (.cells #[.int .i64 0] 33)) (.cells #[.slice none 0 0] 55)
  have hb4 : Below w.heap.size w ((((w.alloc (.cells #[.int .i64 (i : Int)] 3)).alloc (.cells #[.string ⟨#[]⟩] 9)).alloc (.cells #[.int .i64 0] 33)).alloc (.cells #[.slice none 0 0] 55)) :=
    ((((Below.refl _ w).alloc (Nat.le_refl _) _).alloc (by simp) _).alloc (by simp <;> omega) _).alloc (by simp <;> omega) _
  have h4 := H0.out.later ((Onl.refl [] _).alloc (.cells #[.slice none 0 0] 55)) (by simp)
  have q0 : ((((w.alloc (.cells #[.int .i64 (i : Int)] 3)).alloc (.cells #[.string ⟨#[]⟩] 9)).alloc (.cells #[.int .i64 0] 33)).alloc (.cells #[.slice none 0 0] 55)).heap[w.heap.size]? = some (.cells #[.int .i64 (i : Int)] 3) :=
    (Below.heap_alloc _ _ _ (by simp <;> omega)).trans ((Below.heap_alloc _ _ _ (by simp <;> omega)).trans ((Below.heap_alloc _ _ _ (by simp)).trans (World.alloc_heap_new _ _)))
  have q1 : ((((w.alloc (.cells #[.int .i64 (i : Int)] 3)).alloc (.cells #[.string ⟨#[]⟩] 9)).alloc (.cells #[.int .i64 0] 33)).alloc (.cells #[.slice none 0 0] 55)).heap[w.heap.size + 1]? = some (.cells #[.string ⟨#[]⟩] 9) := by
    have := World.alloc_heap_new (w.alloc (.cells #[.int .i64 (i : Int)] 3)) (.cells #[.string ⟨#[]⟩] 9)
    rw [World.size_alloc] at this
    exact (Below.heap_alloc _ _ _ (by simp <;> omega)).trans ((Below.heap_alloc _ _ _ (by simp)).trans this)
  have q2 : ((((w.alloc (.cells #[.int .i64 (i : Int)] 3)).alloc (.cells #[.string ⟨#[]⟩] 9)).alloc (.cells #[.int .i64 0] 33)).alloc (.cells #[.slice none 0 0] 55)).heap[w.heap.size + 1 + 1]? = some (.cells #[.int .i64 0] 33) := by
    have := World.alloc_heap_new ((w.alloc (.cells #[.int .i64 (i : Int)] 3)).alloc (.cells #[.string ⟨#[]⟩] 9)) (.cells #[.int .i64 0] 33)
    rw [World.size_alloc, World.size_alloc] at this
    exact (Below.heap_alloc _ _ _ (by simp)).trans this
  simp only [World.size_alloc] at hbs
  have hsz : ((((w.alloc (.cells #[.int .i64 (i : Int)] 3)).alloc (.cells #[.string ⟨#[]⟩] 9)).alloc (.cells #[.int .i64 0] 33)).alloc (.cells #[.slice none 0 0] 55)).heap.size = w.heap.size + 4 := by simp
  generalize ((((w.alloc (.cells #[.int .i64 (i : Int)] 3)).alloc (.cells #[.string ⟨#[]⟩] 9)).alloc (.cells #[.int .i64 0] 33)).alloc (.cells #[.slice none 0 0] 55)) = W4 at *
  clear HREF H0 c0 c1 f0 f1 hlt
  refine wpIn_wide.1 (wpIn_rangeFunc_ownF (n := 5) (F := Fence.wide) (α := Empty) (encs := fun x => x.elim) (Kp := Below W4.heap.size) rfl (by omega) (gf := 35) (lb := #[.pointer (some ⟨w.heap.size + 1 + 1 + 1, 0, none⟩)]) rfl trivial (enters_of Try.func35 (by kernel_rfl) rfl)
    (back_stops _ W4 ((cell_of_row W4 _ _ _ _ (0, 0) hbs).trans rfl) (by omega) _ _ _) belowK_t (belowK_b (Nat.le_refl _)) (Below.refl _ _) (fun x => x.elim)
    (fun _ W => Below W4.heap.size W4 W) (fun _ _ _ => False) (ownFrom_below (Nat.le_refl _) (Nat.le_refl _)) (fun _ _ _ _ _ hs _ _ => hs) (Below.refl _ _) (fun x => x.elim) (fun _ x => x.elim) (fun _ _ x => x.elim) ?done ?stop)
  case stop =>
    rintro D c pre W _ h _
    exact h.elim
  case done =>
    rintro E ys W hE rfl hB hK
    have h5 := h4.later (Onl.of_below hB []) (by simp)
    have p0 : W.cell? ⟨w.heap.size, 0, none⟩ = some (.int .i64 (i : Int)) := (cell_of_row W _ _ _ _ (0, 0) ((hB.block _ (by omega)).trans q0)).trans rfl
    have p1 := (hB.block (w.heap.size + 1) (by omega)).trans q1
    have p2 := (hB.block (w.heap.size + 1 + 1) (by omega)).trans q2
    have hbw := hb4.trans (hB.mono (by omega))
    obtain ⟨⟨c0, c1, c2, c3, c4, c5, c6⟩, ⟨f0, f1, f2, f3, f4, f5, f6⟩, hlt⟩ := h5.cells
    have H5 := Lib.hid h5
    have hcv := sec_conv (h5.later (Onl.refl [] W).drew (by simp)) i hi
    have hii : (i : Int) < (d.dur.length : Int) := by omega
    have hlw : w.heap.size + 4 ≤ W.heap.size := by have := hB.size; omega
    clear h5 c1 c2 c3 c4 c5 c6 f1 f2 f3 f4 f5 f6 h4 q0 q1 q2 hbs
    have s1 := cell_of_row W (w.heap.size + 1) 0 _ _ (0, 0) p1
    have s2 := frozen_of_row W (w.heap.size + 1) 0 _ _ p1
    have s3 := cell_of_row W (w.heap.size + 1 + 1) 0 _ _ (0, 0) p2
    have s4 := frozen_of_row W (w.heap.size + 1 + 1) 0 _ _ p2
    replace s1 := s1.trans rfl
    replace s3 := s3.trans rfl
    go_wp2_with fail
    generalize hsec : d.dur.getD i [] = sec at *
    have HSEC := Lib.hid hsec
    clear hsec
    go_region
    go_wp2_with fail
    have hK2 : (((W.setCell ⟨w.heap.size + 1, 0, none⟩ (.string (S sec))).setCell ⟨w.heap.size + 1 + 1, 0, none⟩ (.int .i64 0)).drew).heap[E]? = some (.deferred (some [])) :=
      (KeepsOthers.setCell (W.setCell ⟨w.heap.size + 1, 0, none⟩ (.string (S sec))) ⟨w.heap.size + 1 + 1, 0, none⟩ (.int .i64 0)).same E _ ((KeepsOthers.setCell W ⟨w.heap.size + 1, 0, none⟩ (.string (S sec))).same E _ hK rfl) rfl
    have e1 : (((W.setCell ⟨w.heap.size + 1, 0, none⟩ (.string (S sec))).setCell ⟨w.heap.size + 1 + 1, 0, none⟩ (.int .i64 0)).drew).cell? ⟨w.heap.size + 1, 0, none⟩ = some (.string (S sec)) := by
      rw [World.cell?_drew, World.cell?_setCell_far _ _ _ _ (by simp), World.cell?_setCell_same' _ _ _ (by rw [s1]; rfl)]
    have e2 : (((W.setCell ⟨w.heap.size + 1, 0, none⟩ (.string (S sec))).setCell ⟨w.heap.size + 1 + 1, 0, none⟩ (.int .i64 0)).drew).cell? ⟨w.heap.size + 1 + 1, 0, none⟩ = some (.int .i64 0) := by
      rw [World.cell?_drew, World.cell?_setCell_same' _ _ _ (by rw [World.cell?_setCell_far _ _ _ _ (by simp), s3]; rfl)]
    have hb6 : Below w.heap.size w (((W.setCell ⟨w.heap.size + 1, 0, none⟩ (.string (S sec))).setCell ⟨w.heap.size + 1 + 1, 0, none⟩ (.int .i64 0)).drew) :=
      ((hbw.setCell (p := ⟨w.heap.size + 1, 0, none⟩) (by simp) _).setCell (p := ⟨w.heap.size + 1 + 1, 0, none⟩) (by simp <;> omega) _).drew
    generalize (((W.setCell ⟨w.heap.size + 1, 0, none⟩ (.string (S sec))).setCell ⟨w.heap.size + 1 + 1, 0, none⟩ (.int .i64 0)).drew) = V at *
    refine ⟨by simp, .inl ⟨_, _, rfl, run_takeDeferred hK2, ?_⟩⟩
    have g1 := cell_kept e1 (grownBy_putObj' _ E (.deferred none)) (fun r e => by cases e; exact ⟨_, hK2, rfl⟩)
    have g2 := cell_kept e2 (grownBy_putObj' _ E (.deferred none)) (fun r e => by cases e; exact ⟨_, hK2, rfl⟩)
    refine ⟨_, ?_, by rw [HSEC.out], hb6.trans (belowK_b (w := w) (Nat.le_refl _) V E _ _ (by omega) hK2 rfl rfl)⟩
    simp [results, Try.f7, go_sem, g1, g2]
end Go.Proofs.Ytfmcbccmijcdgaa.Bk
