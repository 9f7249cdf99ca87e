/-
  Read with writes pending.
-/
import Derived.Test.YtfmcbccmijcdgaaBkIter
import Derived.Test.YtfmcbccmijcdgaaBkPair
namespace Go.Proofs.Ytfmcbccmijcdgaa.Bk
open Go.RowKit Go.Shelf
attribute [local go_sem] Oper.semAt_some

theorem wr_conv {w : World} {B a : Nat} {s : List UInt8} (h : w.heap[B]? = some (.cells (wrC a s).toArray 68 (0, 0))) (hs : s.length = 64) :
    (convert 69 9 (.slice (some ⟨B, 1, none⟩) 64 64)).run Try.prog w = .ok (.string (S s)) w := by
  have := run_convert_bytes_back (P := Try.prog) w 69 9 5 ⟨B, 1, none⟩ 64 s Try.underlying69 Try.underlying5 Try.underlying9
    (fun j hj => by
      rw [Addr.add_mid, cell_of_row w B _ _ _ (0, 0) h, List.getElem?_toArray, Nat.add_comm 1 j]
      simp [wrC, secC, List.getElem?_eq_getElem hj])
  rw [hs] at this
  exact this

set_option maxRecDepth 100000 in
set_option maxHeartbeats 3200000 in
theorem read_some {w : World} {D R g cap : Nat} {d : Dev} (h : DevAt w D R (.slice (some ⟨g, 0, none⟩) d.pend.length cap) d) (hm : d.pend.length ≤ 1000) (i : Nat) (hr : refE d i = 0) (hi : i < d.dur.length) :
    Calls Try.prog 7 #[.pointer (some ⟨D, 0, none⟩), .int .i64 (i : Int)] w fun e w' =>
      e = .returned (.tuple #[.string (S (lastW d.pend (d.dur.getD i []) i d.pend.length)), .int .i64 0]) ∧ Below w.heap.size w w' := by
  obtain ⟨sec, hsec⟩ : ∃ x, d.dur.getD i [] = x := ⟨_, rfl⟩
  rw [hsec]
  have HSEC := Lib.hid hsec
  clear hsec
  have href := fun W (hW : DevAt W D R (.slice (some ⟨g, 0, none⟩) d.pend.length cap) d) => refuses_any hW i
  rw [hr] at href
  have hg := h.lt g (mem_blocks.2 (.inr (.inr (by simp [Value.ownBlock]))))
  have hp64 : ∀ x ∈ d.pend, x.2.length = 64 := fun x hx => (h.ok.pend x hx).2
  have h0 := h.later ((((Onl.refl [] w).alloc (.cells #[.int .i64 (i : Int)] 3)).alloc (.cells #[.string ⟨#[]⟩] 9)).alloc (.cells #[.int .i64 0] 33)) (by simp)
  have HREF := Lib.hid (href _ h0)
  obtain ⟨⟨c0, c1, c2, c3, c4, c5, c6⟩, ⟨f0, f1, f2, f3, f4, f5, f6⟩, hlt⟩ := h0.cells
  have H0 := Lib.hid h0
  have HW := Lib.hid h
  have HP := Lib.hid hp64
  have HM := Lib.hid hm
  clear href h0 h hp64 hm c2 c3 c4 c5 c6 f2 f3 f4 f5 f6
  generalize hlen : d.pend.length = len at *
  have HLEN := Lib.hid hlen
  clear hlen
  refine callsIn_wide.1 (callsIn_of_wp_marks (n := 5) Try.func7 rfl trivial (wpIn_wide.2 ?_))
  simp only [Try.ntmps7, List.size_toArray, List.length_cons, List.length_nil, Nat.reduceAdd, Nat.reduceSub, Array.replicate_succ, Array.replicate_zero, List.push_toArray, List.append_toArray, List.nil_append, List.cons_append]
  go_wp2_with fail
  refine HREF.out.mono ?_
  rintro e w1 ⟨rfl, rfl⟩
  go_wp2_with fail
  refine (back_any _ ⟨_, _, _, rfl⟩ _).mono ?_
  rintro e w1 ⟨rfl, rfl⟩
  go_wp2_with fail
  have hbs := World.alloc_heap_new (((w.alloc (.cells #[.int .i64 (i : Int)] 3)).alloc (.cells #[.string ⟨#[]⟩] 9)).alloc (.cells #[.int .i64 0] 33)) (.cells #[.slice (some ⟨g, 0, none⟩) len cap] 55)
  have hb4 : Below w.heap.size w ((((w.alloc (.cells #[.int .i64 (i : Int)] 3)).alloc (.cells #[.string ⟨#[]⟩] 9)).alloc (.cells #[.int .i64 0] 33)).alloc (.cells #[.slice (some ⟨g, 0, none⟩) len cap] 55)) :=
    ((((Below.refl _ w).alloc (Nat.le_refl _) _).alloc (by simp) _).alloc (by simp <;> omega) _).alloc (by simp <;> omega) _
  have h4 := H0.out.later ((Onl.refl [] _).alloc (.cells #[.slice (some ⟨g, 0, none⟩) len cap] 55)) (by simp)
  have b0 : Boxed ((((w.alloc (.cells #[.int .i64 (i : Int)] 3)).alloc (.cells #[.string ⟨#[]⟩] 9)).alloc (.cells #[.int .i64 0] 33)).alloc (.cells #[.slice (some ⟨g, 0, none⟩) len cap] 55)) w.heap.size 3 (.int .i64 (i : Int)) :=
    (((Boxed.new w 3 (.int .i64 (i : Int))).alloc _).alloc _).alloc _
  have b1 : Boxed ((((w.alloc (.cells #[.int .i64 (i : Int)] 3)).alloc (.cells #[.string ⟨#[]⟩] 9)).alloc (.cells #[.int .i64 0] 33)).alloc (.cells #[.slice (some ⟨g, 0, none⟩) len cap] 55)) (w.heap.size + 1) 9 (.string ⟨#[]⟩) := by
    have := ((Boxed.new (w.alloc (.cells #[.int .i64 (i : Int)] 3)) 9 (.string ⟨#[]⟩)).alloc (.cells #[.int .i64 0] 33)).alloc (.cells #[.slice (some ⟨g, 0, none⟩) len cap] 55)
    rwa [World.size_alloc] at this
  have b2 : Boxed ((((w.alloc (.cells #[.int .i64 (i : Int)] 3)).alloc (.cells #[.string ⟨#[]⟩] 9)).alloc (.cells #[.int .i64 0] 33)).alloc (.cells #[.slice (some ⟨g, 0, none⟩) len cap] 55)) (w.heap.size + 1 + 1) 33 (.int .i64 0) := by
    have := (Boxed.new ((w.alloc (.cells #[.int .i64 (i : Int)] 3)).alloc (.cells #[.string ⟨#[]⟩] 9)) 33 (.int .i64 0)).alloc (.cells #[.slice (some ⟨g, 0, none⟩) len cap] 55)
    rwa [World.size_alloc, World.size_alloc] at this
  simp only [World.size_alloc] at hbs
  have b3 : Boxed ((((w.alloc (.cells #[.int .i64 (i : Int)] 3)).alloc (.cells #[.string ⟨#[]⟩] 9)).alloc (.cells #[.int .i64 0] 33)).alloc (.cells #[.slice (some ⟨g, 0, none⟩) len cap] 55)) (w.heap.size + 1 + 1 + 1) 55 (.slice (some ⟨g, 0, none⟩) len cap) := hbs
  have hsz : ((((w.alloc (.cells #[.int .i64 (i : Int)] 3)).alloc (.cells #[.string ⟨#[]⟩] 9)).alloc (.cells #[.int .i64 0] 33)).alloc (.cells #[.slice (some ⟨g, 0, none⟩) len cap] 55)).heap.size = w.heap.size + 4 := by simp
  generalize ((((w.alloc (.cells #[.int .i64 (i : Int)] 3)).alloc (.cells #[.string ⟨#[]⟩] 9)).alloc (.cells #[.int .i64 0] 33)).alloc (.cells #[.slice (some ⟨g, 0, none⟩) len cap] 55)) = W4 at *
  clear HREF H0 c0 c1 f0 f1 hlt
  have hrng : ∀ j, j < len → W4.rangeAt g (j * 65) (wrC (elW d.pend j).1.1 (elW d.pend j).1.2) := fun j hj => by
    rw [elW_at d.pend HP.out j (by rw [HLEN.out]; exact hj)]
    exact h4.load HLEN.out.symm j (by rw [HLEN.out]; exact hj)
  refine wpIn_wide.1 (wpIn_rangeFunc_ownH (n := 5) (F := Fence.wide) (α := Nat × Wr) (encs := encW) (Kp := Below W4.heap.size) rfl (by omega) (gf := 35) (lb := #[.pointer (some ⟨w.heap.size + 1 + 1 + 1, 0, none⟩)]) rfl trivial (enters_of Try.func35 (by kernel_rfl) rfl)
    (back_stops_some 4 (by omega) (w.heap.size + 1 + 1 + 1) W4.heap.size g len cap (elW d.pend) HM.out (by omega) (by omega) W4 ((cell_of_row W4 _ _ _ _ (0, 0) hbs).trans rfl) (by omega) (by omega) hrng) belowK_t (belowK_b (Nat.le_refl _)) (Below.refl _ _) (fun x => rfl)
    (fun pre W => (((((∀ x ∈ pre, x.2.1.1 ≠ i) ∧ Boxed W (w.heap.size + 1) 9 (.string ⟨#[]⟩)) ∧ Boxed W (w.heap.size + 1 + 1) 33 (.int .i64 0)) ∧ Boxed W w.heap.size 3 (.int .i64 (i : Int))) ∧ Boxed W (w.heap.size + 1 + 1 + 1) 55 (.slice (some ⟨g, 0, none⟩) len cap)) ∧ Below w.heap.size w W)
    (fun c pre W => (((c = .ret ∧ ∃ ini last, pre = ini ++ [last] ∧ (∀ x ∈ ini, x.2.1.1 ≠ i) ∧ last.2.1.1 = i) ∧ ∃ last, pre.getLast? = some last ∧ Boxed W (w.heap.size + 1) 9 (.string (S last.2.1.2))) ∧ Boxed W (w.heap.size + 1 + 1) 33 (.int .i64 0)) ∧ Below w.heap.size w W)
    (OwnFrom.and (OwnFrom.and (OwnFrom.and (OwnFrom.and (OwnFrom.and (ownFrom_pure _ _) (Own.from (boxed_own _ _ _) _)) (Own.from (boxed_own _ _ _) _)) (Own.from (boxed_own _ _ _) _)) (Own.from (boxed_own _ _ _) _)) (ownFrom_below (Nat.le_refl _) (by omega)))
    (fun c => OwnFrom.and (OwnFrom.and (OwnFrom.and (ownFrom_pure _ _) (fun s X Y row hs hg hr => by obtain ⟨last, e1, e2⟩ := hs; exact ⟨last, e1, boxed_own _ _ (fun (_ : Unit) => Value.string (S last.2.1.2)) () X Y row e2 hg (fun r e => (hr r e).2)⟩)) (Own.from (boxed_own _ _ _) _)) (ownFrom_below (Nat.le_refl _) (by omega)))
    ⟨⟨⟨⟨⟨by simp, b1⟩, b2⟩, b0⟩, b3⟩, hb4⟩
    (fun x a' W => ∃ Bx, W4.heap.size ≤ Bx ∧ W.heap[Bx]? = some (.cells (wrC x.2.1.1 x.2.1.2).toArray 68 (0, 0)) ∧ a' = { tmps := #[.pointer (some ⟨D, 0, none⟩), .int .i64 (i : Int), undef, .pointer (some ⟨w.heap.size, 0, none⟩), .pointer (some ⟨w.heap.size + 1, 0, none⟩), .pointer (some ⟨w.heap.size + 1 + 1, 0, none⟩), .int .i64 0, undef, .pointer (some ⟨Bx, 0, none⟩), .pointer (some ⟨D, 0, none⟩), .int .i64 (i : Int), .int .i64 0, .int .i64 0, .bool false, undef, .pointer (some ⟨D, 0, none⟩), .pointer (some ⟨D, 0, none⟩), .pointer (some ⟨D, 1, none⟩), .slice (some ⟨g, 0, none⟩) len cap, .func (.func 35) #[] #[.pointer (some ⟨w.heap.size + 1 + 1 + 1, 0, none⟩)], .int .i64 (x.1 : Int), .agg (wrC x.2.1.1 x.2.1.2).toArray, undef, undef, undef, undef, undef, undef, undef, undef, undef, undef, undef, undef, undef, undef, undef], defers := [] })
    (fun x a' _ X Y row hs hg hr => by
      obtain ⟨Bx, e1, e2, e3⟩ := hs
      refine ⟨Bx, e1, (hg.block Bx (lt_of_heap e2) (fun e' => ?_)).trans e2, e3⟩
      obtain ⟨_, o, ho, hc⟩ := hr Bx e'.symm
      rw [e2] at ho; cases ho; cases hc)
    ?assign ?body ?done ?stop)
  case assign =>
    rintro l pre ⟨q, ⟨⟨a, s⟩, hs⟩⟩ W K ⟨⟨⟨⟨⟨hp, d1⟩, d2⟩, d0⟩, d3⟩, hB⟩ hK
    have hs : s.length = 64 := hs
    have hst := store_fresh W 68 (wrC 0 Z64) (wrC a s) (by rw [wrC_length, hs]; exact size_wr) (by rw [wrC_length, wrC_length, hs, Z64_length]) (wrC_one a s)
    have hzw := zero_wr
    have hwn := wr_ne
    have h65 : (wrC a s).length = 65 := by rw [wrC_length, hs]
    have hd3 := d3.lt
    have hW4 : W4.heap.size ≤ W.heap.size := by omega
    simp only [encW]
    gi_wp2
    exact hK _ _ ((KeepsOthers.alloc _ _).from _) ((Below.refl _ W).alloc hW4 _) ⟨⟨⟨⟨⟨hp, d1.alloc _⟩, d2.alloc _⟩, d0.alloc _⟩, d3.alloc _⟩, hB.alloc hB.size _⟩ ⟨W.heap.size, hW4, World.alloc_heap_new W _, rfl⟩
  case body =>
    rintro l pre ⟨q, ⟨⟨a, s⟩, hs⟩⟩ a' W hl hr0 ⟨⟨⟨⟨⟨hp, d1⟩, d2⟩, d0⟩, d3⟩, hB⟩ ⟨Bx, hBx, bX, rfl⟩ hlt
    have hs : s.length = 64 := hs
    simp only at bX
    have x0 : W.cell? ⟨Bx, 0, none⟩ = some (.int .i64 (a : Int)) := by rw [cell_of_row W Bx 0 _ _ (0, 0) bX]; simp [wrC]
    have y0 := d0.cell
    have y1 := d1.cell
    have z1 := d1.frozen
    have y2 := d2.cell
    have z2 := d2.frozen
    by_cases ha : a = i
    · subst ha
      have hcv := wr_conv bX hs
      have D1 := Lib.hid (((d1.set (.string (S s))).other (B' := w.heap.size + 1 + 1) (by omega) (.int .i64 0)))
      have D2 := Lib.hid ((d2.other (B' := w.heap.size + 1) (by omega) (.string (S s))).set (.int .i64 0))
      have HB2 := Lib.hid ((hB.setCell (p := ⟨w.heap.size + 1, 0, none⟩) (by simp) (.string (S s))).setCell (p := ⟨w.heap.size + 1 + 1, 0, none⟩) (by simp <;> omega) (.int .i64 0))
      gi_wp2
      exact ⟨((KeepsOthers.setCell _ _ _).trans (KeepsOthers.setCell _ _ _)).from _, ⟨⟨⟨rfl, pre, _, rfl, hp, rfl⟩, _, List.getLast?_concat .., D1.out⟩, D2.out⟩, HB2.out⟩
    · have ha1 : ((a : Int) == (i : Int)) = false := by simp; omega
      gi_wp2
      exact ⟨KeepsFrom.refl _ _, Below.refl _ _, ⟨⟨⟨⟨⟨fun y hy => (List.mem_append.1 hy).elim (hp y) (fun e => by simp at e; subst e; exact ha), d1⟩, d2⟩, d0⟩, d3⟩, hB⟩⟩
  case stop =>
    rintro E c pre W hE ⟨k, hk, rfl⟩ ⟨⟨⟨⟨rfl, ini, last, e1, e2, e3⟩, last', e4, bb1⟩, bb2⟩, hB⟩ hK
    rw [e1, List.getLast?_concat] at e4
    obtain rfl : last = last' := by simpa using e4
    rw [← HLEN.out] at e1 hk
    have hv := last_some d.pend HP.out sec i k hk ini last e1 e2 e3
    rw [HLEN.out] at hv
    have g1 := cell_kept bb1.cell (grownBy_putObj' _ E (.deferred none)) (fun r e => by cases e; exact ⟨_, hK, rfl⟩)
    have g2 := cell_kept bb2.cell (grownBy_putObj' _ E (.deferred none)) (fun r e => by cases e; exact ⟨_, hK, rfl⟩)
    refine wpIn_wide.2 ?_
    go_wp2_with fail
    refine ⟨by simp, .inl ⟨_, _, rfl, run_takeDeferred hK, ?_⟩⟩
    refine ⟨_, ?_, rfl, hB.trans (belowK_b (w := w) (Nat.le_refl _) W E _ _ (by omega) hK rfl rfl)⟩
    simp [results, Try.f7, go_sem, g1, g2]
  case done =>
    rintro E ys W hE rfl ⟨⟨⟨⟨⟨hp, d1⟩, d2⟩, d0⟩, d3⟩, hB⟩ hK
    have hv := last_none d.pend HP.out sec i len (by rw [HLEN.out]; omega) (by rw [HLEN.out]; exact hp)
    rw [HLEN.out, Nat.sub_self] at hv
    have HV := Lib.hid hv
    have h5 := HW.out.later (Onl.of_below hB []) (by simp)
    have p0 := d0.cell
    have s1 := d1.cell
    have s2 := d1.frozen
    have s3 := d2.cell
    have s4 := d2.frozen
    obtain ⟨⟨c0, c1, c2, c3, c4, c5, c6⟩, ⟨f0, f1, f2, f3, f4, f5, f6⟩, hlt⟩ := h5.cells
    have hcv := sec_conv (h5.later (Onl.refl [] W).drew (by simp)) i hi
    rw [HSEC.out] at hcv
    have hii : (i : Int) < (d.dur.length : Int) := by omega
    have hlw : w.heap.size + 4 ≤ W.heap.size := by have := d3.lt; omega
    have HB := Lib.hid hB
    clear h5 c1 c2 c3 c4 c5 c6 f1 f2 f3 f4 f5 f6 h4 b0 b1 b2 b3 hbs hv hp hB d0 d1 d2 d3 hrng
    go_wp2_with fail
    go_region
    go_wp2_with fail
    have hK2 : (((W.setCell ⟨w.heap.size + 1, 0, none⟩ (.string (S sec))).setCell ⟨w.heap.size + 1 + 1, 0, none⟩ (.int .i64 0)).drew).heap[E]? = some (.deferred (some [])) :=
      (KeepsOthers.setCell (W.setCell ⟨w.heap.size + 1, 0, none⟩ (.string (S sec))) ⟨w.heap.size + 1 + 1, 0, none⟩ (.int .i64 0)).same E _ ((KeepsOthers.setCell W ⟨w.heap.size + 1, 0, none⟩ (.string (S sec))).same E _ hK rfl) rfl
    have e1 : (((W.setCell ⟨w.heap.size + 1, 0, none⟩ (.string (S sec))).setCell ⟨w.heap.size + 1 + 1, 0, none⟩ (.int .i64 0)).drew).cell? ⟨w.heap.size + 1, 0, none⟩ = some (.string (S sec)) := by
      rw [World.cell?_drew, World.cell?_setCell_far _ _ _ _ (by simp), World.cell?_setCell_same' _ _ _ (by rw [s1]; rfl)]
    have e2 : (((W.setCell ⟨w.heap.size + 1, 0, none⟩ (.string (S sec))).setCell ⟨w.heap.size + 1 + 1, 0, none⟩ (.int .i64 0)).drew).cell? ⟨w.heap.size + 1 + 1, 0, none⟩ = some (.int .i64 0) := by
      rw [World.cell?_drew, World.cell?_setCell_same' _ _ _ (by rw [World.cell?_setCell_far _ _ _ _ (by simp), s3]; rfl)]
    have hb6 : Below w.heap.size w (((W.setCell ⟨w.heap.size + 1, 0, none⟩ (.string (S sec))).setCell ⟨w.heap.size + 1 + 1, 0, none⟩ (.int .i64 0)).drew) :=
      ((HB.out.setCell (p := ⟨w.heap.size + 1, 0, none⟩) (by simp) _).setCell (p := ⟨w.heap.size + 1 + 1, 0, none⟩) (by simp <;> omega) _).drew
    generalize (((W.setCell ⟨w.heap.size + 1, 0, none⟩ (.string (S sec))).setCell ⟨w.heap.size + 1 + 1, 0, none⟩ (.int .i64 0)).drew) = V at *
    refine ⟨by simp, .inl ⟨_, _, rfl, run_takeDeferred hK2, ?_⟩⟩
    have g1 := cell_kept e1 (grownBy_putObj' _ E (.deferred none)) (fun r e => by cases e; exact ⟨_, hK2, rfl⟩)
    have g2 := cell_kept e2 (grownBy_putObj' _ E (.deferred none)) (fun r e => by cases e; exact ⟨_, hK2, rfl⟩)
    refine ⟨_, ?_, by rw [HV.out], hb6.trans (belowK_b (w := w) (Nat.le_refl _) V E _ _ (by omega) hK2 rfl rfl)⟩
    simp [results, Try.f7, go_sem, g1, g2, lastW]

/-- Read, of a sector that is there. -/
theorem read_any {w : World} {D R : Nat} {pv : Value} {d : Dev} (h : DevAt w D R pv d) (hm : d.pend.length ≤ 1000) (i : Nat) (hr : refE d i = 0) (hi : i < d.dur.length) :
    Calls Try.prog 7 #[.pointer (some ⟨D, 0, none⟩), .int .i64 (i : Int)] w fun e w' =>
      e = .returned (.tuple #[.string (S (lastW d.pend (d.dur.getD i []) i d.pend.length)), .int .i64 0]) ∧ Below w.heap.size w w' := by
  rcases own_form h.own with ⟨rfl, h0⟩ | ⟨g, cap, rfl⟩
  · have := read_now h i hr hi
    rw [h0]
    exact this
  · exact read_some h hm i hr hi

end Go.Proofs.Ytfmcbccmijcdgaa.Bk
