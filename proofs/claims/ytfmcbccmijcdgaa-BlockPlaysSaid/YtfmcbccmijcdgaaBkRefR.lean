/-
  The document's own device: Read.
-/
import Derived.Test.YtfmcbccmijcdgaaBkRefA
import Derived.Test.YtfmcbccmijcdgaaBkReadAll
namespace Go.Proofs.Ytfmcbccmijcdgaa.Bk
open Go.RowKit

theorem waitC_at (p : List (Nat × List UInt8)) (k : Nat) (hk : k < p.length) : (waitC p)[k * 2]? = some (.int .i64 ((p.getD k (0, [])).1 : Int)) ∧ (waitC p)[k * 2 + 1]? = some (.string (S (p.getD k (0, [])).2)) := by
  induction p generalizing k with
  | nil => simp at hk
  | cons a p ih =>
    show ([Value.int .i64 (a.1 : Int), .string (S a.2)] ++ waitC p)[k * 2]? = _ ∧ ([Value.int .i64 (a.1 : Int), .string (S a.2)] ++ waitC p)[k * 2 + 1]? = _
    cases k with
    | zero => exact ⟨rfl, rfl⟩
    | succ k =>
      have := ih k (by simpa using hk)
      rw [List.getElem?_append_right (by simp; omega), List.getElem?_append_right (by simp; omega)]
      rw [show (k + 1) * 2 - [Value.int .i64 (a.1 : Int), .string (S a.2)].length = k * 2 by simp; omega, show (k + 1) * 2 + 1 - [Value.int .i64 (a.1 : Int), .string (S a.2)].length = k * 2 + 1 by simp; omega]
      exact this

set_option maxRecDepth 100000 in
set_option maxHeartbeats 1600000 in
theorem refRead_some {w : World} {B g1 c1 g2 c2 : Nat} {tv : Value} {d : Dev} (h : RefAt w B (.slice (some ⟨g1, 0, none⟩) d.dur.length c1) (.slice (some ⟨g2, 0, none⟩) d.pend.length c2) tv d) (i : Nat) (hm : d.pend.length ≤ 1000) (hoff : d.off = false) (hi : i < d.dur.length) :
    Calls Try.prog 8 #[.pointer (some ⟨B, 0, none⟩), .int .i64 (i : Int)] w fun e w' =>
      e = .returned (.tuple #[.string (S (lastW d.pend (d.dur.getD i []) i d.pend.length)), .int .i64 0]) ∧ Below w.heap.size w w' := by
  obtain ⟨⟨c0, c1', c2', c3, c4, c5, c6, c7⟩, hf, hlt⟩ := h.cells
  rw [hoff] at c2'
  have hl : w.cell? ⟨g1, i, none⟩ = some (.string (S (d.dur.getD i []))) := by
    have := h.lasts.cellAt i (by omega)
    rw [this]; simp [strC, List.getD, hi]
  have hw : ∀ k, k < d.pend.length → w.cell? ⟨g2, k * 2, none⟩ = some (.int .i64 ((d.pend.getD k (0, [])).1 : Int)) ∧ w.cell? ⟨g2, k * 2 + 1, none⟩ = some (.string (S (d.pend.getD k (0, [])).2)) := fun k hk => by
    have := waitC_at d.pend k hk
    exact ⟨(h.waits.cellAt (k * 2) (by omega)).trans this.1, (h.waits.cellAt (k * 2 + 1) (by omega)).trans this.2⟩
  have hg2 := (h.waits.lt g2 rfl).2
  have hii : (i : Int) < (d.dur.length : Int) := by omega
  have hge : ¬ (d.dur.length : Int) ≤ (i : Int) := by omega
  have h0i : ¬ (i : Int) < 0 := by omega
  have HW := Lib.hid hw
  generalize d.dur.getD i [] = sv at *
  clear h hw c3 c4 c5 c6 c7 hf hoff
  go_enter Try.func8, Try.ntmps8
  go_wp2_with fail
  go_loopw [6, 36] (fun s j wr => ∃ k : Nat, k ≤ d.pend.length ∧ j = .int .i64 k ∧ s = .string (S (lastW d.pend sv i k)) ∧ Below w.heap.size w wr) (fun _ j _ => d.pend.length - (intOf j).toNat)
  case atStart => exact ⟨0, by omega, rfl, rfl, Below.refl _ _⟩
  case round =>
    obtain ⟨k, hkm, rfl, rfl, hb⟩ := hrel
    have HB := Lib.hid hb
    by_cases hlt2 : k < d.pend.length
    · have e0 := (hb.cell (p := ⟨g2, k * 2, none⟩) hg2).trans (HW.out k hlt2).1
      have e1 := (hb.cell (p := ⟨g2, k * 2 + 1, none⟩) hg2).trans (HW.out k hlt2).2
      have hlw : lastW d.pend sv i (k + 1) = if (d.pend.getD k (0, [])).1 = i then (d.pend.getD k (0, [])).2 else lastW d.pend sv i k := rfl
      have HLW := Lib.hid hlw
      have hsz := hb.size
      clear hlw hb
      generalize d.pend.getD k (0, []) = x at *
      obtain ⟨a, l⟩ := x
      simp only at e0 e1
      by_cases ha : a = i
      · have HA := Lib.hid ha
        have ha1 : ((a : Int) == (i : Int)) = true := by simp; omega
        clear ha
        go_wp2_with fail
        go_roundw
        case rel => exact ⟨k + 1, by omega, by go_num, by rw [HLW.out, if_pos HA.out], HB.out.alloc hsz _⟩
        case measure => simp [intOf]; omega
      · have HA := Lib.hid ha
        have ha1 : ((a : Int) == (i : Int)) = false := by simp; omega
        clear ha
        go_wp2_with fail
        go_roundw
        case rel => exact ⟨k + 1, by omega, by go_num, by rw [HLW.out, if_neg HA.out], HB.out.alloc hsz _⟩
        case measure => simp [intOf]; omega
    · obtain rfl : k = d.pend.length := by omega
      go_wp2_with fail
      refine bodyPost_ret (results_tmp2 rfl _ _ _) rfl ?_
      exact ⟨rfl, HB.out⟩

set_option maxRecDepth 100000 in
set_option maxHeartbeats 1600000 in
theorem refRead_none {w : World} {B g1 c1 : Nat} {tv : Value} {d : Dev} (h : RefAt w B (.slice (some ⟨g1, 0, none⟩) d.dur.length c1) (.slice none 0 0) tv d) (i : Nat) (hoff : d.off = false) (hi : i < d.dur.length) :
    Calls Try.prog 8 #[.pointer (some ⟨B, 0, none⟩), .int .i64 (i : Int)] w fun e w' =>
      e = .returned (.tuple #[.string (S (d.dur.getD i [])), .int .i64 0]) ∧ Below w.heap.size w w' := by
  obtain ⟨⟨c0, c1', c2', c3, c4, c5, c6, c7⟩, hf, hlt⟩ := h.cells
  rw [hoff] at c2'
  have hl : w.cell? ⟨g1, i, none⟩ = some (.string (S (d.dur.getD i []))) := by
    have := h.lasts.cellAt i (by omega)
    rw [this]; simp [strC, List.getD, hi]
  have hii : (i : Int) < (d.dur.length : Int) := by omega
  have hge : ¬ (d.dur.length : Int) ≤ (i : Int) := by omega
  have h0i : ¬ (i : Int) < 0 := by omega
  generalize d.dur.getD i [] = sv at *
  clear h c3 c4 c5 c6 c7 hf hoff
  go_enter Try.func8, Try.ntmps8
  go_wp2_with fail
  refine wp_loop_rounds 1 ?_
  rw [rounds_succ]
  go_wp2_with fail
  refine bodyPost_ret (results_tmp2 rfl _ _ _) rfl ?_
  exact ⟨rfl, Below.refl _ _⟩

set_option maxRecDepth 100000 in
theorem refRead_no {w : World} {B : Nat} {lv wv tv : Value} {d : Dev} (h : RefAt w B lv wv tv d) (i : Int) (hr : refE d i ≠ 0) :
    Calls Try.prog 8 #[.pointer (some ⟨B, 0, none⟩), .int .i64 i] w fun e w' =>
      e = .returned (.tuple #[.string ⟨#[]⟩, .int .i64 (refE d i : Nat)]) ∧ w = w' := by
  obtain ⟨⟨c0, c1', c2', c3, c4, c5, c6, c7⟩, hf, hlt⟩ := h.cells
  have hform := own_form h.lasts
  have hd : refE d i = if d.off = true then 10 else if i < 0 ∨ (d.dur.length : Int) ≤ i then 2 else 0 := rfl
  generalize d.dur.length = n at *
  cases hoff : d.off with
  | true =>
    rw [hoff] at c2' hd
    rw [hd, if_pos rfl]
    clear h c3 c4 c5 c6 c7 hf hoff hd hr hform
    go_enter Try.func8, Try.ntmps8
    go_wp2_with fail
    refine bodyPost_ret (results_tmp2 rfl _ _ _) rfl ?_
    exact ⟨rfl, rfl⟩
  | false =>
    rw [hoff] at c2' hd
    rw [if_neg (by simp)] at hd
    by_cases hb : i < 0 ∨ (n : Int) ≤ i
    · rw [if_pos hb] at hd
      rw [hd]
      by_cases h0 : i < 0
      · clear h c3 c4 c5 c6 c7 hf hoff hd hr hform hb
        go_enter Try.func8, Try.ntmps8
        go_wp2_with fail
        refine bodyPost_ret (results_tmp2 rfl _ _ _) rfl ?_
        exact ⟨rfl, rfl⟩
      · have h1 : (n : Int) ≤ i := by omega
        rcases hform with ⟨rfl, rfl⟩ | ⟨g, cap, rfl⟩
        · have h2 : (0 : Int) ≤ i := by omega
          clear h c3 c4 c5 c6 c7 hf hoff hd hr hb
          go_enter Try.func8, Try.ntmps8
          go_wp2_with fail
          refine bodyPost_ret (results_tmp2 rfl _ _ _) rfl ?_
          exact ⟨rfl, rfl⟩
        · clear h c3 c4 c5 c6 c7 hf hoff hd hr hb
          go_enter Try.func8, Try.ntmps8
          go_wp2_with fail
          refine bodyPost_ret (results_tmp2 rfl _ _ _) rfl ?_
          exact ⟨rfl, rfl⟩
    · rw [if_neg hb] at hd; exact absurd hd hr

end Go.Proofs.Ytfmcbccmijcdgaa.Bk
