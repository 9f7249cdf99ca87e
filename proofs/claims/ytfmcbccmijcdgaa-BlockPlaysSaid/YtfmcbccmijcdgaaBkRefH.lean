/-
  The document's own device: Fill.
-/
import Derived.Test.YtfmcbccmijcdgaaBkRefG
namespace Go.Proofs.Ytfmcbccmijcdgaa.Bk
open Go.RowKit

/-- Behind k sectors that were filled. -/
def FillR (w : World) (B : Nat) (lv wv tv : Value) (d : Dev) (l : List UInt8) (k : Nat) (wr : World) : Prop := RefAt wr B lv wv tv { d with dur := fillK l d.dur k } ∧ Onl (rblocks B lv wv tv) w wr

theorem FillR.step {w wr wb : World} {B g n c k : Nat} {wv tv : Value} {d : Dev} {l : List UInt8} (h : FillR w B (.slice (some ⟨g, 0, none⟩) n c) wv tv d l k wr) (hn : n = d.dur.length) (hk : k < n) (b : Below wr.heap.size wr.drew wb) :
    wb.cell? ⟨B, 0, none⟩ = some (.slice (some ⟨g, 0, none⟩) n c) ∧ wb.frozen? ⟨g, k, none⟩ = false ∧ (∃ y, wb.cell? ⟨g, k, none⟩ = some (.string y)) ∧ B ≠ g ∧
    (wb.setCell ⟨g, k, none⟩ (.string (S (fill1 (l.drop (k * 64)))))).cell? ⟨B, 0, none⟩ = some (.slice (some ⟨g, 0, none⟩) n c) ∧
    Hid (FillR w B (.slice (some ⟨g, 0, none⟩) n c) wv tv d l (k + 1) (wb.setCell ⟨g, k, none⟩ (.string (S (fill1 (l.drop (k * 64))))))) := by
  have hnn : n = ({ d with dur := fillK l d.dur k } : Dev).dur.length := by show n = (fillK l d.dur k).length; rw [fillK_length]; exact hn
  have r1 := (h.1.later ((Onl.refl [] wr).drew) (by simp)).later (Onl.of_below (w := wr.drew) (w' := wb) b []) (by simp)
  obtain ⟨hc, hfz, hg1, hg1B⟩ := r1.last hnn k (by omega)
  have r2 := r1.setLast hnn k (fill1 (l.drop (k * 64)))
  have o1 : Onl (rblocks B (.slice (some ⟨g, 0, none⟩) n c) wv tv) w wb := (h.2.drew).trans (Onl.of_below (w := wr.drew) (w' := wb) b _)
  exact ⟨r1.cells.1.1, hfz, ⟨_, hc⟩, fun e => hg1B e.symm, r2.cells.1.1, Lib.hid ⟨r2, o1.setCell (p := ⟨g, k, none⟩) (by simp [rblocks, Value.ownBlock]) _⟩⟩

set_option linter.unusedSimpArgs false
set_option maxRecDepth 100000 in
set_option maxHeartbeats 3200000 in
theorem refFill_any {w : World} {B : Nat} {lv wv tv : Value} {d : Dev} (h : RefAt w B lv wv tv d) (ok : DevOk d) (l : List UInt8) :
    Calls Try.prog 18 #[.pointer (some ⟨B, 0, none⟩), .string (S l)] w fun e w' =>
      e = .returned (.tuple #[]) ∧ RefTo (lenV tv + 1000) w B (rblocks B lv wv tv) w' { d with dur := fillK l d.dur d.dur.length, pend := [] } := by
  obtain ⟨⟨c0, c1, c2, c3, c4, c5, c6, c7⟩, hf, hlt⟩ := h.cells
  have hmost := ok.most
  have hlf := own_form h.lasts
  by_cases h0 : d.dur.length = 0
  · have hs := h.store rfl 1 (.slice none 0 0) (lv' := lv) (wv' := .slice none 0 0) (tv' := tv) (d' := { d with dur := fillK l d.dur d.dur.length, pend := [] }) (by simp [refC]) (by rw [h0]; exact h.lasts) (World.ownsRow_nil _ _ _ _) h.tears h.calls h.keep
    have HFIN := Lib.hid (show RefTo (lenV tv + 1000) w B (rblocks B lv wv tv) (w.setCell ⟨B, 1, none⟩ (.slice none 0 0)) { d with dur := fillK l d.dur d.dur.length, pend := [] } from
      ⟨lv, .slice none 0 0, tv, hs, by omega, FreshL.of (Fresh.refl w _) (Fresh.nil _ _) (Fresh.refl _ _), (Onl.refl _ w).setCell (p := ⟨B, 1, none⟩) (by simp [rblocks]) _⟩)
    obtain ⟨a, cap, rfl⟩ : ∃ a cap, lv = .slice a 0 cap := by
      rw [h0] at hlf
      rcases hlf with ⟨h1, -⟩ | ⟨g, cap, h1⟩
      · exact ⟨none, 0, h1⟩
      · exact ⟨_, cap, h1⟩
    have f1 := hf 1
    clear h ok hs hlf h0 c2 c3 c4 c5 c6 c7 hf
    go_enter Try.func18, Try.ntmps18
    go_wp2_with fail
    refine wp_loop_rounds 1 ?_
    rw [rounds_succ]
    go_wp2_with fail
    go_end0
    exact ⟨rfl, HFIN.out⟩
  · obtain ⟨g, c, rfl⟩ : ∃ g cap, lv = .slice (some ⟨g, 0, none⟩) d.dur.length cap := by
      rcases hlf with ⟨_, h1⟩ | ⟨g, cap, h1⟩
      · exact absurd h1 h0
      · exact ⟨g, cap, h1⟩
    have HR0 := Lib.hid (show FillR w B (.slice (some ⟨g, 0, none⟩) d.dur.length c) wv tv d l 0 w from ⟨h, Onl.refl _ _⟩)
    clear h ok hlf h0 c1 c2 c3 c4 c5 c6 c7 hf
    go_enter Try.func18, Try.ntmps18
    go_wp2_with fail
    go_loopw [1, 11] (fun sv i wr => ∃ k : Nat, k ≤ d.dur.length ∧ i = .int .i64 k ∧ sv = .string (S (l.drop (k * 64))) ∧ FillR w B (.slice (some ⟨g, 0, none⟩) d.dur.length c) wv tv d l k wr) (fun _ i _ => d.dur.length - (intOf i).toNat)
    case atStart => exact ⟨0, by omega, rfl, by simp, HR0.out⟩
    case round =>
      obtain ⟨k, hkm, rfl, rfl, hr⟩ := hrel
      have HR := Lib.hid hr
      by_cases hlt2 : k < d.dur.length
      · have a0 := hr.1.cells.1.1
        have HST := Lib.hid (fun wb (b : Below wr.heap.size wr.drew wb) => hr.step rfl hlt2 b)
        have hsx : (S (l.drop (k * 64))).extract (min (l.drop (k * 64)).length 64) (S (l.drop (k * 64))).size = S (l.drop ((k + 1) * 64)) := by
          rw [S_extract, S_toList, S_size]
          congr 1
          rw [List.take_of_length_le (by rw [List.length_drop]; omega), List.drop_drop, List.drop_eq_drop_iff]
          simp only [List.length_drop]
          omega
        have hss : (S (l.drop (k * 64))).size = (l.drop (k * 64)).length := S_size _
        have hf1 : (S (l.drop (k * 64))).extract 0 (min (l.drop (k * 64)).length 64) ++ S (List.replicate (64 - min (l.drop (k * 64)).length 64) 0) = S (fill1 (l.drop (k * 64))) := by
          rw [S_extract, S_toList, S_append]
          congr 1
          unfold fill1
          rw [List.drop_zero, Nat.sub_zero]
          congr 1
          · rw [List.take_eq_take_iff]; omega
          · congr 1; omega
        have hsz1 : ((S (l.drop (k * 64))).extract 0 (min (l.drop (k * 64)).length 64)).size = min (l.drop (k * 64)).length 64 := by
          rw [S_extract, S_size, S_toList]; simp only [List.length_take, List.length_drop]; omega
        have hmle : min (l.drop (k * 64)).length 64 ≤ (l.drop (k * 64)).length := Nat.min_le_left _ _
        have hm64 : min (l.drop (k * 64)).length 64 ≤ 64 := Nat.min_le_right _ _
        clear hr
        generalize fill1 (l.drop (k * 64)) = x at *
        rw [← hss] at hmle
        generalize hm : min (l.drop (k * 64)).length 64 = m at *
        generalize S (l.drop (k * 64)) = sv at *
        obtain ⟨q, hq⟩ : ∃ q, 64 - m = q := ⟨_, rfl⟩
        rw [hq] at hf1
        have hwr : IntKind.i64.wrap (q : Int) = (q : Int) := by rw [IntKind.wrap_i64]; omega
        have hsz2 : (S (List.replicate q 0)).size = q := by rw [S_size, List.length_replicate]
        have hq64 : q ≤ 64 := by omega
        have hmi : (m : Int) ≤ (sv.size : Int) := by omega
        have hki : (k : Int) < (d.dur.length : Int) := by omega
        have hbl := blank_any q (by omega)
        have HBL := Lib.hid hbl
        clear hbl
        generalize S (List.replicate q 0) = bq at *
        have hmn : min m sv.size = m := Nat.min_eq_left (by omega)
        have hsum1 : (sv.extract 0 m).size + bq.size ≤ 128 := by omega
        have hsum2 : m + q ≤ 128 := by omega
        have hsum4 : m + q ≤ 9223372036854775807 := by omega
        have hmi64 : (m : Int) ≤ 64 := by omega
        have hqi64 : (q : Int) ≤ 64 := by omega
        have hsum3 : (m : Int) + (q : Int) ≤ 128 := by omega
        have hmin : min (sv.size : Int) 64 = (m : Int) := by omega
        have hs64 : 64 - (m : Int) = (q : Int) := by omega
        have HWR := Lib.hid hwr
        have hss2 : ((l.drop (k * 64)).length : Int) = (sv.size : Int) := by omega
        clear hss hm hq hwr hss2
        go_wp2_with fail
        have hwr2 := HWR.out
        have hadd : ∀ w, (Op.stringOp .add (sv.extract 0 m) bq).run Try.prog w = .ok (.string (S x)) w := by
          intro w
          go_simp
        clear hf1
        go_region_held3 (fun w' => w'.cell? ⟨B, 0, none⟩ = some (.slice (some ⟨g, 0, none⟩) d.dur.length c))
          (first | assumption | go_keep)
          (first
            | (go_at_call 27; refine (HBL.out _).mono ?_; rintro e wb ⟨rfl, b1⟩; obtain ⟨hc1, hc2, ⟨y, hc3⟩, hc4, hc5, HX⟩ := HST.out wb b1; clear b1))
        go_wp2_with fail
        go_roundw
        case rel => exact ⟨k + 1, hlt2, by go_num, rfl, HX.out⟩
        case measure => simp [intOf]; omega
      · obtain rfl : k = d.dur.length := by omega
        obtain ⟨⟨a0, a1, a2, a3, a4, a5, a6, a7⟩, hff, hBl⟩ := hr.1.cells
        have f1 := hff 1
        have hs := hr.1.store rfl 1 (.slice none 0 0) (lv' := .slice (some ⟨g, 0, none⟩) d.dur.length c) (wv' := .slice none 0 0) (tv' := tv) (d' := { d with dur := fillK l d.dur d.dur.length, pend := [] }) (by simp [refC, fillK_length]) (by have := hr.1.lasts; exact this) (World.ownsRow_nil _ _ _ _) hr.1.tears hr.1.calls hr.1.keep
        have HFIN := Lib.hid (show RefTo (lenV tv + 1000) w B (rblocks B (.slice (some ⟨g, 0, none⟩) d.dur.length c) wv tv) (wr.setCell ⟨B, 1, none⟩ (.slice none 0 0)) { d with dur := fillK l d.dur d.dur.length, pend := [] } from
          ⟨_, .slice none 0 0, tv, hs, by omega, FreshL.of (Fresh.refl w _) (Fresh.nil _ _) (Fresh.refl _ _), hr.2.setCell (p := ⟨B, 1, none⟩) (by simp [rblocks]) _⟩)
        clear hs hr hff a0 a2 a3 a4 a5 a6 a7
        go_wp2_with fail
        go_end0
        exact ⟨rfl, HFIN.out⟩

end Go.Proofs.Ytfmcbccmijcdgaa.Bk
