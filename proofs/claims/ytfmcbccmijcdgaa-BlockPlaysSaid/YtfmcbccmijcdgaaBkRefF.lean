/-
  The document's own device: Flush.
-/
import Derived.Test.YtfmcbccmijcdgaaBkRefE
namespace Go.Proofs.Ytfmcbccmijcdgaa.Bk
open Go.RowKit

/-- In the round of a write: the loop's variables. -/
structure RndM (w : World) (L : List Nat) (B n0 : Nat) (lv wv tv : Value) (d : Dev) (a : Nat) (l : List UInt8) (W : World) : Prop where
  ref : RefAt W B lv wv tv d
  x : W.heap[n0]? = some (.cells #[.int .i64 (a : Int), .string (S l)] 71 (0, 0))
  onl : Onl L w W
theorem RndM.cells {w : World} {L : List Nat} {B n0 g1 n1 c1 : Nat} {wv tv : Value} {d : Dev} {a : Nat} {l : List UInt8} {W : World}
    (h : RndM w L B n0 (.slice (some ⟨g1, 0, none⟩) n1 c1) wv tv d a l W) (hn : n1 = d.dur.length) (ha : a < n1) :
    (W.cell? ⟨B, 0, none⟩ = some (.slice (some ⟨g1, 0, none⟩) n1 c1) ∧ W.cell? ⟨n0, 0, none⟩ = some (.int .i64 (a : Int)) ∧ W.cell? ⟨n0, 1, none⟩ = some (.string (S l))) ∧
    W.frozen? ⟨g1, a, none⟩ = false ∧ (∃ y, W.cell? ⟨g1, a, none⟩ = some (.string y)) ∧ B ≠ g1 ∧ n0 ≠ g1 ∧ n0 ≠ B := by
  obtain ⟨⟨a0, a1, a2, a3, a4, a5, a6, a7⟩, hff, hBl⟩ := h.ref.cells
  obtain ⟨hc, hfz, hg1, hg1B⟩ := h.ref.last hn a (by omega)
  have n1 := own_ne h.ref.lasts h.x (by decide)
  refine ⟨⟨a0, (cell_of_row W _ _ _ _ (0, 0) h.x).trans rfl, (cell_of_row W _ _ _ _ (0, 0) h.x).trans rfl⟩, hfz, ⟨_, hc⟩, fun e => hg1B e.symm, fun e => n1 (by rw [e]; rfl), ?_⟩
  intro e; have := h.x; rw [e, h.ref.dev] at this; simp [refC] at this
theorem RndM.set {w : World} {L : List Nat} {B n0 g1 n1 c1 : Nat} {wv tv : Value} {d : Dev} {a : Nat} {l : List UInt8} {W : World}
    (h : RndM w L B n0 (.slice (some ⟨g1, 0, none⟩) n1 c1) wv tv d a l W) (hn : n1 = d.dur.length) (ha : a < n1) (y : List UInt8) (hL : g1 ∈ L ∨ w.heap.size ≤ g1) :
    RndM w L B n0 (.slice (some ⟨g1, 0, none⟩) n1 c1) wv tv { d with dur := d.dur.set a y } a l (W.setCell ⟨g1, a, none⟩ (.string (S y))).drew := by
  obtain ⟨-, -, -, e1, e2, -⟩ := h.cells hn ha
  refine ⟨(h.ref.setLast hn a y).later ((Onl.refl [] _).drew) (by simp), ?_, (h.onl.setCell2 (p := ⟨g1, a, none⟩) hL _).drew⟩
  show (W.setCell ⟨g1, a, none⟩ (.string (S y))).heap[n0]? = _
  rw [heap_setCell_other W ⟨g1, a, none⟩ n0 _ (by simpa using e2)]; exact h.x

def refFlushD (d : Dev) : Dev := if d.off = true then d else if d.calls = 1 then blownD d else { blownD d with dur := flushK d.pend d.dur d.pend.length, pend := [] }

/-- Behind k writes that were made. -/
def FlushR (w : World) (L : List Nat) (B : Nat) (lv wv tv : Value) (d : Dev) (k : Nat) (wr : World) : Prop := RefAt wr B lv wv tv { d with dur := flushK d.pend d.dur k } ∧ Onl L w wr

theorem blownD_pend {d : Dev} (h : d.calls ≠ 1) : (blownD d).pend = d.pend ∧ (blownD d).dur = d.dur := by
  unfold blownD; rw [if_neg h]; split <;> exact ⟨rfl, rfl⟩

set_option linter.unusedSimpArgs false
set_option maxRecDepth 100000 in
set_option maxHeartbeats 3200000 in
theorem refFlush_any {w : World} {B : Nat} {lv wv tv : Value} {d : Dev} (h : RefAt w B lv wv tv d) (ok : DevOk d) (hm : d.pend.length ≤ 1000) (ht : lenV tv ≤ 100000) :
    Calls Try.prog 10 #[.pointer (some ⟨B, 0, none⟩)] w fun e w' =>
      e = .returned (.int .i64 (flushE d : Nat)) ∧ RefTo (lenV tv + 1000) w B (rblocks B lv wv tv) w' (refFlushD d) := by
  obtain ⟨⟨c0, c1, c2, c3, c4, c5, c6, c7⟩, hf, hlt⟩ := h.cells
  cases hoff : d.off with
  | true =>
    have e1 : flushE d = 10 := by unfold flushE; rw [if_pos hoff]
    have e2 : refFlushD d = d := by unfold refFlushD; rw [if_pos hoff]
    rw [e1, e2]
    rw [hoff] at c2
    have HS := Lib.hid (show RefTo (lenV tv + 1000) w B (rblocks B lv wv tv) w d from ⟨lv, wv, tv, h, by omega, FreshL.refl _ _, Onl.refl _ _⟩)
    clear h ok hm ht e1 e2 hoff c0 c1 c3 c4 c5 c6 c7 hf
    go_enter Try.func10, Try.ntmps10
    go_wp2_with fail
    go_ret
    exact ⟨rfl, HS.out⟩
  | false =>
    have hbl := refBlown_any h ok hm ht
    rw [hoff] at c2
    by_cases h1 : d.calls = 1
    · have e1 : flushE d = 10 := by unfold flushE burnE; rw [if_neg (by simp [hoff]), if_pos h1]
      have e2 : refFlushD d = blownD d := by unfold refFlushD; rw [if_neg (by simp [hoff]), if_pos h1]
      rw [e1, e2]
      rw [decide_eq_true h1] at hbl
      have HBL := Lib.hid hbl
      clear h ok hm ht e1 e2 h1 hoff hbl c0 c1 c3 c4 c5 c6 c7 hf
      go_enter Try.func10, Try.ntmps10
      go_wp2_with fail
      refine HBL.out.mono ?_
      rintro e w1 ⟨rfl, r1⟩
      have HS := Lib.hid r1
      clear r1
      go_wp2_with fail
      go_ret
      exact ⟨rfl, HS.out⟩
    · have e1 : flushE d = 0 := by unfold flushE burnE; rw [if_neg (by simp [hoff]), if_neg h1]
      have e2 : refFlushD d = { blownD d with dur := flushK d.pend d.dur d.pend.length, pend := [] } := by unfold refFlushD; rw [if_neg (by simp [hoff]), if_neg h1]
      obtain ⟨ep, ed⟩ := blownD_pend h1
      rw [e1, e2, ← ep, ← ed]
      have hokp : ∀ x ∈ (blownD d).pend, x.1 < (blownD d).dur.length := by rw [ep, ed]; exact fun x hx => (ok.pend x hx).1
      have hml : (blownD d).pend.length ≤ 1000 := by rw [ep]; exact hm
      rw [decide_eq_false h1] at hbl
      have HBL := Lib.hid hbl
      have HOKP := Lib.hid hokp
      clear h ok hm ht e1 e2 h1 hoff hbl c0 c1 c3 c4 c5 c6 c7 hf ep ed hokp
      generalize blownD d = db at *
      go_enter Try.func10, Try.ntmps10
      go_wp2_with fail
      refine HBL.out.mono ?_
      rintro e w1 ⟨rfl, ⟨lv1, wv1, tv1, r1, l1, f1, o1⟩⟩
      have HR1 := Lib.hid r1
      have HL1 := Lib.hid l1
      have HF1 := Lib.hid f1
      have HO1 := Lib.hid o1
      obtain ⟨⟨a0, a1, a2, a3, a4, a5, a6, a7⟩, hff, hBl⟩ := r1.cells
      have hwf := own_form r1.waits
      have hlf := own_form r1.lasts
      clear r1 l1 f1 o1 a2 a3 a4 a5 a6 a7 c2
      by_cases hp : db.pend = []
      · obtain ⟨a, cap, rfl⟩ : ∃ a cap, wv1 = .slice a 0 cap := by
          rw [hp] at hwf
          rcases hwf with ⟨h1, -⟩ | ⟨g, cap, h1⟩
          · exact ⟨none, 0, h1⟩
          · exact ⟨_, cap, h1⟩
        have hf1 := hff 1
        have hs := HR1.out.store rfl 1 (.slice none 0 0) (lv' := lv1) (wv' := .slice none 0 0) (tv' := tv1) (d' := { db with dur := flushK db.pend db.dur db.pend.length, pend := [] }) (by simp [refC, hp, flushK]) (by rw [hp]; exact HR1.out.lasts) (World.ownsRow_nil _ _ _ _) HR1.out.tears HR1.out.calls HR1.out.keep
        have HFIN := Lib.hid (show RefTo (lenV tv + 1000) w B (rblocks B lv wv tv) (w1.setCell ⟨B, 1, none⟩ (.slice none 0 0)) { db with dur := flushK db.pend db.dur db.pend.length, pend := [] } from
          ⟨lv1, .slice none 0 0, tv1, hs, HL1.out, HF1.out.trans (FreshL.of (Fresh.refl w1 _) (Fresh.nil _ _) (Fresh.refl _ _)) HO1.out.size, HO1.out.setCell (p := ⟨B, 1, none⟩) (by simp [rblocks]) _⟩)
        clear hs hp hff hwf hlf a0
        go_wp2_with fail
        refine wp_loop_rounds 1 ?_
        rw [rounds_succ]
        go_wp2_with fail
        go_ret
        exact ⟨rfl, HFIN.out⟩
      · obtain ⟨x0, hx0⟩ := List.exists_mem_of_ne_nil _ hp
        have hx1 := HOKP.out x0 hx0
        obtain ⟨g2, c2, rfl⟩ : ∃ g cap, wv1 = .slice (some ⟨g, 0, none⟩) db.pend.length cap := by
          rcases hwf with ⟨_, h1⟩ | ⟨g, cap, h1⟩
          · exact absurd (List.eq_nil_of_length_eq_zero h1) hp
          · exact ⟨g, cap, h1⟩
        obtain ⟨g1, c1, rfl⟩ : ∃ g cap, lv1 = .slice (some ⟨g, 0, none⟩) db.dur.length cap := by
          rcases hlf with ⟨_, h1⟩ | ⟨g, cap, h1⟩
          · omega
          · exact ⟨g, cap, h1⟩
        have HR0 := Lib.hid (show FlushR w1 (rblocks B (.slice (some ⟨g1, 0, none⟩) db.dur.length c1) (.slice (some ⟨g2, 0, none⟩) db.pend.length c2) tv1) B (.slice (some ⟨g1, 0, none⟩) db.dur.length c1) (.slice (some ⟨g2, 0, none⟩) db.pend.length c2) tv1 db 0 w1 from ⟨HR1.out, Onl.refl _ _⟩)
        clear hx1 hx0 hp hwf hlf hff a0
        go_wp2_with fail
        go_loopw [18] (fun i wr => ∃ k : Nat, k ≤ db.pend.length ∧ i = .int .i64 k ∧ FlushR w1 (rblocks B (.slice (some ⟨g1, 0, none⟩) db.dur.length c1) (.slice (some ⟨g2, 0, none⟩) db.pend.length c2) tv1) B (.slice (some ⟨g1, 0, none⟩) db.dur.length c1) (.slice (some ⟨g2, 0, none⟩) db.pend.length c2) tv1 db k wr) (fun i _ => db.pend.length - (intOf i).toNat)
        case atStart => exact ⟨0, by omega, rfl, HR0.out⟩
        case round =>
          obtain ⟨k, hkm, rfl, hr, hon⟩ := hrel
          have HR := Lib.hid hr
          have HON := Lib.hid hon
          by_cases hlt2 : k < db.pend.length
          · have hx := HOKP.out (db.pend.getD k (0, [])) (by simp [List.getD, hlt2])
            obtain ⟨e0, e1⟩ := hr.wait rfl k hlt2
            simp only at e0 e1
            have hfk : flushK db.pend db.dur (k + 1) = (flushK db.pend db.dur k).set (db.pend.getD k (0, [])).1 (db.pend.getD k (0, [])).2 := rfl
            have HFK := Lib.hid hfk
            have hnn : db.dur.length = (flushK db.pend db.dur k).length := by rw [flushK_length]
            have HNN := Lib.hid hnn
            have hg2l := (hr.waits.lt g2 rfl).2
            generalize db.pend.getD k (0, []) = x at *
            obtain ⟨a, l⟩ := x
            simp only at hx e0 e1
            have hM : RndM w1 (rblocks B (.slice (some ⟨g1, 0, none⟩) db.dur.length c1) (.slice (some ⟨g2, 0, none⟩) db.pend.length c2) tv1) B wr.heap.size (.slice (some ⟨g1, 0, none⟩) db.dur.length c1) (.slice (some ⟨g2, 0, none⟩) db.pend.length c2) tv1 { db with dur := flushK db.pend db.dur k } a l (wr.alloc (.cells #[.int .i64 (a : Int), .string (S l)] 71)) :=
              ⟨hr.later ((Onl.refl [] wr).alloc _) (by simp), heap_alloc_new wr _, hon.alloc _⟩
            have HM := Lib.hid hM
            have hns : (wr.alloc (.cells #[.int .i64 (a : Int), .string (S l)] 71)).heap.size = wr.heap.size + 1 := by simp
            clear hr hon hfk hnn hM
            go_wp2_with fail
            generalize wr.alloc (.cells #[.int .i64 (a : Int), .string (S l)] 71) = W at *
            generalize wr.heap.size = n0 at *
            obtain ⟨⟨b0, b1, b2⟩, z1, ⟨y, z2⟩, y1, y2, y3⟩ := HM.out.cells HNN.out hx
            have hain : (a : Int) < (db.dur.length : Int) := by omega
            have hM2 := HM.out.set HNN.out hx l (.inl (by simp [rblocks, Value.ownBlock]))
            have hst := hM2.cells (by rw [List.length_set]; exact HNN.out) hx
            have HS := Lib.hid hst.1
            have HREL2 := Lib.hid (show FlushR w1 (rblocks B (.slice (some ⟨g1, 0, none⟩) db.dur.length c1) (.slice (some ⟨g2, 0, none⟩) db.pend.length c2) tv1) B (.slice (some ⟨g1, 0, none⟩) db.dur.length c1) (.slice (some ⟨g2, 0, none⟩) db.pend.length c2) tv1 db (k + 1) (W.setCell ⟨g1, a, none⟩ (.string (S l))).drew from
              ⟨by rw [HFK.out]; exact hM2.ref, hM2.onl⟩)
            clear hM2 hst e0 e1 a1
            go_region_held3 (fun w' => w'.cell? ⟨B, 0, none⟩ = some (.slice (some ⟨g1, 0, none⟩) db.dur.length c1) ∧ w'.cell? ⟨n0, 0, none⟩ = some (.int .i64 (a : Int)) ∧ w'.cell? ⟨n0, 1, none⟩ = some (.string (S l)))
              (first | assumption | exact HS.out | go_keep)
              (fail)
            go_wp2_with fail
            go_roundw
            case rel => exact ⟨k + 1, hlt2, by go_num, HREL2.out⟩
            case measure => simp [intOf]; omega
          · obtain rfl : k = db.pend.length := by omega
            obtain ⟨⟨a0', a1', a2', a3', a4', a5', a6', a7'⟩, hff', hBl'⟩ := hr.cells
            have hf1' := hff' 1
            have hs := hr.store rfl 1 (.slice none 0 0) (lv' := .slice (some ⟨g1, 0, none⟩) db.dur.length c1) (wv' := .slice none 0 0) (tv' := tv1) (d' := { db with dur := flushK db.pend db.dur db.pend.length, pend := [] }) (by simp [refC]) hr.lasts (World.ownsRow_nil _ _ _ _) hr.tears hr.calls hr.keep
            have HFIN := Lib.hid (show RefTo (lenV tv + 1000) w B (rblocks B lv wv tv) (wr.setCell ⟨B, 1, none⟩ (.slice none 0 0)) { db with dur := flushK db.pend db.dur db.pend.length, pend := [] } from
              ⟨_, .slice none 0 0, tv1, hs, HL1.out, HF1.out.trans (FreshL.of (Fresh.refl w1 _) (Fresh.nil _ _) (Fresh.refl _ _)) HO1.out.size, HO1.out.step HF1.out (hon.setCell (p := ⟨B, 1, none⟩) (by simp [rblocks]) _)⟩)
            clear hs hr hon hff' a0' a2' a3' a4' a5' a6' a7' a1
            go_wp2_with fail
            go_ret
            exact ⟨rfl, HFIN.out⟩

end Go.Proofs.Ytfmcbccmijcdgaa.Bk
