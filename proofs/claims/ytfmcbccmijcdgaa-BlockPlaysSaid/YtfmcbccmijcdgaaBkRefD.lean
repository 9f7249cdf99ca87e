/-
  The document's own device: lose of nothing, blown, Kill.
-/
import Derived.Test.YtfmcbccmijcdgaaBkRefC
namespace Go.Proofs.Ytfmcbccmijcdgaa.Bk
open Go.RowKit

theorem FreshL.of {w : World} {B : Nat} {lv wv tv lv' wv' tv' : Value} (h1 : Fresh w lv lv') (h2 : Fresh w wv wv') (h3 : Fresh w tv tv') : FreshL w (rblocks B lv wv tv) (rblocks B lv' wv' tv') := by
  intro x hx
  rcases mem_rblocks.1 hx with h | h | h | h
  · exact .inl (mem_rblocks.2 (.inl h))
  · rcases h1 x h with h | h
    · exact .inl (mem_rblocks.2 (.inr (.inl h)))
    · exact .inr h
  · rcases h2 x h with h | h
    · exact .inl (mem_rblocks.2 (.inr (.inr (.inl h))))
    · exact .inr h
  · rcases h3 x h with h | h
    · exact .inl (mem_rblocks.2 (.inr (.inr (.inr h))))
    · exact .inr h

set_option maxRecDepth 100000 in
theorem refLose_zero {w : World} {B : Nat} {lv wv tv : Value} {d : Dev} (h : RefAt w B lv wv tv d) (hp : d.pend = []) (keep : Nat) (torn at_ : Int) :
    Calls Try.prog 34 #[.pointer (some ⟨B, 0, none⟩), .agg #[.int .u64 (keep : Int), .int .i64 torn, .int .i64 at_]] w fun e w' =>
      e = .returned (.tuple #[]) ∧ RefTo (lenV tv + 1000) w B (rblocks B lv wv tv) w' (loseD d keep torn at_) := by
  have hd : loseD d keep torn at_ = d := by unfold loseD; rw [hp]; cases d; simp only at hp; subst hp; rfl
  rw [hd]
  have h0 := h.store rfl 1 (.slice none 0 0) (lv' := lv) (wv' := .slice none 0 0) (tv' := tv) (d' := d) (by simp [refC]) h.lasts (by rw [hp]; exact World.ownsRow_nil _ _ _ _) h.tears h.calls h.keep
  have hs := h0.later ((Onl.refl [] _).alloc (.cells #[.int .u64 (keep : Int), .int .i64 torn, .int .i64 at_] 30)) (by simp)
  have HFIN := Lib.hid (show RefTo (lenV tv + 1000) w B (rblocks B lv wv tv) _ d from ⟨lv, .slice none 0 0, tv, hs, by omega, FreshL.of (Fresh.refl _ _) (Fresh.nil _ _) (Fresh.refl _ _),
    ((Onl.refl _ w).setCell (p := ⟨B, 1, none⟩) (by simp [rblocks]) (.slice none 0 0)).alloc _⟩)
  obtain ⟨⟨c0, c1, c2, c3, c4, c5, c6, c7⟩, hf, hlt⟩ := h.cells
  have f1 := hf 1
  have hform := own_form h.waits
  rw [hp] at hform
  obtain ⟨a, cap, rfl⟩ : ∃ a cap, wv = .slice a 0 cap := by
    rcases hform with ⟨h1, -⟩ | ⟨g, cap, h1⟩
    · exact ⟨none, 0, h1⟩
    · exact ⟨_, cap, h1⟩
  clear h hd h0 hs c0 c2 c3 c4 c5 c6 c7 hf hform hp
  go_enter Try.func34, Try.ntmps34
  go_wp2_with fail
  refine wp_loop_rounds 1 ?_
  rw [rounds_succ]
  go_wp2_with fail
  go_end0
  exact ⟨rfl, HFIN.out⟩

theorem refLose_all {w : World} {B : Nat} {lv wv tv : Value} {d : Dev} (h : RefAt w B lv wv tv d) (ok : DevOk d) (hm : d.pend.length ≤ 1000) (ht : lenV tv ≤ 100000) (keep : Nat) (hk : keep < 18446744073709551616) (torn at_ : Int) :
    Calls Try.prog 34 #[.pointer (some ⟨B, 0, none⟩), .agg #[.int .u64 (keep : Int), .int .i64 torn, .int .i64 at_]] w fun e w' =>
      e = .returned (.tuple #[]) ∧ RefTo (lenV tv + 1000) w B (rblocks B lv wv tv) w' (loseD d keep torn at_) := by
  by_cases hp : d.pend = []
  · exact refLose_zero h hp keep torn at_
  · rcases own_form h.waits with ⟨-, h0⟩ | ⟨g2, c2, rfl⟩
    · exact absurd (List.eq_nil_of_length_eq_zero h0) hp
    · rcases own_form h.lasts with ⟨-, h0⟩ | ⟨g1, c1, rfl⟩
      · exfalso
        obtain ⟨x, hx⟩ := List.exists_mem_of_ne_nil _ hp
        have := (ok.pend x hx).1
        omega
      · exact refLose_any h rfl rfl ok hm ht keep hk torn at_

/-- What the call of the fuse leaves. -/
def blownD (d : Dev) : Dev := if d.calls = 1 then { loseD d d.keep d.torn d.at_ with calls := 0, off := true } else if 1 < d.calls then { d with calls := d.calls - 1 } else d
set_option maxRecDepth 100000 in
set_option maxHeartbeats 800000 in
theorem refBlown_any {w : World} {B : Nat} {lv wv tv : Value} {d : Dev} (h : RefAt w B lv wv tv d) (ok : DevOk d) (hm : d.pend.length ≤ 1000) (ht : lenV tv ≤ 100000) :
    Calls Try.prog 32 #[.pointer (some ⟨B, 0, none⟩)] w fun e w' =>
      e = .returned (.bool (decide (d.calls = 1))) ∧ RefTo (lenV tv + 1000) w B (rblocks B lv wv tv) w' (blownD d) := by
  obtain ⟨⟨c0, c1, c2, c3, c4, c5, c6, c7⟩, hf, hlt⟩ := h.cells
  have f3 := hf 3
  have hcl := h.calls
  by_cases h1 : d.calls = 1
  · have hd : blownD d = { loseD d d.keep d.torn d.at_ with calls := 0, off := true } := by unfold blownD; rw [if_pos h1]
    rw [hd, decide_eq_true h1]
    have hs := h.store rfl 3 (.int .i64 0) (lv' := lv) (wv' := wv) (tv' := tv) (d' := { d with calls := 0 }) (by simp [refC]) h.lasts h.waits h.tears (by simp) h.keep
    have hlo := refLose_all hs ⟨ok.dur, ok.pend, ok.most, by simp, ok.keep⟩ hm ht d.keep ok.keep d.torn d.at_
    have HLO := Lib.hid hlo
    have HON := Lib.hid ((Onl.refl (rblocks B lv wv tv) w).setCell (p := ⟨B, 3, none⟩) (by simp [rblocks]) (.int .i64 0))
    rw [h1] at c3
    clear h ok hd hs hlo c0 c1 c2 c7 hf hcl h1 hm ht
    go_enter Try.func32, Try.ntmps32
    go_wp2_with fail
    refine HLO.out.mono ?_
    rintro e w1 ⟨rfl, ⟨lv1, wv1, tv1, r1, l1, fr1, o1⟩⟩
    have hs1 := r1.store rfl 2 (.bool true) (lv' := lv1) (wv' := wv1) (tv' := tv1) (d' := { loseD d d.keep d.torn d.at_ with calls := 0, off := true }) (by simp [refC, loseD]) r1.lasts r1.waits r1.tears (by simp) r1.keep
    have HFIN := Lib.hid (show RefTo (lenV tv + 1000) w B (rblocks B lv wv tv) (w1.setCell ⟨B, 2, none⟩ (.bool true)) { loseD d d.keep d.torn d.at_ with calls := 0, off := true } from
      ⟨lv1, wv1, tv1, hs1, l1, fun k hk => (fr1 k hk).imp id (fun h => by simpa [World.setCell] using h), (HON.out.trans o1).setCell (p := ⟨B, 2, none⟩) (by simp [rblocks]) _⟩)
    obtain ⟨⟨a0, a1, a2, a3, a4, a5, a6, a7⟩, hff, hBl⟩ := r1.cells
    have f2 := hff 2
    clear r1 fr1 o1 hs1 hff a0 a1 a3 a4 a5 a6 a7 c3 c4 c5 c6 f3
    go_wp2_with fail
    go_ret
    exact ⟨rfl, HFIN.out⟩
  · have hn1 : ((d.calls : Int) == 1) = false := by simp; omega
    have hn2 : (d.calls == 1) = false := by simpa using h1
    rw [decide_eq_false h1]
    by_cases h2 : 1 < d.calls
    · have hd : blownD d = { d with calls := d.calls - 1 } := by unfold blownD; rw [if_neg h1, if_pos h2]
      obtain ⟨n, hn⟩ : ∃ n, d.calls = n + 1 := ⟨d.calls - 1, by omega⟩
      have hs : d.calls - 1 = n := by omega
      have hst := h.store rfl 3 (.int .i64 (n : Int)) (lv' := lv) (wv' := wv) (tv' := tv) (d' := { d with calls := d.calls - 1 }) (by rw [hs]; simp [refC]) h.lasts h.waits h.tears (by simp; omega) h.keep
      rw [hd]
      have HFIN := Lib.hid (show RefTo (lenV tv + 1000) w B (rblocks B lv wv tv) (w.setCell ⟨B, 3, none⟩ (.int .i64 (n : Int))) { d with calls := d.calls - 1 } from
        ⟨lv, wv, tv, hst, by omega, FreshL.refl _ _, (Onl.refl _ w).setCell (p := ⟨B, 3, none⟩) (by simp [rblocks]) _⟩)
      rw [hn] at c3 hn1 hn2
      have hb : n ≤ 9223372036854775806 := by omega
      have hn3 : 0 < n := by omega
      clear h ok hd hst hs hn h1 h2 hcl c0 c1 c2 c4 c5 c6 c7 hf hm ht
      go_enter Try.func32, Try.ntmps32
      go_wp2_with fail
      go_ret
      exact ⟨rfl, HFIN.out⟩
    · have h0 : d.calls = 0 := by omega
      have hd : blownD d = d := by unfold blownD; rw [if_neg h1, if_neg h2]
      rw [hd]
      have HFIN := Lib.hid (show RefTo (lenV tv + 1000) w B (rblocks B lv wv tv) w d from ⟨lv, wv, tv, h, by omega, FreshL.refl _ _, Onl.refl _ _⟩)
      rw [h0] at c3
      clear h ok hd hcl c0 c1 c2 c4 c5 c6 c7 hf hm ht h1 h2 h0 hn1 hn2
      go_enter Try.func32, Try.ntmps32
      go_wp2_with fail
      go_ret
      exact ⟨rfl, HFIN.out⟩

/-- What Kill leaves. -/
def refKillD (d : Dev) (keep : Nat) (torn at_ : Int) : Dev := { (if d.off = true then d else loseD d keep torn at_) with off := false, calls := 0 }
set_option maxRecDepth 100000 in
set_option maxHeartbeats 800000 in
theorem refKill_any {w : World} {B : Nat} {lv wv tv : Value} {d : Dev} (h : RefAt w B lv wv tv d) (ok : DevOk d) (hm : d.pend.length ≤ 1000) (ht : lenV tv ≤ 100000) (keep : Nat) (hk : keep < 18446744073709551616) (torn at_ : Int) :
    Calls Try.prog 12 #[.pointer (some ⟨B, 0, none⟩), .agg #[.int .u64 (keep : Int), .int .i64 torn, .int .i64 at_]] w fun e w' =>
      e = .returned (.tuple #[]) ∧ RefTo (lenV tv + 1000) w B (rblocks B lv wv tv) w' (refKillD d keep torn at_) := by
  have h0 := h.later ((Onl.refl [] w).alloc (.cells #[.int .u64 (keep : Int), .int .i64 torn, .int .i64 at_] 30)) (by simp)
  have HON := Lib.hid ((Onl.refl (rblocks B lv wv tv) w).alloc (.cells #[.int .u64 (keep : Int), .int .i64 torn, .int .i64 at_] 30))
  obtain ⟨⟨c0, c1, c2, c3, c4, c5, c6, c7⟩, hf, hlt⟩ := h.cells
  cases hoff : d.off with
  | true =>
    have hd : refKillD d keep torn at_ = { d with off := false, calls := 0 } := by unfold refKillD; rw [if_pos hoff]
    rw [hd]
    rw [hoff] at c2
    have hu := refUp_any h0
    have HU := Lib.hid hu
    clear h ok h0 hd hu c0 c1 c3 c4 c5 c6 c7 hf hm hk
    go_enter Try.func12, Try.ntmps12
    go_wp2_with fail
    refine HU.out.mono ?_
    rintro e w1 ⟨rfl, r1, o1⟩
    have HFIN := Lib.hid (show RefTo (lenV tv + 1000) w B (rblocks B lv wv tv) w1 { d with off := false, calls := 0 } from ⟨lv, wv, tv, r1, by omega, FreshL.refl _ _, HON.out.trans (o1.mono (by simp [rblocks]))⟩)
    clear r1 o1
    go_wp2_with fail
    go_end0
    exact ⟨rfl, HFIN.out⟩
  | false =>
    have hd : refKillD d keep torn at_ = { loseD d keep torn at_ with off := false, calls := 0 } := by unfold refKillD; rw [if_neg (by simp [hoff])]
    rw [hd]
    rw [hoff] at c2
    have hl := refLose_all h0 ok hm ht keep hk torn at_
    have HL := Lib.hid hl
    clear h ok h0 hd hl c0 c1 c3 c4 c5 c6 c7 hf hm hk ht
    go_enter Try.func12, Try.ntmps12
    go_wp2_with fail
    refine HL.out.mono ?_
    rintro e w1 ⟨rfl, ⟨lv1, wv1, tv1, r1, l1, fr1, o1⟩⟩
    have hu := refUp_any r1
    have HU := Lib.hid hu
    have HR1 := Lib.hid (show lenV tv1 ≤ lenV tv + 1000 ∧ FreshL w (rblocks B lv wv tv) (rblocks B lv1 wv1 tv1) ∧ Onl (rblocks B lv wv tv) w w1 from ⟨l1, fun k hk => (fr1 k hk).imp id (fun h => by simp at h; omega), HON.out.trans o1⟩)
    clear r1 l1 fr1 o1 hu
    go_wp2_with fail
    refine HU.out.mono ?_
    rintro e w2 ⟨rfl, r2, o2⟩
    have HFIN := Lib.hid (show RefTo (lenV tv + 1000) w B (rblocks B lv wv tv) w2 { loseD d keep torn at_ with off := false, calls := 0 } from ⟨lv1, wv1, tv1, r2, HR1.out.1, HR1.out.2.1, HR1.out.2.2.trans (o2.mono (by simp [rblocks]))⟩)
    clear r2 o2
    go_wp2_with fail
    go_end0
    exact ⟨rfl, HFIN.out⟩

end Go.Proofs.Ytfmcbccmijcdgaa.Bk
