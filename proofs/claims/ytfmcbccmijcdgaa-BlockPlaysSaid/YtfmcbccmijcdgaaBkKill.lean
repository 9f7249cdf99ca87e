/-
  The walks over package block's Kill and burn.
-/
import Derived.Test.YtfmcbccmijcdgaaBkLose
namespace Go.Proofs.Ytfmcbccmijcdgaa.Bk
open Go.RowKit

set_option maxRecDepth 100000 in
/-- lose, where nothing waits. -/
theorem lose_none {w : World} {D R : Nat} {d : Dev} (h : DevAt w D R (.slice none 0 0) d) (hp : d.pend = []) (keep : Nat) (torn at_ : Int) :
    Calls Try.prog 33 #[.pointer (some ⟨D, 0, none⟩), .agg #[.int .u64 (keep : Int), .int .i64 torn, .int .i64 at_]] w fun e w' =>
      e = .returned (.tuple #[]) ∧ DevAt w' D R (.slice none 0 0) (loseD d keep torn at_) ∧ Onl [D, R] w w' := by
  obtain ⟨⟨c0, c1, c2, c3, c4, c5, c6⟩, ⟨f0, f1, f2, f3, f4, f5, f6⟩, hlt⟩ := h.cells
  have hd : loseD d keep torn at_ = d := by unfold loseD; rw [hp]; cases d; simp only at hp; subst hp; rfl
  rw [hd]
  have hfin := h.setPend (pv' := .slice none 0 0) [] rfl rfl (World.ownsRow_nil _ _ _ _) (by simp [Value.ownBlock]) (by simp [Value.ownBlock]) (by simp)
  have he : ({ d with pend := [] } : Dev) = d := by cases d; simp only at hp; subst hp; rfl
  rw [he] at hfin
  have HFIN := Lib.hid (hfin.later ((Onl.refl [] _).alloc (.cells #[.int .u64 (keep : Int), .int .i64 torn, .int .i64 at_] 30)) (by simp))
  have HO := Lib.hid ((((Onl.refl [D, R] w).setCell (p := ⟨D, 1, none⟩) (by simp) (.slice none 0 0))).alloc (.cells #[.int .u64 (keep : Int), .int .i64 torn, .int .i64 at_] 30))
  clear h hp hd hfin he c0 c2 c3 c4 c5 c6 f0 f2 f3 f4 f5 f6
  go_enter Try.func33, Try.ntmps33
  go_wp2_with fail
  refine wp_loop_rounds 1 ?_
  rw [rounds_succ]
  go_wp2_with fail
  go_end0
  exact ⟨rfl, HFIN.out, HO.out⟩

theorem lose_all {w : World} {D R : Nat} {pv : Value} {d : Dev} (h : DevAt w D R pv d) (hm : d.pend.length ≤ 1000) (keep : Nat) (hk : keep < 18446744073709551616) (torn at_ : Int) :
    Calls Try.prog 33 #[.pointer (some ⟨D, 0, none⟩), .agg #[.int .u64 (keep : Int), .int .i64 torn, .int .i64 at_]] w fun e w' =>
      e = .returned (.tuple #[]) ∧ DevAt w' D R (.slice none 0 0) (loseD d keep torn at_) ∧ Onl [D, R] w w' := by
  rcases own_form h.own with ⟨rfl, h0⟩ | ⟨g, cap, rfl⟩
  · exact lose_none h (List.length_eq_zero_iff.1 h0) keep torn at_
  · exact lose_any h hm keep hk torn at_

/-- What Kill leaves. -/
def killD (d : Dev) (keep : Nat) (torn at_ : Int) : Dev := { loseD d keep torn at_ with off := false, calls := 0, keep := 0, torn := 0, at_ := 0 }
set_option maxRecDepth 100000 in
theorem kill_any {w : World} {D R : Nat} {pv : Value} {d : Dev} (h : DevAt w D R pv d) (hm : d.pend.length ≤ 1000) (keep : Nat) (hk : keep < 18446744073709551616) (torn at_ : Int) :
    Calls Try.prog 11 #[.pointer (some ⟨D, 0, none⟩), .agg #[.int .u64 (keep : Int), .int .i64 torn, .int .i64 at_]] w fun e w' =>
      e = .returned (.tuple #[]) ∧ DevAt w' D R (.slice none 0 0) (killD d keep torn at_) ∧ Onl [D, R] w w' := by
  have h0 := h.later ((Onl.refl [] w).alloc (.cells #[.int .u64 (keep : Int), .int .i64 torn, .int .i64 at_] 30)) (by simp)
  have hl := lose_all h0 hm keep hk torn at_
  have HL := Lib.hid hl
  have HO := Lib.hid ((Onl.refl [D, R] w).alloc (.cells #[.int .u64 (keep : Int), .int .i64 torn, .int .i64 at_] 30))
  clear h h0 hl hm hk
  go_enter Try.func11, Try.ntmps11
  go_wp2_with fail
  refine HL.out.mono ?_
  rintro e w1 ⟨rfl, d1, o1⟩
  have hu := up_any d1
  have HU := Lib.hid hu
  have O1 := Lib.hid (HO.out.trans o1)
  clear d1 o1 hu
  go_wp2_with fail
  refine HU.out.mono ?_
  rintro e w2 ⟨rfl, d2, o2⟩
  have D2 := Lib.hid d2
  have O2 := Lib.hid (O1.out.trans (o2.mono (by simp)))
  clear d2 o2
  go_wp2_with fail
  go_end0
  exact ⟨rfl, D2.out, O2.out⟩
theorem kill_nil (c : Value) (w : World) (hc : ∃ k t a, c = .agg #[.int .u64 k, .int .i64 t, .int .i64 a]) :
    Calls Try.prog 11 #[.pointer none, c] w fun e w' => e = .returned (.tuple #[]) ∧ Below w.heap.size w w' := by
  obtain ⟨k, t, a, rfl⟩ := hc
  go_enter Try.func11, Try.ntmps11
  go_wp2_with fail
  (try simp only [Exit.inBlock, Exit.then]); refine bodyPost_ret (results_none rfl _ _ _) rfl ?_
  exact ⟨rfl, (Below.refl _ _).alloc (Nat.le_refl _) _⟩

/-- What a call that would be OK leaves of the fuse, and what it answers. -/
def burnD (d : Dev) : Dev :=
  if d.calls = 0 then d else if 1 < d.calls then { d with calls := d.calls - 1 } else { loseD d d.keep d.torn d.at_ with calls := 0, keep := 0, torn := 0, at_ := 0, off := true }
def burnE (d : Dev) : Nat := if d.calls = 1 then 10 else 0
set_option maxRecDepth 100000 in
theorem burn_any {w : World} {D R : Nat} {pv : Value} {d : Dev} (h : DevAt w D R pv d) (hm : d.pend.length ≤ 1000) :
    Calls Try.prog 31 #[.pointer (some ⟨D, 0, none⟩)] w fun e w' =>
      e = .returned (.int .i64 (burnE d : Nat)) ∧ (∃ pv', DevAt w' D R pv' (burnD d) ∧ (pv' = pv ∨ pv' = .slice none 0 0)) ∧ Onl [D, R] w w' := by
  obtain ⟨⟨c0, c1, c2, c3, c4, c5, c6⟩, ⟨f0, f1, f2, f3, f4, f5, f6⟩, hlt⟩ := h.cells
  have hcl := h.ok.calls
  by_cases h0 : d.calls = 0
  · have hE : burnE d = 0 := by unfold burnE; rw [if_neg (by omega)]
    have hD : burnD d = d := by unfold burnD; rw [if_pos h0]
    rw [hE, hD]
    have H := Lib.hid h
    rw [h0] at c2
    clear h h0 hE hD hcl c0 c1 c3 c4 c5 c6
    go_enter Try.func31, Try.ntmps31
    go_wp2_with fail
    go_ret
    exact ⟨rfl, ⟨_, H.out, Or.inl rfl⟩, Onl.refl _ _⟩
  · have hn0 : ((d.calls : Int) == 0) = false := by simp; omega
    have hn00 : (d.calls == 0) = false := by simpa using h0
    have ho1 := (Onl.refl [D, R] w).setCell (p := ⟨D, 2, none⟩) (by simp) (.int .i64 ((d.calls - 1 : Nat) : Int))
    have h1 := h.setCalls (d.calls - 1) (by omega)
    obtain ⟨n, hn⟩ : ∃ n, d.calls = n + 1 := ⟨d.calls - 1, by omega⟩
    have hs : d.calls - 1 = n := by omega
    by_cases h2 : 1 < d.calls
    · have hE : burnE d = 0 := by unfold burnE; rw [if_neg (by omega)]
      have hD : burnD d = { d with calls := d.calls - 1 } := by unfold burnD; rw [if_neg h0, if_pos h2]
      rw [hE, hD]
      rw [hs] at h1 ho1 ⊢
      rw [hn] at c2 hn0 hn00
      have hn1 : 0 < n := by omega
      have H1 := Lib.hid h1
      have HO1 := Lib.hid ho1
      have hb : n ≤ 9223372036854775806 := by omega
      clear h h0 hE hD hcl c0 c1 c3 c4 c5 c6 h1 ho1 h2 hn hs
      go_enter Try.func31, Try.ntmps31
      go_wp2_with fail
      go_ret
      exact ⟨rfl, ⟨_, H1.out, Or.inl rfl⟩, HO1.out⟩
    · obtain rfl : n = 0 := by omega
      have hc1 : d.calls = 1 := by omega
      have hE : burnE d = 10 := by unfold burnE; rw [if_pos hc1]
      have hD : burnD d = { loseD d d.keep d.torn d.at_ with calls := 0, keep := 0, torn := 0, at_ := 0, off := true } := by unfold burnD; rw [if_neg h0, if_neg h2]
      rw [hE, hD]
      rw [hs] at h1 ho1
      have hl := lose_all h1 hm d.keep h.ok.keep d.torn d.at_
      have HL := Lib.hid hl
      have HO1 := Lib.hid ho1
      rw [hc1] at c2
      clear h h0 hE hD hcl c0 c1 h1 ho1 h2 hn hs hl hc1 hn0 hn00
      go_enter Try.func31, Try.ntmps31
      go_wp2_with fail
      refine HL.out.mono ?_
      rintro e w1 ⟨rfl, d1, o1⟩
      have hx := ((d1.setFuse 0 0 0 0 (by omega) (by omega)).setOff true)
      obtain ⟨⟨a0, a1, a2, a3, a4, a5, a6⟩, ⟨g0, g1, g2, g3, g4, g5, g6⟩, hlt1⟩ := d1.cells
      have HX := Lib.hid hx
      have HO := Lib.hid (((((((HO1.out.trans o1).setCell (p := ⟨D, 2, none⟩) (by simp) (.int .i64 0)).setCell (p := ⟨D, 3, none⟩) (by simp) (.int .u64 0)).setCell (p := ⟨D, 4, none⟩) (by simp) (.int .i64 0)).setCell (p := ⟨D, 5, none⟩) (by simp) (.int .i64 0)).setCell (p := ⟨D, 6, none⟩) (by simp) (.bool true)))
      clear d1 o1 hx c2 c3 c4 c5 c6 f0 f1 f2 f3 f4 f5 f6 a0 a1
      go_wp2_with fail
      go_ret
      exact ⟨rfl, ⟨_, HX.out, Or.inr rfl⟩, HO.out⟩

end Go.Proofs.Ytfmcbccmijcdgaa.Bk
