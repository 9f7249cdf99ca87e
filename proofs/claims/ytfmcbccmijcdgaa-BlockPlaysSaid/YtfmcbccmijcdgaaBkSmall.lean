/-
  The walks over package block's small methods, each by its contract.
-/
import Derived.Test.YtfmcbccmijcdgaaBkMem
namespace Go.Proofs.Ytfmcbccmijcdgaa.Bk
open Go.RowKit

/-- torn: how many bytes of a torn write last. -/
def tornN (a : Int) : Nat := if 0 < a then (a % 65).toNat else 0
theorem tornN_lt (a : Int) : tornN a < 65 := by unfold tornN; split <;> omega

set_option maxRecDepth 100000 in
theorem torn_any (a : Int) (w : World) :
    Calls Try.prog 36 #[.int .i64 a] w fun e w' => e = .returned (.int .i64 (tornN a : Nat)) ∧ w = w' := by
  unfold tornN
  by_cases h : 0 < a
  · rw [if_pos h]
    have hm : max a 0 = a := by omega
    have hmn : ¬ a < 0 := by omega
    have hm2 : a.tmod 65 = ((a % 65).toNat : Int) := by rw [Int.tmod_eq_emod_of_nonneg (by omega)]; omega
    go_enter Try.func36, Try.ntmps36
    go_wp2_with fail
    go_ret
    exact ⟨rfl, rfl⟩
  · rw [if_neg h]
    have hm : max a 0 = 0 := by omega
    go_enter Try.func36, Try.ntmps36
    go_wp2_with fail
    go_ret
    exact ⟨rfl, rfl⟩

/-- dead: of a device. -/
def deadE (d : Dev) : Nat := if d.off = true then 10 else 0
theorem dead_any {w : World} {D R : Nat} {pv : Value} {d : Dev} (h : DevAt w D R pv d) :
    Calls Try.prog 30 #[.pointer (some ⟨D, 0, none⟩)] w fun e w' => e = .returned (.int .i64 (deadE d : Nat)) ∧ w = w' := by
  obtain ⟨⟨c0, c1, c2, c3, c4, c5, c6⟩, _, _⟩ := h.cells
  clear h c0 c1 c2 c3 c4 c5
  unfold deadE
  cases hb : d.off
  all_goals
    rw [hb] at c6
    clear hb
    go_enter Try.func30, Try.ntmps30
    go_wp2_with fail
    go_ret
    exact ⟨rfl, rfl⟩
theorem dead_nil (w : World) :
    Calls Try.prog 30 #[.pointer none] w fun e w' => e = .returned (.int .i64 1) ∧ w = w' := by
  go_enter Try.func30, Try.ntmps30
  go_wp2_with fail
  go_ret
  exact ⟨rfl, rfl⟩

/-- refuses. -/
def refE (d : Dev) (i : Int) : Nat := if d.off = true then 10 else if i < 0 ∨ (d.dur.length : Int) ≤ i then 2 else 0
theorem refuses_any {w : World} {D R : Nat} {pv : Value} {d : Dev} (h : DevAt w D R pv d) (i : Int) :
    Calls Try.prog 28 #[.pointer (some ⟨D, 0, none⟩), .int .i64 i] w fun e w' => e = .returned (.int .i64 (refE d i : Nat)) ∧ w = w' := by
  have hd := dead_any h
  obtain ⟨⟨c0, c1, c2, c3, c4, c5, c6⟩, _, _⟩ := h.cells
  clear h c1 c2 c3 c4 c5 c6
  unfold refE
  unfold deadE at hd
  generalize d.dur.length = n at *
  cases hb : d.off
  · rw [hb] at hd
    have HD := Lib.hid hd
    clear hb hd
    by_cases h1 : i < 0
    · have e : (if false = true then 10 else if i < 0 ∨ (n : Int) ≤ i then 2 else 0) = 2 := by simp [h1]
      rw [e]
      clear e
      go_enter Try.func28, Try.ntmps28
      go_wp2_with fail
      refine HD.out.mono ?_
      rintro e w1 ⟨rfl, rfl⟩
      go_wp2_with fail
      go_ret
      exact ⟨rfl, rfl⟩
    · have h1' : decide (i < 0) = false := by simpa using h1
      by_cases h2 : (n : Int) ≤ i
      · have e : (if false = true then 10 else if i < 0 ∨ (n : Int) ≤ i then 2 else 0) = 2 := by simp [h2]
        rw [e]
        clear e h1
        go_enter Try.func28, Try.ntmps28
        go_wp2_with fail
        refine HD.out.mono ?_
        rintro e w1 ⟨rfl, rfl⟩
        go_wp2_with fail
        go_ret
        exact ⟨rfl, rfl⟩
      · have e : (if false = true then 10 else if i < 0 ∨ (n : Int) ≤ i then 2 else 0) = 0 := by simp [h1, h2]
        rw [e]
        have h2' : decide ((n : Int) ≤ i) = false := by simpa using h2
        clear e h1 h2
        go_enter Try.func28, Try.ntmps28
        go_wp2_with fail
        refine HD.out.mono ?_
        rintro e w1 ⟨rfl, rfl⟩
        go_wp2_with fail
        go_ret
        exact ⟨rfl, rfl⟩
  · rw [hb] at hd
    have HD := Lib.hid hd
    clear hb hd
    go_enter Try.func28, Try.ntmps28
    go_wp2_with fail
    refine HD.out.mono ?_
    rintro e w1 ⟨rfl, rfl⟩
    go_wp2_with fail
    go_ret
    exact ⟨rfl, rfl⟩
theorem refuses_nil (i : Int) (w : World) :
    Calls Try.prog 28 #[.pointer none, .int .i64 i] w fun e w' => e = .returned (.int .i64 1) ∧ w = w' := by
  go_enter Try.func28, Try.ntmps28
  go_wp2_with fail
  refine (dead_nil _).mono ?_
  rintro e w1 ⟨rfl, rfl⟩
  go_wp2_with fail
  go_ret
  exact ⟨rfl, rfl⟩

theorem sectors_any {w : World} {D R : Nat} {pv : Value} {d : Dev} (h : DevAt w D R pv d) :
    Calls Try.prog 26 #[.pointer (some ⟨D, 0, none⟩)] w fun e w' => e = .returned (.int .i64 (d.dur.length : Nat)) ∧ w = w' := by
  obtain ⟨⟨c0, c1, c2, c3, c4, c5, c6⟩, _, _⟩ := h.cells
  clear h c1 c2 c3 c4 c5 c6
  go_enter Try.func26, Try.ntmps26
  go_wp2_with fail
  go_ret
  exact ⟨rfl, rfl⟩
theorem sectors_nil (w : World) :
    Calls Try.prog 26 #[.pointer none] w fun e w' => e = .returned (.int .i64 0) ∧ w = w' := by
  go_enter Try.func26, Try.ntmps26
  go_wp2_with fail
  go_ret
  exact ⟨rfl, rfl⟩

theorem off_any {w : World} {D R : Nat} {pv : Value} {d : Dev} (h : DevAt w D R pv d) :
    Calls Try.prog 22 #[.pointer (some ⟨D, 0, none⟩)] w fun e w' => e = .returned (.bool d.off) ∧ w = w' := by
  obtain ⟨⟨c0, c1, c2, c3, c4, c5, c6⟩, _, _⟩ := h.cells
  clear h c0 c1 c2 c3 c4 c5
  go_enter Try.func22, Try.ntmps22
  go_wp2_with fail
  go_ret
  exact ⟨rfl, rfl⟩
theorem off_nil (w : World) :
    Calls Try.prog 22 #[.pointer none] w fun e w' => e = .returned (.bool false) ∧ w = w' := by
  go_enter Try.func22, Try.ntmps22
  go_wp2_with fail
  go_ret
  exact ⟨rfl, rfl⟩

/-- A row's value, as far as it is known: none, or a block. -/
theorem own_form {w : World} {base e size n : Nat} {v : Value} {xs : List Value} (h : w.ownsRow base e size v n xs) :
    (v = .slice none 0 0 ∧ n = 0) ∨ ∃ g cap, v = .slice (some ⟨g, 0, none⟩) n cap := by
  rcases h.2 with h1 | ⟨g, cap, cur, h1, _⟩
  · exact Or.inl h1
  · exact Or.inr ⟨g, cap, h1⟩

theorem waits_any {w : World} {D R : Nat} {pv : Value} {d : Dev} (h : DevAt w D R pv d) :
    Calls Try.prog 23 #[.pointer (some ⟨D, 0, none⟩)] w fun e w' => e = .returned (.int .i64 (d.pend.length : Nat)) ∧ w = w' := by
  obtain ⟨⟨c0, c1, c2, c3, c4, c5, c6⟩, _, _⟩ := h.cells
  have hf := own_form h.own
  clear h c0 c2 c3 c4 c5 c6
  generalize d.pend.length = n at *
  rcases hf with ⟨rfl, rfl⟩ | ⟨g, cap, rfl⟩
  · go_enter Try.func23, Try.ntmps23
    go_wp2_with fail
    go_ret
    exact ⟨rfl, rfl⟩
  · go_enter Try.func23, Try.ntmps23
    go_wp2_with fail
    go_ret
    exact ⟨rfl, rfl⟩
theorem waits_nil (w : World) :
    Calls Try.prog 23 #[.pointer none] w fun e w' => e = .returned (.int .i64 0) ∧ w = w' := by
  go_enter Try.func23, Try.ntmps23
  go_wp2_with fail
  go_ret
  exact ⟨rfl, rfl⟩

/-- Up. -/
theorem up_any {w : World} {D R : Nat} {pv : Value} {d : Dev} (h : DevAt w D R pv d) :
    Calls Try.prog 15 #[.pointer (some ⟨D, 0, none⟩)] w fun e w' => e = .returned (.tuple #[]) ∧ DevAt w' D R pv { d with off := false, calls := 0, keep := 0, torn := 0, at_ := 0 } ∧ Onl [D] w w' := by
  have HR := Lib.hid ((h.setOff false).setFuse 0 0 0 0 (by omega) (by omega))
  have HO := Lib.hid (((((Onl.refl [D] w).setCell (p := ⟨D, 6, none⟩) (by simp) (.bool false)).setCell (p := ⟨D, 2, none⟩) (by simp) (.int .i64 0)).setCell (p := ⟨D, 3, none⟩) (by simp) (.int .u64 0)).setCell (p := ⟨D, 4, none⟩) (by simp) (.int .i64 0) |>.setCell (p := ⟨D, 5, none⟩) (by simp) (.int .i64 0))
  obtain ⟨⟨c0, c1, c2, c3, c4, c5, c6⟩, ⟨f0, f1, f2, f3, f4, f5, f6⟩, _⟩ := h.cells
  clear h
  go_enter Try.func15, Try.ntmps15
  go_wp2_with fail
  go_end0
  exact ⟨rfl, HR.out, HO.out⟩
theorem up_nil (w : World) :
    Calls Try.prog 15 #[.pointer none] w fun e w' => e = .returned (.tuple #[]) ∧ w = w' := by
  go_enter Try.func15, Try.ntmps15
  go_wp2_with fail
  (try simp only [Exit.inBlock, Exit.then]); refine bodyPost_ret (results_none rfl _ _ _) rfl ?_
  exact ⟨rfl, rfl⟩

/-- What Fuse leaves. -/
def fuseD (d : Dev) (n : Int) (keep : Nat) (torn at_ : Int) : Dev :=
  if 1 ≤ n then { d with calls := n.toNat, keep := keep, torn := torn, at_ := at_ } else { d with calls := 0, keep := 0, torn := 0, at_ := 0 }
theorem fuse_any {w : World} {D R : Nat} {pv : Value} {d : Dev} (h : DevAt w D R pv d) (n : Int) (hn : n ≤ 9223372036854775807) (keep : Nat) (hk : keep < 18446744073709551616) (torn at_ : Int) :
    Calls Try.prog 13 #[.pointer (some ⟨D, 0, none⟩), .int .i64 n, .agg #[.int .u64 (keep : Int), .int .i64 torn, .int .i64 at_]] w fun e w' =>
      e = .returned (.tuple #[]) ∧ DevAt w' D R pv (fuseD d n keep torn at_) ∧ Onl [D] w w' := by
  have h1 := h.setFuse 0 0 0 0 (by omega) (by omega)
  have ho1 := (((((Onl.refl [D] w).setCell (p := ⟨D, 2, none⟩) (by simp) (.int .i64 0)).setCell (p := ⟨D, 3, none⟩) (by simp) (.int .u64 0)).setCell (p := ⟨D, 4, none⟩) (by simp) (.int .i64 0)).setCell (p := ⟨D, 5, none⟩) (by simp) (.int .i64 0))
  obtain ⟨⟨c0, c1, c2, c3, c4, c5, c6⟩, ⟨f0, f1, f2, f3, f4, f5, f6⟩, hlt⟩ := h.cells
  have hne : D ≠ w.heap.size := by omega
  have hne2 : w.heap.size ≠ D := by omega
  by_cases hn1 : 1 ≤ n
  · obtain ⟨N, rfl⟩ := Int.eq_ofNat_of_zero_le (show 0 ≤ n by omega)
    have h2 := h1.setFuse N keep torn at_ (by omega) hk
    have ho2 := ((((ho1.setCell (p := ⟨D, 2, none⟩) (by simp) (.int .i64 (N : Int))).setCell (p := ⟨D, 3, none⟩) (by simp) (.int .u64 (keep : Int))).setCell (p := ⟨D, 4, none⟩) (by simp) (.int .i64 torn)).setCell (p := ⟨D, 5, none⟩) (by simp) (.int .i64 at_))
    have hf : fuseD d (N : Int) keep torn at_ = { d with calls := N, keep := keep, torn := torn, at_ := at_ } := by unfold fuseD; rw [if_pos hn1]; simp
    rw [hf]
    have H2 := Lib.hid (h2.later ((Onl.refl [] _).alloc (.cells #[.int .u64 (keep : Int), .int .i64 torn, .int .i64 at_] 30)) (by simp))
    have HO2 := Lib.hid (ho2.alloc (.cells #[.int .u64 (keep : Int), .int .i64 torn, .int .i64 at_] 30))
    clear h h1 ho1 h2 ho2 hf c0 c1 hn hk
    go_enter Try.func13, Try.ntmps13
    go_wp2_with fail
    go_end0
    exact ⟨rfl, H2.out, HO2.out⟩
  · have hf : fuseD d n keep torn at_ = { d with calls := 0, keep := 0, torn := 0, at_ := 0 } := by unfold fuseD; rw [if_neg hn1]
    rw [hf]
    have hn2 : decide (1 ≤ n) = false := by simpa using hn1
    have H2 := Lib.hid (h1.later ((Onl.refl [] _).alloc (.cells #[.int .u64 (keep : Int), .int .i64 torn, .int .i64 at_] 30)) (by simp))
    have HO2 := Lib.hid (ho1.alloc (.cells #[.int .u64 (keep : Int), .int .i64 torn, .int .i64 at_] 30))
    clear h h1 ho1 hf c0 c1 hn hk hn1
    go_enter Try.func13, Try.ntmps13
    go_wp2_with fail
    go_end0
    exact ⟨rfl, H2.out, HO2.out⟩
theorem fuse_nil (n : Int) (c : Value) (w : World) (hc : ∃ k t a, c = .agg #[.int .u64 k, .int .i64 t, .int .i64 a]) :
    Calls Try.prog 13 #[.pointer none, .int .i64 n, c] w fun e w' => e = .returned (.tuple #[]) ∧ Below w.heap.size w w' := by
  obtain ⟨k, t, a, rfl⟩ := hc
  go_enter Try.func13, Try.ntmps13
  go_wp2_with fail
  (try simp only [Exit.inBlock, Exit.then]); refine bodyPost_ret (results_none rfl _ _ _) rfl ?_
  exact ⟨rfl, (Below.refl _ _).alloc (Nat.le_refl _) _⟩

/-- make([]sector, n). -/
theorem info_sec : (Try.prog.info? 66).map (fun i => (i.zero, i.size, i.bytes)) = some (some (.agg (secC Z64).toArray), 64, 64) := by kernel_rfl
theorem info_wr : (Try.prog.info? 68).map (fun i => (i.zero, i.size, i.bytes)) = some (some (.agg (wrC 0 Z64).toArray), 65, 72) := by kernel_rfl
theorem durC_rep (n : Nat) : durC (List.replicate n Z64) = (madeCells (secC Z64).toArray (n * 64)).toList := by
  have hz : ∀ x ∈ List.replicate n Z64, x.length = 64 := fun x hx => by rw [List.eq_of_mem_replicate hx]; exact Z64_length
  have hl := durC_length (List.replicate n Z64) hz
  apply List.ext_getElem?
  intro k
  by_cases hk : k < n * 64
  · have h1 := durC_at (List.replicate n Z64) hz (k / 64) (by simp; omega) (k % 64) (by omega)
    rw [show k / 64 * 64 + k % 64 = k by omega] at h1
    rw [h1]
    have hg : (List.replicate n Z64).getD (k / 64) [] = Z64 := by simp [List.getD, show k / 64 < n by omega]
    rw [hg]
    have hs : (secC Z64).toArray.size = 64 := by simp [secC_length, Z64_length]
    simp only [madeCells, Array.getElem?_toList]
    rw [Array.getElem?_eq_getElem (by simpa using hk)]
    simp [hs, List.getElem?_eq_getElem (show k % 64 < (secC Z64).length by rw [secC_length, Z64_length]; omega)]
  · rw [List.getElem?_eq_none (by rw [hl]; simp; omega), List.getElem?_eq_none (by simp [madeCells]; omega)]

end Go.Proofs.Ytfmcbccmijcdgaa.Bk
