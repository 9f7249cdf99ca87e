/-
  The program's values: the library's comparisons (cmp.Compare, slices.Compare, cmp.Or, slices.Equal).
-/
import Derived.Test.YtflmpljmgncigaaDoorVaOrd
import Derived.Deep.QuietTactic
import Derived.BigQuiet
namespace Go.Proofs.YtflmpljmgncigaaDoor.Va
open Go.RowKit

theorem isNaN_int (a : Int) (w : World) : Calls Tryd.prog 55 #[.int .i64 a] w fun e w' => e = .returned (.bool false) ∧ w = w' := by
  go_enter Tryd.func55, Tryd.ntmps55
  go_wp2_with fail
  go_ret
  exact ⟨rfl, rfl⟩
theorem isNaN_int64 (a : Int) (w : World) : Calls Tryd.prog 56 #[.int .i64 a] w fun e w' => e = .returned (.bool false) ∧ w = w' := by
  go_enter Tryd.func56, Tryd.ntmps56
  go_wp2_with fail
  go_ret
  exact ⟨rfl, rfl⟩
theorem isNaN_string (s : ByteArray) (w : World) : Calls Tryd.prog 57 #[.string s] w fun e w' => e = .returned (.bool false) ∧ w = w' := by
  have e1 : (s.toList == s.toList) = true := by simp
  go_enter Tryd.func57, Tryd.ntmps57
  go_wp2_with fail
  go_ret
  exact ⟨rfl, rfl⟩

theorem compare_int (a b : Int) (w : World) :
    Calls Tryd.prog 37 #[.int .i64 a, .int .i64 b] w fun e w' => e = .returned (.int .i64 (ordI a b)) ∧ w = w' := by
  have hn := isNaN_int
  have HN := Lib.hid hn
  clear hn
  by_cases h1 : a < b
  · have e : ordI a b = -1 := if_pos h1
    rw [e]
    clear e
    go_enter Tryd.func37, Tryd.ntmps37
    go_wp2_with fail
    refine (HN.out _ _).mono ?_
    rintro e w' ⟨rfl, rfl⟩
    go_wp2_with fail
    refine (HN.out _ _).mono ?_
    rintro e w' ⟨rfl, rfl⟩
    go_wp2_with fail
    go_ret
    exact ⟨rfl, rfl⟩
  · by_cases h2 : b < a
    · have e : ordI a b = 1 := by unfold ordI; rw [if_neg h1, if_pos h2]
      rw [e]
      clear e
      go_enter Tryd.func37, Tryd.ntmps37
      go_wp2_with fail
      refine (HN.out _ _).mono ?_
      rintro e w' ⟨rfl, rfl⟩
      go_wp2_with fail
      refine (HN.out _ _).mono ?_
      rintro e w' ⟨rfl, rfl⟩
      go_wp2_with fail
      go_ret
      exact ⟨rfl, rfl⟩
    · have e : ordI a b = 0 := by unfold ordI; rw [if_neg h1, if_neg h2]
      rw [e]
      clear e
      go_enter Tryd.func37, Tryd.ntmps37
      go_wp2_with fail
      refine (HN.out _ _).mono ?_
      rintro e w' ⟨rfl, rfl⟩
      go_wp2_with fail
      refine (HN.out _ _).mono ?_
      rintro e w' ⟨rfl, rfl⟩
      go_wp2_with fail
      go_ret
      exact ⟨rfl, rfl⟩

theorem compare_int64 (a b : Int) (w : World) :
    Calls Tryd.prog 38 #[.int .i64 a, .int .i64 b] w fun e w' => e = .returned (.int .i64 (ordI a b)) ∧ w = w' := by
  have hn := isNaN_int64
  have HN := Lib.hid hn
  clear hn
  by_cases h1 : a < b
  · have e : ordI a b = -1 := if_pos h1
    rw [e]
    clear e
    go_enter Tryd.func38, Tryd.ntmps38
    go_wp2_with fail
    refine (HN.out _ _).mono ?_
    rintro e w' ⟨rfl, rfl⟩
    go_wp2_with fail
    refine (HN.out _ _).mono ?_
    rintro e w' ⟨rfl, rfl⟩
    go_wp2_with fail
    go_ret
    exact ⟨rfl, rfl⟩
  · by_cases h2 : b < a
    · have e : ordI a b = 1 := by unfold ordI; rw [if_neg h1, if_pos h2]
      rw [e]
      clear e
      go_enter Tryd.func38, Tryd.ntmps38
      go_wp2_with fail
      refine (HN.out _ _).mono ?_
      rintro e w' ⟨rfl, rfl⟩
      go_wp2_with fail
      refine (HN.out _ _).mono ?_
      rintro e w' ⟨rfl, rfl⟩
      go_wp2_with fail
      go_ret
      exact ⟨rfl, rfl⟩
    · have e : ordI a b = 0 := by unfold ordI; rw [if_neg h1, if_neg h2]
      rw [e]
      clear e
      go_enter Tryd.func38, Tryd.ntmps38
      go_wp2_with fail
      refine (HN.out _ _).mono ?_
      rintro e w' ⟨rfl, rfl⟩
      go_wp2_with fail
      refine (HN.out _ _).mono ?_
      rintro e w' ⟨rfl, rfl⟩
      go_wp2_with fail
      go_ret
      exact ⟨rfl, rfl⟩

theorem bytesLess_asymm : ∀ (a b : List UInt8), a ≠ b → Op.bytesLess b a = !Op.bytesLess a b := by
  intro a b h
  have h1 := less_T a b h
  have h2 := less_T b a (fun e => h e.symm)
  have h3 := cmpT.swap a b
  cases x : Op.bytesLess a b <;> cases y : Op.bytesLess b a <;> rw [x] at h1 <;> rw [y] at h2 <;> simp at h1 h2 ⊢ <;> omega
theorem bytesLess_self : ∀ (a : List UInt8), Op.bytesLess a a = false
  | [] => rfl
  | c :: r => by unfold Op.bytesLess; simp [bytesLess_self r, UInt8.lt_irrefl]

theorem compare_string (a b : List UInt8) (w : World) :
    Calls Tryd.prog 39 #[.string (S a), .string (S b)] w fun e w' => e = .returned (.int .i64 (ordT a b)) ∧ w = w' := by
  have hn := isNaN_string
  have HN := Lib.hid hn
  clear hn
  by_cases hab : a = b
  · subst hab
    have e : ordT a a = 0 := (cmpT.zero a a).2 rfl
    have l1 : Op.bytesLess (S a).toList (S a).toList = false := by rw [S_less]; exact bytesLess_self a
    rw [e]
    clear e
    go_enter Tryd.func39, Tryd.ntmps39
    go_wp2_with fail
    refine (HN.out _ _).mono ?_
    rintro e w' ⟨rfl, rfl⟩
    go_wp2_with fail
    refine (HN.out _ _).mono ?_
    rintro e w' ⟨rfl, rfl⟩
    go_wp2_with fail
    go_ret
    exact ⟨rfl, rfl⟩
  · have hl := less_T a b hab
    have hs := bytesLess_asymm a b hab
    cases hb : Op.bytesLess a b with
    | true =>
      rw [hb, if_pos rfl] at hl
      have l1 : Op.bytesLess (S a).toList (S b).toList = true := by rw [S_less]; exact hb
      rw [hl]
      clear hl hs hab hb
      go_enter Tryd.func39, Tryd.ntmps39
      go_wp2_with fail
      refine (HN.out _ _).mono ?_
      rintro e w' ⟨rfl, rfl⟩
      go_wp2_with fail
      refine (HN.out _ _).mono ?_
      rintro e w' ⟨rfl, rfl⟩
      go_wp2_with fail
      go_ret
      exact ⟨rfl, rfl⟩
    | false =>
      rw [hb, if_neg (by simp)] at hl
      have l1 : Op.bytesLess (S a).toList (S b).toList = false := by rw [S_less]; exact hb
      have l2 : Op.bytesLess (S b).toList (S a).toList = true := by rw [S_less, hs, hb]; rfl
      have l3 : ((S a).toList == (S b).toList) = false := by rw [S_beq]; simpa using hab
      rw [hl]
      clear hl hs hab hb
      go_enter Tryd.func39, Tryd.ntmps39
      go_wp2_with fail
      refine (HN.out _ _).mono ?_
      rintro e w' ⟨rfl, rfl⟩
      go_wp2_with fail
      refine (HN.out _ _).mono ?_
      rintro e w' ⟨rfl, rfl⟩
      go_wp2_with fail
      go_ret
      exact ⟨rfl, rfl⟩

set_option maxHeartbeats 1600000 in
/-- slices.Compare of two rows of numbers. -/
theorem compare_list (x y : List Int) (hx1 : x.length ≤ 9223372036854775807) (hy1 : y.length ≤ 9223372036854775807) (ax ay : Option Addr) (cx cy : Nat) (w : World) (hx : NumsAt w ax x) (hy : NumsAt w ay y) :
    Calls Tryd.prog 40 #[.slice ax x.length cx, .slice ay y.length cy] w fun e w' => e = .returned (.int .i64 (ordL x y)) ∧ w = w' := by
  have HX := Lib.hid hx
  have HY := Lib.hid hy
  have HC := Lib.hid compare_int64
  clear hx hy
  go_enter Tryd.func40, Tryd.ntmps40
  go_wp2_with fail
  go_loop [11] (fun i => ∃ k : Nat, k ≤ x.length ∧ k ≤ y.length ∧ i = .int .i64 k ∧ preB x y k = true) (fun i => x.length - (intOf i).toNat)
  case atStart => exact ⟨0, by omega, by omega, rfl, preB_zero x y⟩
  case round =>
    obtain ⟨k, hk1, hk2, rfl, hp⟩ := hrel
    have HP := Lib.hid hp
    clear hp
    by_cases h1 : k < x.length
    · by_cases h2 : k < y.length
      · obtain ⟨g1, o1, rfl, q1, hg1⟩ := HX.out k h1
        obtain ⟨g2, o2, rfl, q2, hg2⟩ := HY.out k h2
        have hn := preB_succ x y k h1 h2
        rw [HP.out, Bool.true_and] at hn
        have hat := ordL_at x y k h1 h2 HP.out
        have hji1 : (k : Int) < (x.length : Int) := by omega
        have hji2 : (k : Int) < (y.length : Int) := by omega
        generalize x.getD k 0 = u at *
        generalize y.getD k 0 = u' at *
        have HN := Lib.hid hn
        have HAT := Lib.hid hat
        clear hn hat hg1 hg2
        by_cases he : u = u'
        · have e0 : ordI u u' = 0 := by rw [he]; unfold ordI; rw [if_neg (by omega), if_neg (by omega)]
          have HE := Lib.hid (show (u == u') = true by simpa using he)
          have hc : ∀ w, Calls Tryd.prog 38 #[.int .i64 u, .int .i64 u'] w fun e w' => e = .returned (.int .i64 0) ∧ w = w' := fun w => by
            have := HC.out u u' w
            rwa [e0] at this
          have HC2 := Lib.hid hc
          clear he e0 hc
          go_wp2_with fail
          refine (HC2.out _).mono ?_
          rintro e w' ⟨rfl, rfl⟩
          go_wp2_with fail
          go_round
          case rel => exact ⟨k + 1, by omega, by omega, by go_num, by rw [HN.out, HE.out]⟩
          case measure => simp [intOf]; omega
        · have e0 : (ordI u u' == 0) = false := by
            have := (cmpI.zero u u')
            simp only [beq_eq_false_iff_ne, ne_eq, this]; exact he
          have e1 : (ordI u u' != 0) = true := by simp only [bne, e0]; rfl
          have HRES := Lib.hid (HAT.out he).symm
          have hc : ∀ w, Calls Tryd.prog 38 #[.int .i64 u, .int .i64 u'] w fun e w' => e = .returned (.int .i64 (ordI u u')) ∧ w = w' := HC.out u u'
          generalize ordI u u' = r at *
          have HC2 := Lib.hid hc
          clear he hc
          go_wp2_with fail
          refine (HC2.out _).mono ?_
          rintro e w' ⟨rfl, rfl⟩
          go_wp2_with fail
          go_ret
          exact ⟨ret_i HRES.out, rfl⟩
      · obtain rfl : k = y.length := by omega
        obtain ⟨g1, o1, rfl, q1, hg1⟩ := HX.out y.length h1
        have hend := ordL_end x y _ hk1 hk2 (.inr rfl) HP.out
        have hres : ordI (x.length : Int) (y.length : Int) = 1 := by unfold ordI; rw [if_neg (by omega), if_pos (by omega)]
        rw [hres] at hend
        have HRES := Lib.hid hend.symm
        have hji1 : (y.length : Int) < (x.length : Int) := by omega
        clear hend hres hg1
        go_wp2_with fail
        go_ret
        exact ⟨ret_i HRES.out, rfl⟩
    · obtain rfl : k = x.length := by omega
      have hend := ordL_end x y _ hk1 hk2 (.inl rfl) HP.out
      by_cases h2 : x.length < y.length
      · have hres : ordI (x.length : Int) (y.length : Int) = -1 := by unfold ordI; rw [if_pos (by omega)]
        rw [hres] at hend
        have HRES := Lib.hid hend.symm
        have hji : (x.length : Int) < (y.length : Int) := by omega
        clear hend hres
        go_wp2_with fail
        go_ret
        exact ⟨ret_i HRES.out, rfl⟩
      · have hres : ordI (x.length : Int) (y.length : Int) = 0 := by unfold ordI; rw [if_neg (by omega), if_neg (by omega)]
        rw [hres] at hend
        have HRES := Lib.hid hend.symm
        have hji : ¬ (x.length : Int) < (y.length : Int) := by omega
        clear hend hres
        go_wp2_with fail
        go_ret
        exact ⟨ret_i HRES.out, rfl⟩

/-- cmp.Or of four numbers. -/
def or4 (a b c d : Int) : Int := if a ≠ 0 then a else if b ≠ 0 then b else if c ≠ 0 then c else d
def nth4 (a b c d : Int) (k : Nat) : Int := if k = 0 then a else if k = 1 then b else if k = 2 then c else d
theorem or4_hit (a b c d : Int) (k : Nat) (hk : k < 4) (h0 : ∀ j, j < k → nth4 a b c d j = 0) (h : nth4 a b c d k ≠ 0) : nth4 a b c d k = or4 a b c d := by
  have := h0 0
  have := h0 1
  have := h0 2
  have hk' : k = 0 ∨ k = 1 ∨ k = 2 ∨ k = 3 := by omega
  rcases hk' with rfl | rfl | rfl | rfl <;> simp_all [nth4, or4]
theorem or4_none (a b c d : Int) (h0 : ∀ j, j < 4 → nth4 a b c d j = 0) : or4 a b c d = 0 := by
  have := h0 0
  have := h0 1
  have := h0 2
  have := h0 3
  simp_all [nth4, or4]
set_option maxHeartbeats 800000 in
theorem or_any (a b c d : Int) (g cap : Nat) (w : World) (h : ∀ k, k < 4 → w.cell? ⟨g, k, none⟩ = some (.int .i64 (nth4 a b c d k))) :
    Calls Tryd.prog 36 #[.slice (some ⟨g, 0, none⟩) 4 cap] w fun e w' => e = .returned (.int .i64 (or4 a b c d)) ∧ w = w' := by
  have HH := Lib.hid h
  clear h
  go_enter Tryd.func36, Tryd.ntmps36
  go_wp2_with fail
  go_loop [8] (fun i => ∃ k : Nat, k ≤ 4 ∧ i = .int .i64 k ∧ Hid (∀ j, j < k → nth4 a b c d j = 0)) (fun i => 4 - (intOf i).toNat)
  case atStart => exact ⟨0, by omega, rfl, Lib.hid (fun j hj => absurd hj (by omega))⟩
  case round =>
    obtain ⟨k, hk, rfl, hno⟩ := hrel
    by_cases hlt : k < 4
    · have q := HH.out k hlt
      have hki : (k : Int) < 4 := by omega
      have hhit := or4_hit a b c d k hlt hno.out
      have hstep : nth4 a b c d k = 0 → Hid (∀ j, j < k + 1 → nth4 a b c d j = 0) := fun e => Lib.hid (fun j hj => by
        by_cases ej : j = k
        · subst ej; exact e
        · exact hno.out j (by omega))
      generalize nth4 a b c d k = u at *
      have HHIT := Lib.hid hhit
      have HST := Lib.hid hstep
      clear hhit hstep
      by_cases hu : u = 0
      · subst hu
        have HN := HST.out rfl
        clear hno
        go_wp2_with fail
        go_round
        case rel => exact ⟨k + 1, by omega, by go_num, HN⟩
        case measure => simp [intOf]; omega
      · have e1 : (u == 0) = false := by simpa using hu
        have e2 : (u != 0) = true := by simpa using hu
        have HR := Lib.hid (HHIT.out hu)
        clear hu hno
        go_wp2_with fail
        go_ret
        exact ⟨ret_i HR.out, rfl⟩
    · obtain rfl : k = 4 := by omega
      have HR := Lib.hid (or4_none a b c d hno.out).symm
      clear hno
      go_wp2_with fail
      go_ret
      exact ⟨ret_i HR.out, rfl⟩

set_option maxHeartbeats 1600000 in
/-- slices.Equal of two rows of numbers. -/
theorem equal_list (x y : List Int) (hx1 : x.length ≤ 9223372036854775807) (ax ay : Option Addr) (cx cy : Nat) (w : World) (hx : NumsAt w ax x) (hy : NumsAt w ay y) :
    Calls Tryd.prog 42 #[.slice ax x.length cx, .slice ay y.length cy] w fun e w' => e = .returned (.bool (x == y)) ∧ Below w.heap.size w w' := by
  have HX := Lib.hid hx
  have HY := Lib.hid hy
  clear hx hy
  by_cases hl : x.length = y.length
  · have HL := Lib.hid hl
    rw [← hl]
    have HALL := Lib.hid (preB_all x y hl)
    clear hl
    go_enter Tryd.func42, Tryd.ntmps42
    go_wp2_with fail
    go_loopw [13] (fun i wr => ∃ k : Nat, k ≤ x.length ∧ i = .int .i64 k ∧ Hid (preB x y k = true) ∧ Below w.heap.size w wr) (fun i _ => x.length - (intOf i).toNat)
    case atStart => exact ⟨0, by omega, rfl, Lib.hid (preB_zero x y), Below.refl _ _⟩
    case round =>
      obtain ⟨k, hk, rfl, HP, hb⟩ := hrel
      have HB := Lib.hid hb
      clear hb
      by_cases h1 : k < x.length
      · have h2 : k < y.length := by rw [← HL.out]; exact h1
        obtain ⟨g1, o1, rfl, q1, hg1⟩ := HX.out k h1
        obtain ⟨g2, o2, rfl, q2, hg2⟩ := HY.out k h2
        have r1 := (HB.out.cell (p := ⟨g1, o1 + k, none⟩) hg1).trans q1
        have r2 := (HB.out.cell (p := ⟨g2, o2 + k, none⟩) hg2).trans q2
        have hn := preB_succ x y k h1 h2
        rw [HP.out, Bool.true_and] at hn
        have hf := preB_false x y (k + 1)
        rw [hn] at hf
        have hji1 : (k : Int) < (x.length : Int) := by omega
        generalize x.getD k 0 = u at *
        generalize y.getD k 0 = u' at *
        have HN := Lib.hid hn
        have HF := Lib.hid hf
        have HBD := Lib.hid (show Below w.heap.size w wr.drew from ⟨HB.out.os, HB.out.tape, HB.out.output, HB.out.size, HB.out.block⟩)
        clear hn hf q1 q2 hg1 hg2
        by_cases he : u = u'
        · have e1 : (u == u') = true := by simpa using he
          have e2 : (u != u') = false := by simpa using he
          have HE := Lib.hid e1
          clear he
          go_wp2_with fail
          go_quiet (fail)
          go_wp2_with fail
          go_roundw
          case rel => exact ⟨k + 1, by omega, by go_num, Lib.hid (by rw [HN.out, HE.out]), ⟨HB.out.os, HB.out.tape, HB.out.output, HB.out.size, HB.out.block⟩⟩
          case measure => simp [intOf]; omega
        · have e1 : (u == u') = false := by simpa using he
          have e2 : (u != u') = true := by simpa using he
          have HR := Lib.hid (HF.out e1).symm
          clear he
          go_wp2_with fail
          go_quiet (fail)
          go_wp2_with fail
          go_ret
          exact ⟨ret_b HR.out, ⟨HB.out.os, HB.out.tape, HB.out.output, HB.out.size, HB.out.block⟩⟩
      · obtain rfl : k = x.length := by omega
        have HR := Lib.hid (show true = (x == y) by rw [← HALL.out, HP.out])
        go_wp2_with fail
        go_ret
        exact ⟨ret_b HR.out, HB.out⟩
  · have HR := Lib.hid (show false = (x == y) from (by symm; simp only [beq_eq_false_iff_ne, ne_eq]; exact fun e => hl (by rw [e])))
    have e1 : ((x.length : Int) == (y.length : Int)) = false := by simp; omega
    have e2 : (x.length == y.length) = false := by simpa using hl
    have e3 : ((x.length : Int) != (y.length : Int)) = true := by simp; omega
    clear hl
    go_enter Tryd.func42, Tryd.ntmps42
    go_wp2_with fail
    go_ret
    exact ⟨ret_b HR.out, Below.refl _ _⟩

end Go.Proofs.YtflmpljmgncigaaDoor.Va
