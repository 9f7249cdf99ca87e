/-
  VlCmp, VlSame, VlRight.
-/
import Derived.Test.YtlmmfhbdebfgkaaGreatDoorWTyNodeQ
import Derived.Test.YtlmmfhbdebfgkaaGreatDoorWVlNameQ
import Derived.Deep.QuietTactic
import Derived.BigQuiet
set_option linter.unusedVariables false
set_option linter.unusedSimpArgs false
set_option maxRecDepth 100000
set_option maxHeartbeats 3200000
namespace Go.Proofs.YtlmmfhbdebfgkaaGreatDoor.Va
open Go.RowKit
theorem isNaN_int64 (a : Int) (w : World) : Calls Tryz.prog 217 #[.int .i64 a] w fun e w' => e = .returned (.bool false) ∧ w = w' := by
  go_enter Tryz.func217, Tryz.ntmps217
  go_wp2_with fail
  go_ret
  exact ⟨rfl, rfl⟩
theorem compare_int64 (a b : Int) (w : World) :
    Calls Tryz.prog 181 #[.int .i64 a, .int .i64 b] w fun e w' => e = .returned (.int .i64 (ordI a b)) ∧ w = w' := by
  have hn := isNaN_int64
  have HN := Lib.hid hn
  clear hn
  by_cases h1 : a < b
  · have e : ordI a b = -1 := if_pos h1
    rw [e]
    clear e
    go_enter Tryz.func181, Tryz.ntmps181
    go_wp2_with fail
    refine (HN.out _ _).mono ?_
    rintro e w' ⟨rfl, rfl⟩
    go_wp2_with fail
    refine (HN.out _ _).mono ?_
    rintro e w' ⟨rfl, rfl⟩
    go_wp2_with fail
    go_ret
    exact ⟨rfl, rfl⟩
  · by_cases h2 : b < a
    · have e : ordI a b = 1 := by unfold ordI; rw [if_neg h1, if_pos h2]
      rw [e]
      clear e
      go_enter Tryz.func181, Tryz.ntmps181
      go_wp2_with fail
      refine (HN.out _ _).mono ?_
      rintro e w' ⟨rfl, rfl⟩
      go_wp2_with fail
      refine (HN.out _ _).mono ?_
      rintro e w' ⟨rfl, rfl⟩
      go_wp2_with fail
      go_ret
      exact ⟨rfl, rfl⟩
    · have e : ordI a b = 0 := by unfold ordI; rw [if_neg h1, if_neg h2]
      rw [e]
      clear e
      go_enter Tryz.func181, Tryz.ntmps181
      go_wp2_with fail
      refine (HN.out _ _).mono ?_
      rintro e w' ⟨rfl, rfl⟩
      go_wp2_with fail
      refine (HN.out _ _).mono ?_
      rintro e w' ⟨rfl, rfl⟩
      go_wp2_with fail
      go_ret
      exact ⟨rfl, rfl⟩
theorem compare_list (x y : List Int) (hx1 : x.length ≤ 9223372036854775807) (hy1 : y.length ≤ 9223372036854775807) (ax ay : Option Addr) (cx cy : Nat) (w : World) (hx : NumsAt w ax x) (hy : NumsAt w ay y) :
    Calls Tryz.prog 183 #[.slice ax x.length cx, .slice ay y.length cy] w fun e w' => e = .returned (.int .i64 (ordL x y)) ∧ w = w' := by
  have HX := Lib.hid hx
  have HY := Lib.hid hy
  have HC := Lib.hid compare_int64
  clear hx hy
  go_enter Tryz.func183, Tryz.ntmps183
  go_wp2_with fail
  go_loop [11] (fun i => ∃ k : Nat, k ≤ x.length ∧ k ≤ y.length ∧ i = .int .i64 k ∧ preB x y k = true) (fun i => x.length - (intOf i).toNat)
  case atStart => exact ⟨0, by omega, by omega, rfl, preB_zero x y⟩
  case round =>
    obtain ⟨k, hk1, hk2, rfl, hp⟩ := hrel
    have HP := Lib.hid hp
    clear hp
    by_cases h1 : k < x.length
    · by_cases h2 : k < y.length
      · obtain ⟨g1, o1, rfl, q1, hg1⟩ := HX.out k h1
        obtain ⟨g2, o2, rfl, q2, hg2⟩ := HY.out k h2
        have hn := preB_succ x y k h1 h2
        rw [HP.out, Bool.true_and] at hn
        have hat := ordL_at x y k h1 h2 HP.out
        have hji1 : (k : Int) < (x.length : Int) := by omega
        have hji2 : (k : Int) < (y.length : Int) := by omega
        generalize x.getD k 0 = u at *
        generalize y.getD k 0 = u' at *
        have HN := Lib.hid hn
        have HAT := Lib.hid hat
        clear hn hat hg1 hg2
        by_cases he : u = u'
        · have e0 : ordI u u' = 0 := by rw [he]; unfold ordI; rw [if_neg (by omega), if_neg (by omega)]
          have HE := Lib.hid (show (u == u') = true by simpa using he)
          have hc : ∀ w, Calls Tryz.prog 181 #[.int .i64 u, .int .i64 u'] w fun e w' => e = .returned (.int .i64 0) ∧ w = w' := fun w => by
            have := HC.out u u' w
            rwa [e0] at this
          have HC2 := Lib.hid hc
          clear he e0 hc
          go_wp2_with fail
          refine (HC2.out _).mono ?_
          rintro e w' ⟨rfl, rfl⟩
          go_wp2_with fail
          go_round
          case rel => exact ⟨k + 1, by omega, by omega, by go_num, by rw [HN.out, HE.out]⟩
          case measure => simp [intOf]; omega
        · have e0 : (ordI u u' == 0) = false := by
            have := (cmpI.zero u u')
            simp only [beq_eq_false_iff_ne, ne_eq, this]; exact he
          have e1 : (ordI u u' != 0) = true := by simp only [bne, e0]; rfl
          have HRES := Lib.hid (HAT.out he).symm
          have hc : ∀ w, Calls Tryz.prog 181 #[.int .i64 u, .int .i64 u'] w fun e w' => e = .returned (.int .i64 (ordI u u')) ∧ w = w' := HC.out u u'
          generalize ordI u u' = r at *
          have HC2 := Lib.hid hc
          clear he hc
          go_wp2_with fail
          refine (HC2.out _).mono ?_
          rintro e w' ⟨rfl, rfl⟩
          go_wp2_with fail
          go_ret
          exact ⟨ret_i HRES.out, rfl⟩
      · obtain rfl : k = y.length := by omega
        obtain ⟨g1, o1, rfl, q1, hg1⟩ := HX.out y.length h1
        have hend := ordL_end x y _ hk1 hk2 (.inr rfl) HP.out
        have hres : ordI (x.length : Int) (y.length : Int) = 1 := by unfold ordI; rw [if_neg (by omega), if_pos (by omega)]
        rw [hres] at hend
        have HRES := Lib.hid hend.symm
        have hji1 : (y.length : Int) < (x.length : Int) := by omega
        clear hend hres hg1
        go_wp2_with fail
        go_ret
        exact ⟨ret_i HRES.out, rfl⟩
    · obtain rfl : k = x.length := by omega
      have hend := ordL_end x y _ hk1 hk2 (.inl rfl) HP.out
      by_cases h2 : x.length < y.length
      · have hres : ordI (x.length : Int) (y.length : Int) = -1 := by unfold ordI; rw [if_pos (by omega)]
        rw [hres] at hend
        have HRES := Lib.hid hend.symm
        have hji : (x.length : Int) < (y.length : Int) := by omega
        clear hend hres
        go_wp2_with fail
        go_ret
        exact ⟨ret_i HRES.out, rfl⟩
      · have hres : ordI (x.length : Int) (y.length : Int) = 0 := by unfold ordI; rw [if_neg (by omega), if_neg (by omega)]
        rw [hres] at hend
        have HRES := Lib.hid hend.symm
        have hji : ¬ (x.length : Int) < (y.length : Int) := by omega
        clear hend hres
        go_wp2_with fail
        go_ret
        exact ⟨ret_i HRES.out, rfl⟩
theorem equal_list (x y : List Int) (hx1 : x.length ≤ 9223372036854775807) (ax ay : Option Addr) (cx cy : Nat) (w : World) (hx : NumsAt w ax x) (hy : NumsAt w ay y) :
    Calls Tryz.prog 178 #[.slice ax x.length cx, .slice ay y.length cy] w fun e w' => e = .returned (.bool (x == y)) ∧ Below w.heap.size w w' := by
  have HX := Lib.hid hx
  have HY := Lib.hid hy
  clear hx hy
  by_cases hl : x.length = y.length
  · have HL := Lib.hid hl
    rw [← hl]
    have HALL := Lib.hid (preB_all x y hl)
    clear hl
    go_enter Tryz.func178, Tryz.ntmps178
    go_wp2_with fail
    go_loopw [13] (fun i wr => ∃ k : Nat, k ≤ x.length ∧ i = .int .i64 k ∧ Hid (preB x y k = true) ∧ Below w.heap.size w wr) (fun i _ => x.length - (intOf i).toNat)
    case atStart => exact ⟨0, by omega, rfl, Lib.hid (preB_zero x y), Below.refl _ _⟩
    case round =>
      obtain ⟨k, hk, rfl, HP, hb⟩ := hrel
      have HB := Lib.hid hb
      clear hb
      by_cases h1 : k < x.length
      · have h2 : k < y.length := by rw [← HL.out]; exact h1
        obtain ⟨g1, o1, rfl, q1, hg1⟩ := HX.out k h1
        obtain ⟨g2, o2, rfl, q2, hg2⟩ := HY.out k h2
        have r1 := (HB.out.cell (p := ⟨g1, o1 + k, none⟩) hg1).trans q1
        have r2 := (HB.out.cell (p := ⟨g2, o2 + k, none⟩) hg2).trans q2
        have hn := preB_succ x y k h1 h2
        rw [HP.out, Bool.true_and] at hn
        have hf := preB_false x y (k + 1)
        rw [hn] at hf
        have hji1 : (k : Int) < (x.length : Int) := by omega
        generalize x.getD k 0 = u at *
        generalize y.getD k 0 = u' at *
        have HN := Lib.hid hn
        have HF := Lib.hid hf
        have HBD := Lib.hid (show Below w.heap.size w wr.drew from ⟨HB.out.os, HB.out.tape, HB.out.output, HB.out.size, HB.out.block⟩)
        clear hn hf q1 q2 hg1 hg2
        by_cases he : u = u'
        · have e1 : (u == u') = true := by simpa using he
          have e2 : (u != u') = false := by simpa using he
          have HE := Lib.hid e1
          clear he
          go_wp2_with fail
          go_quiet (fail)
          go_wp2_with fail
          go_roundw
          case rel => exact ⟨k + 1, by omega, by go_num, Lib.hid (by rw [HN.out, HE.out]), ⟨HB.out.os, HB.out.tape, HB.out.output, HB.out.size, HB.out.block⟩⟩
          case measure => simp [intOf]; omega
        · have e1 : (u == u') = false := by simpa using he
          have e2 : (u != u') = true := by simpa using he
          have HR := Lib.hid (HF.out e1).symm
          clear he
          go_wp2_with fail
          go_quiet (fail)
          go_wp2_with fail
          go_ret
          exact ⟨ret_b HR.out, ⟨HB.out.os, HB.out.tape, HB.out.output, HB.out.size, HB.out.block⟩⟩
      · obtain rfl : k = x.length := by omega
        have HR := Lib.hid (show true = (x == y) by rw [← HALL.out, HP.out])
        go_wp2_with fail
        go_ret
        exact ⟨ret_b HR.out, HB.out⟩
  · have HR := Lib.hid (show false = (x == y) from (by symm; simp only [beq_eq_false_iff_ne, ne_eq]; exact fun e => hl (by rw [e])))
    have e1 : ((x.length : Int) == (y.length : Int)) = false := by simp; omega
    have e2 : (x.length == y.length) = false := by simpa using hl
    have e3 : ((x.length : Int) != (y.length : Int)) = true := by simp; omega
    clear hl
    go_enter Tryz.func178, Tryz.ntmps178
    go_wp2_with fail
    go_ret
    exact ⟨ret_b HR.out, Below.refl _ _⟩
end Go.Proofs.YtlmmfhbdebfgkaaGreatDoor.Va
namespace Go.Proofs.YtlmmfhbdebfgkaaGreatDoor.Va
open Go.RowKit
theorem Same_any (x y : V) (okx : VOk x) (oky : VOk y) (ax ay : Option Addr) (cx cy : Nat) (w : World) (hx : NumsAt w ax x.list) (hy : NumsAt w ay y.list) :
    Calls Tryz.prog 144 #[valC x ax cx, valC y ay cy] w fun e w' => e = .returned (.bool (sameV x y)) ∧ Below w.heap.size w w' := by
  obtain ⟨k, n, t, l⟩ := x
  obtain ⟨k', n', t', l'⟩ := y
  have hB0 := ((Below.refl w.heap.size w).alloc (Nat.le_refl _) (boxO k n t l.length ax cx)).alloc (by simp) (boxO k' n' t' l'.length ay cy)
  have HB0 := Lib.hid hB0
  have hl1 := okx.list
  simp only at hl1 hx hy
  have hcall := equal_list l l' hl1 ax ay cx cy _ (hx.below hB0) (hy.below hB0)
  have HC := Lib.hid hcall
  clear okx oky hx hy hB0 hcall hl1
  unfold valC
  simp only
  by_cases hk : k = k'
  · subst hk
    by_cases hn : n = n'
    · subst hn
      by_cases ht : t = t'
      · subst ht
        have e1 : ((S t).toList == (S t).toList) = true := by simp
        have HF := Lib.hid (show (l == l') = sameV ⟨k, n, t, l⟩ ⟨k, n, t, l'⟩ by simp [sameV])
        go_enter Tryz.func144, Tryz.ntmps144
        go_wp2_with fail
        refine HC.out.mono ?_
        rintro e w1 ⟨rfl, b1⟩
        have HB1 := Lib.hid (HB0.out.trans (b1.mono HB0.out.size))
        clear b1
        go_wp2_with fail
        go_ret
        exact ⟨ret_b HF.out, HB1.out⟩
      · have e1 : ((S t).toList == (S t').toList) = false := by rw [S_beq]; simpa using ht
        have HF := Lib.hid (show false = sameV ⟨k, n, t, l⟩ ⟨k, n, t', l'⟩ by simp [sameV, ht])
        clear ht
        go_enter Tryz.func144, Tryz.ntmps144
        go_wp2_with fail
        go_ret
        exact ⟨ret_b HF.out, HB0.out⟩
    · have e1 : (n == n') = false := by simpa using hn
      have HF := Lib.hid (show false = sameV ⟨k, n, t, l⟩ ⟨k, n', t', l'⟩ by simp [sameV, hn])
      clear hn
      go_enter Tryz.func144, Tryz.ntmps144
      go_wp2_with fail
      go_ret
      exact ⟨ret_b HF.out, HB0.out⟩
  · have e1 : (k == k') = false := by simpa using hk
    have HF := Lib.hid (show false = sameV ⟨k, n, t, l⟩ ⟨k', n', t', l'⟩ by simp [sameV, hk])
    clear hk
    go_enter Tryz.func144, Tryz.ntmps144
    go_wp2_with fail
    go_ret
    exact ⟨ret_b HF.out, HB0.out⟩
end Go.Proofs.YtlmmfhbdebfgkaaGreatDoor.Va
namespace Go.Proofs.YtlmmfhbdebfgkaaGreatDoor.Va
open Go.RowKit
theorem NumsAt_nil (w : World) (a : Option Addr) : NumsAt w a [] := fun i hi => absurd hi (by simp)
def bareB (n : Int) (t : List UInt8) (l : List Int) : Bool := n == 0 && t == [] && l == []
theorem sameV_bare (k n : Int) (t : List UInt8) (l : List Int) : sameV ⟨k, n, t, l⟩ ⟨k, 0, [], []⟩ = bareB n t l := by
  simp [sameV, bareB]
theorem Right_any (v : V) (ok : VOk v) (a : Option Addr) (cap : Nat) (w : World) (hx : NumsAt w a v.list) :
    Calls Tryz.prog 127 #[valC v a cap] w fun e w' => e = .returned (.bool (rightB v)) ∧ Below w.heap.size w w' := by
  obtain ⟨k, n, t, l⟩ := v
  have ht1 := ok.text
  have hl1 := ok.list
  simp only at ht1 hl1 hx
  have hx0 : (S []).size = 0 := rfl
  have hts : (S t).size = t.length := S_size t
  have hS := fun (n' : Int) (t' : List UInt8) (l' : List Int) (h1 : t'.length ≤ 9223372036854775807) (h2 : l'.length ≤ 9223372036854775807) (a' : Option Addr) (c' : Nat) (w' : World) (hn : NumsAt w' a' l') => Same_any ⟨k, n', t', l'⟩ ⟨k, 0, [], []⟩ ⟨h1, h2⟩ ⟨by simp, by simp⟩ a' none c' 0 w' hn (NumsAt_nil _ _)
  simp only [sameV_bare] at hS
  unfold valC at hS
  simp only at hS
  have HS := Lib.hid hS
  have HNM := Lib.hid (Name_any (S t) (by omega))
  have HX := Lib.hid hx
  have hti : (t.length : Int) ≤ 9223372036854775807 := by omega
  unfold valC
  simp only
  clear ok hS hx
  by_cases h1 : k = 1
  · subst h1
    have HR := Lib.hid (show bareB 0 t l = rightB ⟨1, n, t, l⟩ by cases t <;> cases l <;> rfl)
    go_enter Tryz.func127, Tryz.ntmps127
    go_wp2_with fail
    go_region
    go_wp2_with fail
    refine (HS.out 0 t l ht1 hl1 a cap _ ((HX.out).below ((((Below.refl _ _).alloc (Nat.le_refl _) _).alloc (by simp) _).drew))).mono ?_
    rintro e w1 ⟨rfl, b1⟩
    have HB1 := Lib.hid (((((Below.refl w.heap.size w).alloc (Nat.le_refl _) _).alloc (by simp) _).drew).trans (b1.mono (by simp; omega)))
    clear b1
    go_wp2_with fail
    go_ret
    exact ⟨ret_b HR.out, HB1.out⟩
  · by_cases h0 : k = 0
    · subst h0
      have HR := Lib.hid (show bareB n t l = rightB ⟨0, n, t, l⟩ by cases t <;> cases l <;> simp [rightB, bareB])
      go_enter Tryz.func127, Tryz.ntmps127
      go_wp2_with fail
      go_region
      go_wp2_with fail
      refine (HS.out n t l ht1 hl1 a cap _ ((HX.out).below ((((Below.refl _ _).alloc (Nat.le_refl _) _).alloc (by simp) _).drew))).mono ?_
      rintro e w1 ⟨rfl, b1⟩
      have HB1 := Lib.hid (((((Below.refl w.heap.size w).alloc (Nat.le_refl _) _).alloc (by simp) _).drew).trans (b1.mono (by simp; omega)))
      clear b1
      go_wp2_with fail
      go_ret
      exact ⟨ret_b HR.out, HB1.out⟩
    · by_cases h2 : k = 2
      · subst h2
        by_cases n0 : n = 0
        · subst n0
          have HR := Lib.hid (show bareB 0 t l = rightB ⟨2, 0, t, l⟩ by cases t <;> cases l <;> rfl)
          go_enter Tryz.func127, Tryz.ntmps127
          go_wp2_with fail
          go_region
          go_wp2_with fail
          refine (HS.out 0 t l ht1 hl1 a cap _ ((HX.out).below ((((Below.refl _ _).alloc (Nat.le_refl _) _).alloc (by simp) _).drew))).mono ?_
          rintro e w1 ⟨rfl, b1⟩
          have HB1 := Lib.hid (((((Below.refl w.heap.size w).alloc (Nat.le_refl _) _).alloc (by simp) _).drew).trans (b1.mono (by simp; omega)))
          clear b1
          go_wp2_with fail
          go_ret
          exact ⟨ret_b HR.out, HB1.out⟩
        · have e0 : (n == 0) = false := by simpa using n0
          by_cases n1 : n = 1
          · subst n1
            have HR := Lib.hid (show bareB 0 t l = rightB ⟨2, 1, t, l⟩ by cases t <;> cases l <;> rfl)
            go_enter Tryz.func127, Tryz.ntmps127
            go_wp2_with fail
            go_region
            go_wp2_with fail
            refine (HS.out 0 t l ht1 hl1 a cap _ ((HX.out).below ((((Below.refl _ _).alloc (Nat.le_refl _) _).alloc (by simp) _).drew))).mono ?_
            rintro e w1 ⟨rfl, b1⟩
            have HB1 := Lib.hid (((((Below.refl w.heap.size w).alloc (Nat.le_refl _) _).alloc (by simp) _).drew).trans (b1.mono (by simp; omega)))
            clear b1
            go_wp2_with fail
            go_ret
            exact ⟨ret_b HR.out, HB1.out⟩
          · have e1 : (n == 1) = false := by simpa using n1
            have HR := Lib.hid (show false = rightB ⟨2, n, t, l⟩ by simp [rightB, e0, e1])
            clear n0 n1
            go_enter Tryz.func127, Tryz.ntmps127
            go_wp2_with fail
            go_region
            go_wp2_with fail
            go_ret
            exact ⟨ret_b HR.out, (((Below.refl w.heap.size w).alloc (Nat.le_refl _) _).alloc (by simp) _).drew⟩
      · by_cases h3 : k = 3
        · subst h3
          by_cases hlen : t.length ≤ 64
          · have hli : (t.length : Int) ≤ 64 := by omega
            have HR := Lib.hid (show bareB n [] l = rightB ⟨3, n, t, l⟩ by cases l <;> simp [rightB, bareB, hlen])
            go_enter Tryz.func127, Tryz.ntmps127
            go_wp2_with fail
            go_region
            go_wp2_with fail
            refine (HS.out n [] l (by simp) hl1 a cap _ ((HX.out).below ((((Below.refl _ _).alloc (Nat.le_refl _) _).alloc (by simp) _).drew))).mono ?_
            rintro e w1 ⟨rfl, b1⟩
            have HB1 := Lib.hid (((((Below.refl w.heap.size w).alloc (Nat.le_refl _) _).alloc (by simp) _).drew).trans (b1.mono (by simp; omega)))
            clear b1
            go_wp2_with fail
            go_ret
            exact ⟨ret_b HR.out, HB1.out⟩
          · have hli : ¬ (t.length : Int) ≤ 64 := by omega
            have HR := Lib.hid (show false = rightB ⟨3, n, t, l⟩ by simp [rightB, hlen])
            go_enter Tryz.func127, Tryz.ntmps127
            go_wp2_with fail
            go_region
            go_wp2_with fail
            go_ret
            exact ⟨ret_b HR.out, (((Below.refl w.heap.size w).alloc (Nat.le_refl _) _).alloc (by simp) _).drew⟩
        · by_cases h4 : k = 4
          · subst h4
            have hts2 : (S t).data.toList = t := S_toList t
            rw [hts2] at HNM
            cases hnm : nameB t with
            | true =>
              rw [hnm] at HNM
              have HR := Lib.hid (show bareB n [] l = rightB ⟨4, n, t, l⟩ by cases l <;> simp [rightB, bareB, hnm])
              clear hnm hts2
              go_enter Tryz.func127, Tryz.ntmps127
              go_wp2_with fail
              go_region
              go_wp2_with fail
              refine (HNM.out _).mono ?_
              rintro e w1 ⟨rfl, b1⟩
              have hw0 : (((w.alloc (boxO 4 n t l.length a cap)).alloc (boxO 4 n t l.length a cap)).drew).heap[w.heap.size]? = some (boxO 4 n t l.length a cap) := by
                show ((w.alloc _).alloc _).heap[w.heap.size]? = _
                rw [Below.heap_alloc _ _ _ (by simp)]; exact heap_alloc_new w _
              have hw1 : (((w.alloc (boxO 4 n t l.length a cap)).alloc (boxO 4 n t l.length a cap)).drew).heap[w.heap.size + 1]? = some (boxO 4 n t l.length a cap) := by
                have := heap_alloc_new (w.alloc (boxO 4 n t l.length a cap)) (boxO 4 n t l.length a cap)
                rwa [show (w.alloc (boxO 4 n t l.length a cap)).heap.size = w.heap.size + 1 by simp] at this
              have g0 := (b1.block w.heap.size (lt_of_heapV hw0)).trans hw0
              have g1 := (b1.block (w.heap.size + 1) (lt_of_heapV hw1)).trans hw1
              have HB1 := Lib.hid (((((Below.refl w.heap.size w).alloc (Nat.le_refl _) (boxO 4 n t l.length a cap)).alloc (by simp) (boxO 4 n t l.length a cap)).drew).trans (b1.mono (by simp; omega)))
              have p0 : w1.cell? ⟨w.heap.size, 0, none⟩ = some (.int .i64 4) := (cell_of_row w1 _ 0 _ _ (0, 0) g0).trans rfl
              have q0 : w1.cell? ⟨w.heap.size + 1, 0, none⟩ = some (.int .i64 4) := (cell_of_row w1 _ 0 _ _ (0, 0) g1).trans rfl
              have q1 : w1.cell? ⟨w.heap.size + 1, 1, none⟩ = some (.int .i64 n) := (cell_of_row w1 _ 1 _ _ (0, 0) g1).trans rfl
              have q2 : w1.cell? ⟨w.heap.size + 1, 2, none⟩ = some (.string (S t)) := (cell_of_row w1 _ 2 _ _ (0, 0) g1).trans rfl
              have q3 : w1.cell? ⟨w.heap.size + 1, 3, none⟩ = some (.slice a l.length cap) := (cell_of_row w1 _ 3 _ _ (0, 0) g1).trans rfl
              have f2 : w1.frozen? ⟨w.heap.size + 1, 2, none⟩ = false := by unfold World.frozen?; simp only [g1]; rfl
              clear b1 hw0 hw1 g0 g1
              go_wp2_with fail
              refine (HS.out n [] l (by simp) hl1 a cap _ ((HX.out).below (HB1.out.setCell (by simp) _))).mono ?_
              rintro e w2 ⟨rfl, b2⟩
              have HB2 := Lib.hid ((HB1.out.setCell (p := ⟨w.heap.size + 1, 2, none⟩) (by simp) (.string (S []))).trans (b2.mono (by simp; exact HB1.out.size)))
              clear b2
              go_wp2_with fail
              go_ret
              exact ⟨ret_b HR.out, HB2.out⟩
            | false =>
              rw [hnm] at HNM
              have HR := Lib.hid (show false = rightB ⟨4, n, t, l⟩ by simp [rightB, hnm])
              clear hnm hts2
              go_enter Tryz.func127, Tryz.ntmps127
              go_wp2_with fail
              go_region
              go_wp2_with fail
              refine (HNM.out _).mono ?_
              rintro e w1 ⟨rfl, b1⟩
              have hw0 : (((w.alloc (boxO 4 n t l.length a cap)).alloc (boxO 4 n t l.length a cap)).drew).heap[w.heap.size]? = some (boxO 4 n t l.length a cap) := by
                show ((w.alloc _).alloc _).heap[w.heap.size]? = _
                rw [Below.heap_alloc _ _ _ (by simp)]; exact heap_alloc_new w _
              have hw1 : (((w.alloc (boxO 4 n t l.length a cap)).alloc (boxO 4 n t l.length a cap)).drew).heap[w.heap.size + 1]? = some (boxO 4 n t l.length a cap) := by
                have := heap_alloc_new (w.alloc (boxO 4 n t l.length a cap)) (boxO 4 n t l.length a cap)
                rwa [show (w.alloc (boxO 4 n t l.length a cap)).heap.size = w.heap.size + 1 by simp] at this
              have g0 := (b1.block w.heap.size (lt_of_heapV hw0)).trans hw0
              have g1 := (b1.block (w.heap.size + 1) (lt_of_heapV hw1)).trans hw1
              have HB1 := Lib.hid (((((Below.refl w.heap.size w).alloc (Nat.le_refl _) (boxO 4 n t l.length a cap)).alloc (by simp) (boxO 4 n t l.length a cap)).drew).trans (b1.mono (by simp; omega)))
              have p0 : w1.cell? ⟨w.heap.size, 0, none⟩ = some (.int .i64 4) := (cell_of_row w1 _ 0 _ _ (0, 0) g0).trans rfl
              have q0 : w1.cell? ⟨w.heap.size + 1, 0, none⟩ = some (.int .i64 4) := (cell_of_row w1 _ 0 _ _ (0, 0) g1).trans rfl
              have q1 : w1.cell? ⟨w.heap.size + 1, 1, none⟩ = some (.int .i64 n) := (cell_of_row w1 _ 1 _ _ (0, 0) g1).trans rfl
              have q2 : w1.cell? ⟨w.heap.size + 1, 2, none⟩ = some (.string (S t)) := (cell_of_row w1 _ 2 _ _ (0, 0) g1).trans rfl
              have q3 : w1.cell? ⟨w.heap.size + 1, 3, none⟩ = some (.slice a l.length cap) := (cell_of_row w1 _ 3 _ _ (0, 0) g1).trans rfl
              have f2 : w1.frozen? ⟨w.heap.size + 1, 2, none⟩ = false := by unfold World.frozen?; simp only [g1]; rfl
              clear b1 hw0 hw1 g0 g1
              go_wp2_with fail
              go_ret
              exact ⟨ret_b HR.out, HB1.out.setCell (by simp) _⟩
          · by_cases h5 : k = 5
            · subst h5
              by_cases hlen : l.length ≤ 16
              · have hli : (l.length : Int) ≤ 16 := by omega
                have HR := Lib.hid (show bareB n t [] = rightB ⟨5, n, t, l⟩ by cases t <;> simp [rightB, bareB, hlen])
                go_enter Tryz.func127, Tryz.ntmps127
                go_wp2_with fail
                go_region
                go_wp2_with fail
                refine (HS.out n t [] ht1 (by simp) none 0 _ (NumsAt_nil _ _)).mono ?_
                rintro e w1 ⟨rfl, b1⟩
                have HB1 := Lib.hid (((((Below.refl w.heap.size w).alloc (Nat.le_refl _) _).alloc (by simp) _).drew).trans (b1.mono (by simp; omega)))
                clear b1
                go_wp2_with fail
                go_ret
                exact ⟨ret_b HR.out, HB1.out⟩
              · have hli : ¬ (l.length : Int) ≤ 16 := by omega
                have HR := Lib.hid (show false = rightB ⟨5, n, t, l⟩ by simp [rightB, hlen])
                go_enter Tryz.func127, Tryz.ntmps127
                go_wp2_with fail
                go_region
                go_wp2_with fail
                go_ret
                exact ⟨ret_b HR.out, (((Below.refl w.heap.size w).alloc (Nat.le_refl _) _).alloc (by simp) _).drew⟩
            · have e0 : (k == 0) = false := by simpa using h0
              have e1 : (k == 1) = false := by simpa using h1
              have e2 : (k == 2) = false := by simpa using h2
              have e3 : (k == 3) = false := by simpa using h3
              have e4 : (k == 4) = false := by simpa using h4
              have e5 : (k == 5) = false := by simpa using h5
              have HR := Lib.hid (show false = rightB ⟨k, n, t, l⟩ by
                unfold rightB
                have : decide (0 ≤ k ∧ k ≤ 5) = false := by simp; omega
                simp only [this, Bool.false_and])
              clear h0 h1 h2 h3 h4 h5
              go_enter Tryz.func127, Tryz.ntmps127
              go_wp2_with fail
              go_region
              go_wp2_with fail
              go_ret
              exact ⟨ret_b HR.out, (((Below.refl w.heap.size w).alloc (Nat.le_refl _) _).alloc (by simp) _).drew⟩
end Go.Proofs.YtlmmfhbdebfgkaaGreatDoor.Va
