/-
  VaOrd, VaDec, VaPrint.
-/
import Derived.Test.YtlmmfhbdebfgkaaGreatDoorVExResQ
import Derived.Deep.AppendLies
set_option linter.unusedVariables false
set_option linter.unusedSimpArgs false
set_option maxRecDepth 100000
set_option maxHeartbeats 3200000
namespace Go.Proofs.YtlmmfhbdebfgkaaGreatDoor.Va
open Go.RowKit
theorem ret_i {a b : Int} (h : a = b) : Ending.returned (.int .i64 a) = .returned (.int .i64 b) := by rw [h]
def OrdR (w W0 : World) (x y : List Int) (j : Nat) (wr : World) : Prop := j ≤ x.length ∧ j ≤ y.length ∧ preB x y j = true ∧ Below W0.heap.size W0 wr ∧ Below w.heap.size w wr
theorem refOrder_any (x y : V) (okx : VOk x) (oky : VOk y) (ax ay : Option Addr) (cx cy : Nat) (w : World) (hx : NumsAt w ax x.list) (hy : NumsAt w ay y.list) :
    Calls Tryz.prog 106 #[valC x ax cx, valC y ay cy] w fun e w' => e = .returned (.int .i64 (ordV x y)) ∧ Below w.heap.size w w' := by
  have hve := ordV_eq x y
  obtain ⟨k, n, t, l⟩ := x
  obtain ⟨k', n', t', l'⟩ := y
  simp only at hve
  have HB0 := Lib.hid (((Below.refl w.heap.size w).alloc (Nat.le_refl _) (boxO k n t l.length ax cx)).alloc (by simp) (boxO k' n' t' l'.length ay cy))
  have hl1 := okx.list
  have hl2 := oky.list
  simp only at hl1 hl2 hx hy
  have HX := Lib.hid hx
  have HY := Lib.hid hy
  clear okx oky hx hy
  unfold valC
  simp only
  by_cases hk : k = k'
  · subst hk
    rw [if_pos rfl] at hve
    by_cases hn : n = n'
    · subst hn
      rw [if_pos rfl] at hve
      by_cases ht : t = t'
      · subst ht
        rw [if_pos rfl] at hve
        have HV := Lib.hid hve
        have HX0 := Lib.hid (show ((w.alloc (boxO k n t l.length ax cx)).alloc (boxO k n t l'.length ay cy)).heap[w.heap.size]? = some (boxO k n t l.length ax cx) by
          rw [Below.heap_alloc _ _ _ (by simp)]; exact heap_alloc_new w _)
        have hb1 := heap_alloc_new (w.alloc (boxO k n t l.length ax cx)) (boxO k n t l'.length ay cy)
        rw [show (w.alloc (boxO k n t l.length ax cx)).heap.size = w.heap.size + 1 by simp] at hb1
        have HX1 := Lib.hid hb1
        clear hve hb1
        go_enter Tryz.func106, Tryz.ntmps106
        go_wp2_with fail
        go_loopw [5] (fun i wr => ∃ j : Nat, i = .int .i64 j ∧ OrdR w ((w.alloc (boxO k n t l.length ax cx)).alloc (boxO k n t l'.length ay cy)) l l' j wr) (fun i _ => l.length - (intOf i).toNat)
        case atStart => exact ⟨0, rfl, by omega, by omega, preB_zero l l', Below.refl _ _, HB0.out⟩
        case round =>
          obtain ⟨j, rfl, hj1, hj2, hp, hb0, hbw⟩ := hrel
          have HP := Lib.hid hp
          have HBB := Lib.hid hb0
          have HBW := Lib.hid hbw
          have hx0 := (hb0.block w.heap.size (lt_of_heapV HX0.out)).trans HX0.out
          have hx1 := (hb0.block (w.heap.size + 1) (lt_of_heapV HX1.out)).trans HX1.out
          have p0 : wr.cell? ⟨w.heap.size, 3, none⟩ = some (.slice ax l.length cx) := (cell_of_row wr _ 3 _ _ (0, 0) hx0).trans rfl
          have p1 : wr.cell? ⟨w.heap.size + 1, 3, none⟩ = some (.slice ay l'.length cy) := (cell_of_row wr _ 3 _ _ (0, 0) hx1).trans rfl
          clear hp hb0 hbw hx0 hx1
          by_cases h1 : j < l.length
          · by_cases h2 : j < l'.length
            · obtain ⟨g1, o1, rfl, q1, hg1⟩ := HX.out j h1
              obtain ⟨g2, o2, rfl, q2, hg2⟩ := HY.out j h2
              have r1 := (HBW.out.cell (p := ⟨g1, o1 + j, none⟩) hg1).trans q1
              have r2 := (HBW.out.cell (p := ⟨g2, o2 + j, none⟩) hg2).trans q2
              have hn := preB_succ l l' j h1 h2
              rw [HP.out, Bool.true_and] at hn
              have hat := ordL_at l l' j h1 h2 HP.out
              have hji1 : (j : Int) < (l.length : Int) := by omega
              have hji2 : (j : Int) < (l'.length : Int) := by omega
              generalize l.getD j 0 = u at *
              generalize l'.getD j 0 = u' at *
              have HBD := Lib.hid (show Below w.heap.size w wr.drew from ⟨HBW.out.os, HBW.out.tape, HBW.out.output, HBW.out.size, HBW.out.block⟩)
              have HBD2 := Lib.hid (show Below w.heap.size w wr.drew.drew from ⟨HBW.out.os, HBW.out.tape, HBW.out.output, HBW.out.size, HBW.out.block⟩)
              have HN := Lib.hid hn
              have HAT := Lib.hid hat
              clear hn hat q1 q2
              by_cases he : u = u'
              · have e1 : (u == u') = true := by simpa using he
                have e2 : (u != u') = false := by simpa using he
                have HE := Lib.hid e1
                clear he
                go_wp2_with fail
                go_region_held3 (fun w' => w'.cell? ⟨w.heap.size, 3, none⟩ = some (.slice (some ⟨g1, o1, none⟩) l.length cx) ∧ w'.cell? ⟨w.heap.size + 1, 3, none⟩ = some (.slice (some ⟨g2, o2, none⟩) l'.length cy) ∧ w'.cell? ⟨g1, o1 + j, none⟩ = some (.int .i64 u) ∧ w'.cell? ⟨g2, o2 + j, none⟩ = some (.int .i64 u'))
                  (first | assumption | go_keep) (fail)
                go_wp2_with fail
                go_roundw
                case rel => exact ⟨j + 1, by go_num, by omega, by omega, by rw [HN.out, HE.out], ⟨HBB.out.os, HBB.out.tape, HBB.out.output, HBB.out.size, HBB.out.block⟩, HBD.out⟩
                case measure => simp [intOf]; omega
              · have e1 : (u == u') = false := by simpa using he
                have e2 : (u != u') = true := by simpa using he
                have HL := Lib.hid (less_any u u')
                have HRES := Lib.hid (show ordI u u' = ordV _ _ from ((HV.out).trans (HAT.out he)).symm)
                clear he
                go_wp2_with fail
                go_region_held3 (fun w' => w'.cell? ⟨w.heap.size, 3, none⟩ = some (.slice (some ⟨g1, o1, none⟩) l.length cx) ∧ w'.cell? ⟨w.heap.size + 1, 3, none⟩ = some (.slice (some ⟨g2, o2, none⟩) l'.length cy) ∧ w'.cell? ⟨g1, o1 + j, none⟩ = some (.int .i64 u) ∧ w'.cell? ⟨g2, o2 + j, none⟩ = some (.int .i64 u'))
                  (first | assumption | go_keep) (fail)
                go_wp2_with fail
                go_region_held3 (fun w' => w'.cell? ⟨w.heap.size, 3, none⟩ = some (.slice (some ⟨g1, o1, none⟩) l.length cx) ∧ w'.cell? ⟨w.heap.size + 1, 3, none⟩ = some (.slice (some ⟨g2, o2, none⟩) l'.length cy) ∧ w'.cell? ⟨g1, o1 + j, none⟩ = some (.int .i64 u) ∧ w'.cell? ⟨g2, o2 + j, none⟩ = some (.int .i64 u'))
                  (first | assumption | go_keep)
                  (first | (go_at_call 151; refine (HL.out _).mono ?_; rintro e w' ⟨rfl, rfl⟩))
                go_wp2_with fail
                go_ret
                exact ⟨ret_i HRES.out, HBD2.out⟩
            · obtain rfl : j = l'.length := by omega
              have hend := ordL_end l l' _ hj1 hj2 (.inr rfl) HP.out
              have HRES := Lib.hid (show ordI (l.length : Int) (l'.length : Int) = ordV _ _ from ((HV.out).trans hend).symm)
              have HL := Lib.hid (less_any (l.length : Int) (l'.length : Int))
              clear hend
              go_wp2_with fail
              refine (HL.out _).mono ?_
              rintro e w' ⟨rfl, rfl⟩
              go_wp2_with fail
              go_ret
              exact ⟨ret_i HRES.out, HBW.out⟩
          · obtain rfl : j = l.length := by omega
            have hend := ordL_end l l' _ hj1 hj2 (.inl rfl) HP.out
            have HRES := Lib.hid (show ordI (l.length : Int) (l'.length : Int) = ordV _ _ from ((HV.out).trans hend).symm)
            have HL := Lib.hid (less_any (l.length : Int) (l'.length : Int))
            clear hend
            go_wp2_with fail
            refine (HL.out _).mono ?_
            rintro e w' ⟨rfl, rfl⟩
            go_wp2_with fail
            go_ret
            exact ⟨ret_i HRES.out, HBW.out⟩
      · rw [if_neg ht, less_T t t' ht, ← S_less] at hve
        have e1 : ((S t).toList == (S t').toList) = false := by rw [S_beq]; simpa using ht
        cases hb : Op.bytesLess (S t).toList (S t').toList with
        | true =>
          rw [hb, if_pos rfl] at hve
          have HRES := Lib.hid hve.symm
          clear hve ht
          go_enter Tryz.func106, Tryz.ntmps106
          go_wp2_with fail
          go_ret
          exact ⟨ret_i HRES.out, HB0.out⟩
        | false =>
          rw [hb, if_neg (by simp)] at hve
          have HRES := Lib.hid hve.symm
          clear hve ht
          go_enter Tryz.func106, Tryz.ntmps106
          go_wp2_with fail
          go_ret
          exact ⟨ret_i HRES.out, HB0.out⟩
    · rw [if_neg hn] at hve
      have e1 : (n == n') = false := by simpa using hn
      have e2 : (n != n') = true := by simpa using hn
      have HRES := Lib.hid hve.symm
      have HL := Lib.hid (less_any n n')
      clear hve hn
      go_enter Tryz.func106, Tryz.ntmps106
      go_wp2_with fail
      refine (HL.out _).mono ?_
      rintro e w' ⟨rfl, rfl⟩
      go_wp2_with fail
      go_ret
      exact ⟨ret_i HRES.out, HB0.out⟩
  · rw [if_neg hk] at hve
    have e1 : (k == k') = false := by simpa using hk
    have e2 : (k != k') = true := by simpa using hk
    have HRES := Lib.hid hve.symm
    have HL := Lib.hid (less_any k k')
    clear hve hk
    go_enter Tryz.func106, Tryz.ntmps106
    go_wp2_with fail
    refine (HL.out _).mono ?_
    rintro e w' ⟨rfl, rfl⟩
    go_wp2_with fail
    go_ret
    exact ⟨ret_i HRES.out, HB0.out⟩
end Go.Proofs.YtlmmfhbdebfgkaaGreatDoor.Va
namespace Go.Proofs.YtlmmfhbdebfgkaaGreatDoor.Va
open Go.RowKit
theorem ret_s {a b : ByteArray} (h : a = b) : Ending.returned (.string a) = .returned (.string b) := by rw [h]
theorem digs_small (n : Nat) (h : n < 10) : digs n = [UInt8.ofNat (48 + n)] := by rw [digs, dif_pos h]
theorem digs_big (n : Nat) (h : ¬ n < 10) : digs n = digs (n / 10) ++ [UInt8.ofNat (48 + n % 10)] := by rw [digs, dif_neg h]
theorem digs_len (n : Nat) : ∀ k, n < 10 ^ (k + 1) → (digs n).length ≤ k + 1 := by
  induction n using Nat.strongRecOn with
  | ind n ih =>
    intro k hk
    by_cases h : n < 10
    · rw [digs_small n h]; simp
    · rw [digs_big n h, List.length_append]
      cases k with
      | zero => omega
      | succ k =>
        have := ih (n / 10) (by omega) k (by rw [Nat.pow_succ] at hk; omega)
        simp; omega
theorem digs_len19 (n : Nat) (h : n ≤ 9223372036854775808) : (digs n).length ≤ 19 := digs_len n 18 (by omega)
theorem dec_nat (m : Nat) : ∀ (n : Nat) (w : World), n ≤ m → n ≤ 9223372036854775807 →
    Calls Tryz.prog 100 #[.int .i64 (n : Int)] w fun e w' => e = .returned (.string (S (digs n))) ∧ Below w.heap.size w w' := by
  induction m using Nat.strongRecOn with
  | ind m ih =>
    intro n w hnm hn
    have hc : (UInt8.ofNat (48 + n % 10)).toNat = 48 + n % 10 := dig_nat _ (by omega)
    have hbs := byte_string w (UInt8.ofNat (48 + n % 10)) (48 + (n : Int) % 10) (by rw [hc]; omega)
    have hw8 : IntKind.u8.wrap (48 + (n : Int) % 10) = 48 + (n : Int) % 10 := by rw [IntKind.wrap_u8]; omega
    have h0 : ¬ (n : Int) < 0 := by omega
    have h0' : (0 : Int) ≤ (n : Int) := by omega
    have hni : (n : Int) ≤ 9223372036854775807 := by omega
    have hr1 : (0 : Int) ≤ (n : Int) % 10 := by omega
    have hr2 : (n : Int) % 10 ≤ 9 := by omega
    have hB := (Below.refl w.heap.size w).alloc (Nat.le_refl _) (.cells #[.int .u8 (48 + (n : Int) % 10)] 5)
    have HB := Lib.hid hB
    by_cases h : n < 10
    · have hd := digs_small n h
      have e1 : n % 10 = n := by omega
      rw [e1] at hbs
      generalize UInt8.ofNat (48 + n) = c at *
      have HD := Lib.hid hd.symm
      have hi : (n : Int) < 10 := by omega
      have hi2 : ¬ (10 : Int) ≤ (n : Int) := by omega
      clear hd hB hc e1 ih
      go_enter Tryz.func100, Tryz.ntmps100
      go_wp2_with fail
      go_ret
      exact ⟨ret_s (by rw [← HD.out]), HB.out⟩
    · have hd := digs_big n h
      have hdiv : ((n / 10 : Nat) : Int) = (n : Int) / 10 := by omega
      have hq := ih (n / 10) (by omega) (n / 10) (w.alloc (.cells #[.int .u8 (48 + (n : Int) % 10)] 5)) (Nat.le_refl _) (by omega)
      rw [hdiv] at hq
      have hln := digs_len19 (n / 10) (by omega)
      have hs1 : (S (digs (n / 10))).size ≤ 19 := by rw [S_size]; exact hln
      have hs2 : (S [UInt8.ofNat (48 + n % 10)]).size = 1 := rfl
      have hres : S (digs (n / 10)) ++ S [UInt8.ofNat (48 + n % 10)] = S (digs n) := by rw [S_append, hd]
      have HQ := Lib.hid hq
      have HRES := Lib.hid hres
      generalize S (digs (n / 10)) = a at *
      generalize S [UInt8.ofNat (48 + n % 10)] = b at *
      have hadd : ∀ w, (Op.stringOp .add a b).run Tryz.prog w = .ok (.string (a ++ b)) w := fun w => run_string_add_sum w a b (by omega)
      have hi2 : (10 : Int) ≤ (n : Int) := by omega
      clear hd hB hc ih hq hdiv hres h hnm hln
      go_enter Tryz.func100, Tryz.ntmps100
      go_wp2_with fail
      refine HQ.out.mono ?_
      rintro e w1 ⟨rfl, b1⟩
      have HB1 := Lib.hid (HB.out.trans (b1.mono (by simp)))
      clear b1
      go_wp2_with fail
      go_ret
      exact ⟨ret_s HRES.out, HB1.out⟩
theorem dec_any (n : Int) (w : World) (h1 : -9223372036854775808 ≤ n) (h2 : n ≤ 9223372036854775807) :
    Calls Tryz.prog 100 #[.int .i64 n] w fun e w' => e = .returned (.string (S (decZ n))) ∧ Below w.heap.size w w' := by
  by_cases h0 : n < 0
  · obtain ⟨m, rfl⟩ : ∃ m : Nat, n = -(m : Int) := ⟨n.natAbs, by omega⟩
    have e : decZ (-(m : Int)) = 45 :: digs m := by unfold decZ; rw [if_pos h0]; simp
    rw [e]
    clear e
    have hq : (-(m : Int)).tdiv 10 = -((m / 10 : Nat) : Int) := by rw [Int.neg_tdiv, Int.tdiv_eq_ediv_of_nonneg (by omega)]; omega
    have hr : (-(m : Int)).tmod 10 = -((m % 10 : Nat) : Int) := by rw [Int.neg_tmod, Int.tmod_eq_emod_of_nonneg (by omega)]; omega
    have hd2 := dec_nat (m % 10) (m % 10)
    have hl2 := digs_len19 (m % 10) (by omega)
    have hs3 : (S (digs (m % 10))).size ≤ 19 := by rw [S_size]; exact hl2
    by_cases hm : m < 10
    · have e0 : m / 10 = 0 := by omega
      have e1 : m % 10 = m := by omega
      rw [e0] at hq
      rw [e1] at hr hd2 hs3
      have hres : S [45] ++ S (digs m) = S (45 :: digs m) := by rw [S_append]; rfl
      have hadd1 : ∀ w, (Op.stringOp .add ⟨#[45]⟩ ⟨#[]⟩).run Tryz.prog w = .ok (.string (S [45])) w := fun w => run_string_add_sum w _ _ (by decide)
      have hadd2 : ∀ w, (Op.stringOp .add (S [45]) (S (digs m))).run Tryz.prog w = .ok (.string (S (45 :: digs m))) w := fun w => by
        rw [run_string_add_sum w _ _ (by have : (S [45]).size = 1 := rfl; omega), hres]
      have HD2 := Lib.hid hd2
      have hmi : (m : Int) ≤ 9 := by omega
      have hq0 : (-(m : Int)).tdiv 10 = 0 := by rw [hq]; rfl
      have hmn : m ≤ 9223372036854775807 := by omega
      generalize S (45 :: digs m) = out at *
      generalize S (digs m) = a at *
      generalize S [45] = mi at *
      clear hq hres hd2 hl2 e0 e1 hm
      go_enter Tryz.func100, Tryz.ntmps100
      go_wp2_with fail
      refine (HD2.out _ (Nat.le_refl _) hmn).mono ?_
      rintro e w1 ⟨rfl, b1⟩
      have HB1 := Lib.hid b1
      clear b1
      go_wp2_with fail
      go_ret
      exact ⟨ret_s rfl, HB1.out⟩
    · have hd1 := dec_nat (m / 10) (m / 10)
      have hl1 := digs_len19 (m / 10) (by omega)
      have hs4 : (S (digs (m / 10))).size ≤ 19 := by rw [S_size]; exact hl1
      have hdig : digs m = digs (m / 10) ++ digs (m % 10) := by rw [digs_big m hm, digs_small (m % 10) (by omega)]
      have hres1 : S [45] ++ S (digs (m / 10)) = S (45 :: digs (m / 10)) := by rw [S_append]; rfl
      have hres2 : S (45 :: digs (m / 10)) ++ S (digs (m % 10)) = S (45 :: digs m) := by rw [S_append, hdig]; rfl
      have hs5 : (S (45 :: digs (m / 10))).size ≤ 20 := by rw [S_size, List.length_cons]; omega
      have hadd1 : ∀ w, (Op.stringOp .add ⟨#[45]⟩ (S (digs (m / 10)))).run Tryz.prog w = .ok (.string (S (45 :: digs (m / 10)))) w := fun w => by
        rw [run_string_add_sum w _ _ (by have : (⟨#[45]⟩ : ByteArray).size = 1 := rfl; omega)]
        exact congrArg (fun x => Result.ok (Value.string x) w) hres1
      have hadd2 : ∀ w, (Op.stringOp .add (S (45 :: digs (m / 10))) (S (digs (m % 10)))).run Tryz.prog w = .ok (.string (S (45 :: digs m))) w := fun w => by
        rw [run_string_add_sum w _ _ (by omega), hres2]
      have HD1 := Lib.hid hd1
      have HD2 := Lib.hid hd2
      have hm1 : m / 10 ≤ 9223372036854775807 := by omega
      have hm2 : m % 10 ≤ 9223372036854775807 := by omega
      have hne : ((-((m / 10 : Nat) : Int)) == 0) = false := by simp; omega
      have hne2 : ((-((m / 10 : Nat) : Int)) != 0) = true := by simp; omega
      have hp1 : 0 < m / 10 := by omega
      generalize S (45 :: digs m) = out at *
      generalize S (45 :: digs (m / 10)) = mid at *
      generalize S (digs (m / 10)) = a at *
      generalize S (digs (m % 10)) = b at *
      generalize m / 10 = q at *
      generalize m % 10 = r at *
      have hqn : (q : Int) ≤ 9223372036854775807 := by omega
      have hrn : (r : Int) ≤ 9223372036854775807 := by omega
      have hq1 : 1 ≤ (q : Int) := by omega
      have hq2 : ¬ q = 0 := by omega
      clear hres1 hres2 hd1 hd2 hl1 hl2 hdig hm
      go_enter Tryz.func100, Tryz.ntmps100
      go_wp2_with fail
      refine (HD1.out _ (Nat.le_refl _) hm1).mono ?_
      rintro e w1 ⟨rfl, b1⟩
      have HB1 := Lib.hid b1
      clear b1
      go_wp2_with fail
      refine (HD2.out _ (Nat.le_refl _) hm2).mono ?_
      rintro e w2 ⟨rfl, b2⟩
      have HB2 := Lib.hid (two HB1.out b2)
      clear b2
      go_wp2_with fail
      go_ret
      exact ⟨ret_s rfl, HB2.out⟩
  · obtain ⟨m, rfl⟩ : ∃ m : Nat, n = (m : Int) := ⟨n.toNat, by omega⟩
    have e : decZ (m : Int) = digs m := by unfold decZ; rw [if_neg h0]; simp
    rw [e]
    exact dec_nat m m w (Nat.le_refl _) (by omega)
end Go.Proofs.YtlmmfhbdebfgkaaGreatDoor.Va
namespace Go.Proofs.YtlmmfhbdebfgkaaGreatDoor.Va
open Go.RowKit
def u8C (l : List UInt8) : List Value := l.map fun c => .int .u8 (c.toNat : Int)
structure Buf (B : Nat) (W0 wr : World) (v : Value) (l : List UInt8) : Prop where
  own : wr.ownsRow B 5 1 v l.length (u8C l)
  below : Below B W0 wr
  hi : B ≤ wr.heap.size
theorem Buf.step {B : Nat} {W0 wr w' : World} {v v' : Value} {l : List UInt8} {c : UInt8} {x : Int} {o : Obj} (h : Buf B W0 wr v l) (hx : x = (c.toNat : Int)) (own : w'.ownsRow B 5 1 v' (l.length + 1) (u8C l ++ [.int .u8 x])) (gr : (wr.alloc o).grownBy w' v.ownBlock) : Buf B W0 w' v' (l ++ [c]) := by
  subst hx
  have hs := h.hi
  refine ⟨?_, (h.below.alloc hs o).grown gr (by simp; omega) (fun k hk => (h.own.lt k hk).1), ?_⟩
  · rw [List.length_append]
    have e : u8C (l ++ [c]) = u8C l ++ [.int .u8 (c.toNat : Int)] := by simp [u8C]
    rw [e]; exact own
  · have := gr.size; simp at this; omega
theorem news_one (w : World) (x : Value) (T : TypeId) (H : Nat) (hH : w.heap.size = H) : ∀ j u, ([x] : List Value)[j]? = some u → (w.alloc (.cells #[x] T)).cell? ((⟨H, 0, none⟩ : Addr).add j) = some u := fun j u hu => by
  subst hH
  rw [Addr.add_mid, cell_of_row _ _ _ _ _ (0, 0) (heap_alloc_new w _), Nat.zero_add]; simpa using hu
theorem one_int (x : Int) : ∀ u ∈ ([.int .u8 x] : List Value), u.oneCell' = true := by
  intro u hu
  simp only [List.mem_singleton] at hu
  subst hu; rfl
theorem escT_len (t : List UInt8) : (escT t).length ≤ 4 * t.length := by
  induction t with
  | nil => simp [escT]
  | cons c t ih =>
    have e1 : escT (c :: t) = esc c ++ escT t := rfl
    have : (esc c).length ≤ 4 := by unfold esc; split <;> (try split) <;> simp
    rw [e1, List.length_append, List.length_cons]; omega
theorem escT_snoc (t : List UInt8) (k : Nat) (h : k < t.length) : escT (t.take (k + 1)) = escT (t.take k) ++ esc (t.getD k 0) := by
  unfold escT
  rw [List.take_succ_eq_append_getElem h, List.flatMap_append]
  simp [List.getD, h]
def HEX : ByteArray := ⟨#[48, 49, 50, 51, 52, 53, 54, 55, 56, 57, 97, 98, 99, 100, 101, 102]⟩
theorem run_hex (k : Nat) (h : k < 16) (w : World) : (Instr.index 9 (.string ⟨#[48, 49, 50, 51, 52, 53, 54, 55, 56, 57, 97, 98, 99, 100, 101, 102]⟩) (.int .u8 (k : Int))).run Tryz.prog w = .ok (.int .u8 ((hexC k).toNat : Int)) w := by
  have : ∀ i : Fin 16, ∀ w, (Instr.index 9 (.string ⟨#[48, 49, 50, 51, 52, 53, 54, 55, 56, 57, 97, 98, 99, 100, 101, 102]⟩) (.int .u8 (i.val : Int))).run Tryz.prog w = .ok (.int .u8 ((hexC i.val).toNat : Int)) w := by
    intro i w
    match i with
    | ⟨0, _⟩ => rfl
    | ⟨1, _⟩ => rfl
    | ⟨2, _⟩ => rfl
    | ⟨3, _⟩ => rfl
    | ⟨4, _⟩ => rfl
    | ⟨5, _⟩ => rfl
    | ⟨6, _⟩ => rfl
    | ⟨7, _⟩ => rfl
    | ⟨8, _⟩ => rfl
    | ⟨9, _⟩ => rfl
    | ⟨10, _⟩ => rfl
    | ⟨11, _⟩ => rfl
    | ⟨12, _⟩ => rfl
    | ⟨13, _⟩ => rfl
    | ⟨14, _⟩ => rfl
    | ⟨15, _⟩ => rfl
    | ⟨k + 16, h⟩ => omega
  exact this ⟨k, h⟩ w
theorem refPrint_text (n : Int) (t : List UInt8) (l : List Int) (ht : t.length ≤ 100000) (a : Option Addr) (cap : Nat) (w : World) :
    Calls Tryz.prog 101 #[valC ⟨3, n, t, l⟩ a cap] w fun e w' => e = .returned (.string (S (34 :: (escT t ++ [34])))) ∧ Below w.heap.size w w' := by
  obtain ⟨i0, hi, hz0, hz1, hz2⟩ := info_parts info8
  have hts : (S t).size = t.length := S_size t
  have hti : (t.length : Int) ≤ 100000 := by omega
  have HW0 := Lib.hid ((Below.refl w.heap.size w).alloc (Nat.le_refl _) (.cells #[.int .i64 3, .int .i64 n, .string (S t), .slice a l.length cap] 52))
  have HBOX := Lib.hid (heap_alloc_new w (.cells #[.int .i64 3, .int .i64 n, .string (S t), .slice a l.length cap] 52))
  have HB0 := Lib.hid (show Buf (w.heap.size + 1) (w.alloc (.cells #[.int .i64 3, .int .i64 n, .string (S t), .slice a l.length cap] 52)) (w.alloc (.cells #[.int .i64 3, .int .i64 n, .string (S t), .slice a l.length cap] 52)) (.slice none 0 0) [] from ⟨World.ownsRow_nil _ _ _ _, Below.refl _ _, by simp⟩)
  unfold valC
  simp only
  go_enter Tryz.func101, Tryz.ntmps101
  go_wp2_with (at_builtin; refine wpList_append_own _ rfl _ _ 67 rfl (w.heap.size + 1) 5 i0 _ 1 1 Tryz.underlying67 hi hz0 hz1 hz2 rfl (by omega) _ _ _ rfl (HB0.out.own.alloc _) ⟨_, 0, none⟩ 1 1 [.int .u8 34] rfl rfl (news_one _ _ _ _ (by first | rfl | simp)) (one_int _) (by decide) (by decide) (Nat.le_trans HB0.out.hi (by simp)) ?_; intro v1 w1 hown hgrow _; have HB1 := Lib.hid (HB0.out.step (c := 34) (by rfl) hown hgrow); clear hown hgrow)
  have hbuf : Buf (w.heap.size + 1) (w.alloc (.cells #[.int .i64 3, .int .i64 n, .string (S t), .slice a l.length cap] 52)) w1 v1 (34 :: escT (t.take 0)) := HB1.out
  have HBS := Lib.hid hbuf
  clear hbuf
  go_loopw [3, 4] (fun v i wr => ∃ k : Nat, k ≤ t.length ∧ i = .int .i64 k ∧ Buf (w.heap.size + 1) (w.alloc (.cells #[.int .i64 3, .int .i64 n, .string (S t), .slice a l.length cap] 52)) wr v (34 :: escT (t.take k))) (fun _ i _ => t.length - (intOf i).toNat)
  case atStart => exact ⟨0, by omega, rfl, HBS.out⟩
  case round =>
    obtain ⟨k, hk, rfl, hbr⟩ := hrel
    have HBR := Lib.hid hbr
    have hx0 := (hbr.below.block w.heap.size (by omega)).trans HBOX.out
    have p2 : wr.cell? ⟨w.heap.size, 2, none⟩ = some (.string (S t)) := (cell_of_row wr _ 2 _ _ (0, 0) hx0).trans rfl
    have hbl := escT_len (t.take k)
    rw [List.length_take] at hbl
    have hbk : (escT (t.take k)).length ≤ 400000 := by omega
    clear hbr hx0 hbl
    by_cases hlt : k < t.length
    · have hki : (k : Int) < (t.length : Int) := by omega
      have hg := getElem_list (S t) k (by omega)
      rw [S_toList] at hg
      have hsn := escT_snoc t k hlt
      have HSN := Lib.hid hsn
      have hcb := byte_lt (t.getD k 0)
      generalize t.getD k 0 = c at *
      have hc : (S t)[k]'(by omega) = c := hg.symm
      have HMK := Lib.hid (fun (wr' : World) (v' : Value) (l' : List UInt8) (h : Buf (w.heap.size + 1) (w.alloc (.cells #[.int .i64 3, .int .i64 n, .string (S t), .slice a l.length cap] 52)) wr' v' l') (e : l' = (34 :: escT (t.take k)) ++ esc c) => show Buf (w.heap.size + 1) (w.alloc (.cells #[.int .i64 3, .int .i64 n, .string (S t), .slice a l.length cap] 52)) wr' v' (34 :: escT (t.take (k + 1))) from by rw [HSN.out, ← List.cons_append, ← e]; exact h)
      clear hg hsn
      by_cases hA : c.toNat < 32 ∨ 126 < c.toNat
      · have hq1 : c.toNat / 16 < 16 := by have := c.toNat_lt; omega
        have hq2 : c.toNat % 16 < 16 := by omega
        have hi1 := fun w => run_hex (c.toNat / 16) hq1 w
        have hi2 := fun w => run_hex (c.toNat % 16) hq2 w
        have hdiv : (c.toNat : Int) / 16 = ((c.toNat / 16 : Nat) : Int) := by omega
        have hmod : (c.toNat : Int) % 16 = ((c.toNat % 16 : Nat) : Int) := by omega
        have hesc : esc c = [92, 120, hexC (c.toNat / 16), hexC (c.toNat % 16)] := by
          unfold esc
          rw [if_pos]
          simp only [Bool.or_eq_true, decide_eq_true_eq]
          rcases hA with h | h
          · exact .inl (UInt8.lt_iff_toNat_lt.2 h)
          · exact .inr (UInt8.lt_iff_toNat_lt.2 h)
        have HESC := Lib.hid hesc
        clear hesc
        have hx1 : ((hexC (c.toNat / 16)).toNat : Int) < 256 := byte_lt _
        have hx2 : ((hexC (c.toNat % 16)).toNat : Int) < 256 := byte_lt _
        generalize hexC (c.toNat / 16) = y1 at *
        generalize hexC (c.toNat % 16) = y2 at *
        generalize c.toNat / 16 = q1 at *
        generalize c.toNat % 16 = q2 at *
        rcases (by omega : c.toNat < 32 ∨ (¬ c.toNat < 32 ∧ 126 < c.toNat)) with hA1 | ⟨hA1, hA2⟩
        all_goals
          have hA1i : (c.toNat : Int) < 32 ∨ ((32 : Int) ≤ (c.toNat : Int) ∧ (126 : Int) < (c.toNat : Int)) := by omega
          clear hA
          go_wp2_with (first
            | (at_builtin; refine wpList_append_own _ rfl _ _ 67 rfl (w.heap.size + 1) 5 i0 _ 1 1 Tryz.underlying67 hi hz0 hz1 hz2 rfl (by omega) _ _ _ rfl (HB4.out.own.alloc _) ⟨_, 0, none⟩ 1 1 [.int .u8 (y2.toNat : Int)] rfl rfl (news_one _ _ _ _ (by first | rfl | simp)) (one_int _) (by simp only [List.length_append, List.length_cons, List.length_nil]; unfold maxLen; omega) (by simp only [List.length_append, List.length_cons, List.length_nil]; omega) (Nat.le_trans HB4.out.hi (by simp)) ?_; intro v5 w5 hown hgrow _; have HB5 := Lib.hid (HB4.out.step (c := y2) (by rfl) hown hgrow); clear hown hgrow)
            | (at_builtin; refine wpList_append_own _ rfl _ _ 67 rfl (w.heap.size + 1) 5 i0 _ 1 1 Tryz.underlying67 hi hz0 hz1 hz2 rfl (by omega) _ _ _ rfl (HB3.out.own.alloc _) ⟨_, 0, none⟩ 1 1 [.int .u8 (y1.toNat : Int)] rfl rfl (news_one _ _ _ _ (by first | rfl | simp)) (one_int _) (by simp only [List.length_append, List.length_cons, List.length_nil]; unfold maxLen; omega) (by simp only [List.length_append, List.length_cons, List.length_nil]; omega) (Nat.le_trans HB3.out.hi (by simp)) ?_; intro v4 w4 hown hgrow _; have HB4 := Lib.hid (HB3.out.step (c := y1) (by rfl) hown hgrow); clear hown hgrow)
            | (at_builtin; refine wpList_append_own _ rfl _ _ 67 rfl (w.heap.size + 1) 5 i0 _ 1 1 Tryz.underlying67 hi hz0 hz1 hz2 rfl (by omega) _ _ _ rfl (HB2.out.own.alloc _) ⟨_, 0, none⟩ 1 1 [.int .u8 120] rfl rfl (news_one _ _ _ _ (by first | rfl | simp)) (one_int _) (by simp only [List.length_append, List.length_cons, List.length_nil]; unfold maxLen; omega) (by simp only [List.length_append, List.length_cons, List.length_nil]; omega) (Nat.le_trans HB2.out.hi (by simp)) ?_; intro v3 w3 hown hgrow _; have HB3 := Lib.hid (HB2.out.step (c := 120) (by rfl) hown hgrow); clear hown hgrow)
            | (at_builtin; refine wpList_append_own _ rfl _ _ 67 rfl (w.heap.size + 1) 5 i0 _ 1 1 Tryz.underlying67 hi hz0 hz1 hz2 rfl (by omega) _ _ _ rfl (HBR.out.own.alloc _) ⟨_, 0, none⟩ 1 1 [.int .u8 92] rfl rfl (news_one _ _ _ _ (by first | rfl | simp)) (one_int _) (by simp only [List.length_append, List.length_cons, List.length_nil]; unfold maxLen; omega) (by simp only [List.length_append, List.length_cons, List.length_nil]; omega) (Nat.le_trans HBR.out.hi (by simp)) ?_; intro v2 w2 hown hgrow _; have HB2 := Lib.hid (HBR.out.step (c := 92) (by rfl) hown hgrow); clear hown hgrow))
          have HFIN := Lib.hid (HMK.out _ _ _ HB5.out (by simp [HESC.out]))
          go_roundw
          case rel => exact ⟨k + 1, by omega, by go_num, HFIN.out⟩
          case measure => simp [intOf]; omega
      · by_cases hE : c.toNat = 34 ∨ c.toNat = 92
        · have hesc : esc c = [92, c] := by
            unfold esc
            have h1 : (decide (c < 32) || decide (126 < c)) = false := by
              simp only [Bool.or_eq_false_iff, decide_eq_false_iff_not, UInt8.lt_iff_toNat_lt]
              exact ⟨fun h => hA (.inl h), fun h => hA (.inr h)⟩
            rw [h1, if_neg (by simp), if_pos]
            simp only [Bool.or_eq_true, beq_iff_eq]
            rcases hE with h | h
            · exact .inl (UInt8.toNat_inj.1 h)
            · exact .inr (UInt8.toNat_inj.1 h)
          have HESC := Lib.hid hesc
          have hA1 : (32 : Int) ≤ (c.toNat : Int) := by omega
          have hA2 : (c.toNat : Int) ≤ 126 := by omega
          clear hesc hA
          rcases hE with hE | hE
          · obtain rfl : c = 34 := UInt8.toNat_inj.1 hE
            clear hE
            go_wp2_with (first
              | (at_builtin; refine wpList_append_own _ rfl _ _ 67 rfl (w.heap.size + 1) 5 i0 _ 1 1 Tryz.underlying67 hi hz0 hz1 hz2 rfl (by omega) _ _ _ rfl (HB2.out.own.alloc _) ⟨_, 0, none⟩ 1 1 [.int .u8 34] rfl rfl (news_one _ _ _ _ (by first | rfl | simp)) (one_int _) (by simp only [List.length_append, List.length_cons, List.length_nil]; unfold maxLen; omega) (by simp only [List.length_append, List.length_cons, List.length_nil]; omega) (Nat.le_trans HB2.out.hi (by simp)) ?_; intro v3 w3 hown hgrow _; have HB3 := Lib.hid (HB2.out.step (c := 34) (by rfl) hown hgrow); clear hown hgrow)
              | (at_builtin; refine wpList_append_own _ rfl _ _ 67 rfl (w.heap.size + 1) 5 i0 _ 1 1 Tryz.underlying67 hi hz0 hz1 hz2 rfl (by omega) _ _ _ rfl (HBR.out.own.alloc _) ⟨_, 0, none⟩ 1 1 [.int .u8 92] rfl rfl (news_one _ _ _ _ (by first | rfl | simp)) (one_int _) (by simp only [List.length_append, List.length_cons, List.length_nil]; unfold maxLen; omega) (by simp only [List.length_append, List.length_cons, List.length_nil]; omega) (Nat.le_trans HBR.out.hi (by simp)) ?_; intro v2 w2 hown hgrow _; have HB2 := Lib.hid (HBR.out.step (c := 92) (by rfl) hown hgrow); clear hown hgrow))
            have HFIN := Lib.hid (HMK.out _ _ _ HB3.out (by simp [HESC.out]))
            go_roundw
            case rel => exact ⟨k + 1, by omega, by go_num, HFIN.out⟩
            case measure => simp [intOf]; omega
          · obtain rfl : c = 92 := UInt8.toNat_inj.1 hE
            clear hE
            go_wp2_with (first
              | (at_builtin; refine wpList_append_own _ rfl _ _ 67 rfl (w.heap.size + 1) 5 i0 _ 1 1 Tryz.underlying67 hi hz0 hz1 hz2 rfl (by omega) _ _ _ rfl (HB2.out.own.alloc _) ⟨_, 0, none⟩ 1 1 [.int .u8 92] rfl rfl (news_one _ _ _ _ (by first | rfl | simp)) (one_int _) (by simp only [List.length_append, List.length_cons, List.length_nil]; unfold maxLen; omega) (by simp only [List.length_append, List.length_cons, List.length_nil]; omega) (Nat.le_trans HB2.out.hi (by simp)) ?_; intro v3 w3 hown hgrow _; have HB3 := Lib.hid (HB2.out.step (c := 92) (by rfl) hown hgrow); clear hown hgrow)
              | (at_builtin; refine wpList_append_own _ rfl _ _ 67 rfl (w.heap.size + 1) 5 i0 _ 1 1 Tryz.underlying67 hi hz0 hz1 hz2 rfl (by omega) _ _ _ rfl (HBR.out.own.alloc _) ⟨_, 0, none⟩ 1 1 [.int .u8 92] rfl rfl (news_one _ _ _ _ (by first | rfl | simp)) (one_int _) (by simp only [List.length_append, List.length_cons, List.length_nil]; unfold maxLen; omega) (by simp only [List.length_append, List.length_cons, List.length_nil]; omega) (Nat.le_trans HBR.out.hi (by simp)) ?_; intro v2 w2 hown hgrow _; have HB2 := Lib.hid (HBR.out.step (c := 92) (by rfl) hown hgrow); clear hown hgrow))
            have HFIN := Lib.hid (HMK.out _ _ _ HB3.out (by simp [HESC.out]))
            go_roundw
            case rel => exact ⟨k + 1, by omega, by go_num, HFIN.out⟩
            case measure => simp [intOf]; omega
        · have hesc : esc c = [c] := by
            unfold esc
            have h1 : (decide (c < 32) || decide (126 < c)) = false := by
              simp only [Bool.or_eq_false_iff, decide_eq_false_iff_not, UInt8.lt_iff_toNat_lt]
              exact ⟨fun h => hA (.inl h), fun h => hA (.inr h)⟩
            have h2 : (c == 34 || c == 92) = false := by
              simp only [Bool.or_eq_false_iff, beq_eq_false_iff_ne, ne_eq]
              exact ⟨fun h => hE (.inl (by rw [h]; rfl)), fun h => hE (.inr (by rw [h]; rfl))⟩
            rw [h1, if_neg (by simp), h2, if_neg (by simp)]
          have HESC := Lib.hid hesc
          have hA1 : (32 : Int) ≤ (c.toNat : Int) := by omega
          have hA2 : (c.toNat : Int) ≤ 126 := by omega
          have hE1 : ((c.toNat : Int) == 34) = false := by simp; omega
          have hE2 : ((c.toNat : Int) == 92) = false := by simp; omega
          have hE3 : (c.toNat == 34) = false := by simp; omega
          have hE4 : (c.toNat == 92) = false := by simp; omega
          clear hesc hA hE
          go_wp2_with (at_builtin; refine wpList_append_own _ rfl _ _ 67 rfl (w.heap.size + 1) 5 i0 _ 1 1 Tryz.underlying67 hi hz0 hz1 hz2 rfl (by omega) _ _ _ rfl (HBR.out.own.alloc _) ⟨_, 0, none⟩ 1 1 [.int .u8 (c.toNat : Int)] rfl rfl (news_one _ _ _ _ (by first | rfl | simp)) (one_int _) (by simp only [List.length_append, List.length_cons, List.length_nil]; unfold maxLen; omega) (by simp only [List.length_append, List.length_cons, List.length_nil]; omega) (Nat.le_trans HBR.out.hi (by simp)) ?_; intro v2 w2 hown hgrow _; have HB2 := Lib.hid (HBR.out.step (c := c) (by rfl) hown hgrow); clear hown hgrow)
          have HFIN := Lib.hid (HMK.out _ _ _ HB2.out (by simp [HESC.out]))
          go_roundw
          case rel => exact ⟨k + 1, by omega, by go_num, HFIN.out⟩
          case measure => simp [intOf]; omega
    · obtain rfl : k = t.length := by omega
      have hbr2 := HBR.out
      rw [List.take_length] at hbr2 hbk
      have HBE := Lib.hid hbr2
      clear hbr2 HBR
      go_wp2_with (at_builtin; refine wpList_append_lies _ rfl _ _ 67 rfl (w.heap.size + 1) 5 i0 _ 1 1 Tryz.underlying67 hi hz0 hz1 hz2 rfl (by omega) _ _ _ rfl (HBE.out.own.alloc _) ⟨_, 0, none⟩ 1 1 [.int .u8 34] rfl rfl (news_one _ _ _ _ (by first | rfl | simp)) (one_int _) (by omega) (by simp only [List.length_cons]; unfold maxLen; omega) (by simp only [List.length_cons]; omega) (Nat.le_trans HBE.out.hi (by simp)) (wr.heap.size + 1) (by simp) ?_; intro g cp w2 hown hgrow _ _; have HB9 := Lib.hid (HBE.out.step (c := 34) (by rfl) hown hgrow); have h9 := HB9.out.own; rw [show ((34 :: escT t ++ [34] : List UInt8)).length = (34 :: escT t : List UInt8).length + 1 by simp] at h9; have hcv := (Row8.of_owns h9).back (P := Tryz.prog) 67 9 5 cp Tryz.underlying67 Tryz.underlying5 Tryz.underlying9 ((34 :: escT t : List UInt8).length + 1) (by simp); simp only [List.length_cons] at hcv; clear hown hgrow h9)
      go_ret
      exact ⟨ret_s (by rfl), HW0.out.trans (HB9.out.below.mono (by simp))⟩
end Go.Proofs.YtlmmfhbdebfgkaaGreatDoor.Va
