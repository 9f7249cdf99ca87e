/-
  The document's own answer for values: the digits of a number.
-/
import Derived.Test.YtjndgfppjdobiaaGreatDoorVaOrd
namespace Go.Proofs.YtjndgfppjdobiaaGreatDoor.Va
open Go.RowKit

theorem ret_s {a b : ByteArray} (h : a = b) : Ending.returned (.string a) = .returned (.string b) := by rw [h]
theorem digs_small (n : Nat) (h : n < 10) : digs n = [UInt8.ofNat (48 + n)] := by rw [digs, dif_pos h]
theorem digs_big (n : Nat) (h : ¬ n < 10) : digs n = digs (n / 10) ++ [UInt8.ofNat (48 + n % 10)] := by rw [digs, dif_neg h]
theorem digs_len (n : Nat) : ∀ k, n < 10 ^ (k + 1) → (digs n).length ≤ k + 1 := by
  induction n using Nat.strongRecOn with
  | ind n ih =>
    intro k hk
    by_cases h : n < 10
    · rw [digs_small n h]; simp
    · rw [digs_big n h, List.length_append]
      cases k with
      | zero => omega
      | succ k =>
        have := ih (n / 10) (by omega) k (by rw [Nat.pow_succ] at hk; omega)
        simp; omega
theorem digs_len19 (n : Nat) (h : n ≤ 9223372036854775808) : (digs n).length ≤ 19 := digs_len n 18 (by omega)

set_option maxRecDepth 100000 in
set_option maxHeartbeats 1600000 in
/-- Of no number below nought. -/
theorem dec_nat (m : Nat) : ∀ (n : Nat) (w : World), n ≤ m → n ≤ 9223372036854775807 →
    Calls Tryz.prog 61 #[.int .i64 (n : Int)] w fun e w' => e = .returned (.string (S (digs n))) ∧ Below w.heap.size w w' := by
  induction m using Nat.strongRecOn with
  | ind m ih =>
    intro n w hnm hn
    have hc : (UInt8.ofNat (48 + n % 10)).toNat = 48 + n % 10 := dig_nat _ (by omega)
    have hbs := byte_string w (UInt8.ofNat (48 + n % 10)) (48 + (n : Int) % 10) (by rw [hc]; omega)
    have hw8 : IntKind.u8.wrap (48 + (n : Int) % 10) = 48 + (n : Int) % 10 := by rw [IntKind.wrap_u8]; omega
    have h0 : ¬ (n : Int) < 0 := by omega
    have h0' : (0 : Int) ≤ (n : Int) := by omega
    have hni : (n : Int) ≤ 9223372036854775807 := by omega
    have hr1 : (0 : Int) ≤ (n : Int) % 10 := by omega
    have hr2 : (n : Int) % 10 ≤ 9 := by omega
    have hB := (Below.refl w.heap.size w).alloc (Nat.le_refl _) (.cells #[.int .u8 (48 + (n : Int) % 10)] 5)
    have HB := Lib.hid hB
    by_cases h : n < 10
    · have hd := digs_small n h
      have e1 : n % 10 = n := by omega
      rw [e1] at hbs
      generalize UInt8.ofNat (48 + n) = c at *
      have HD := Lib.hid hd.symm
      have hi : (n : Int) < 10 := by omega
      have hi2 : ¬ (10 : Int) ≤ (n : Int) := by omega
      clear hd hB hc e1 ih
      go_enter Tryz.func61, Tryz.ntmps61
      go_wp2_with fail
      go_ret
      exact ⟨ret_s (by rw [← HD.out]), HB.out⟩
    · have hd := digs_big n h
      have hdiv : ((n / 10 : Nat) : Int) = (n : Int) / 10 := by omega
      have hq := ih (n / 10) (by omega) (n / 10) (w.alloc (.cells #[.int .u8 (48 + (n : Int) % 10)] 5)) (Nat.le_refl _) (by omega)
      rw [hdiv] at hq
      have hln := digs_len19 (n / 10) (by omega)
      have hs1 : (S (digs (n / 10))).size ≤ 19 := by rw [S_size]; exact hln
      have hs2 : (S [UInt8.ofNat (48 + n % 10)]).size = 1 := rfl
      have hres : S (digs (n / 10)) ++ S [UInt8.ofNat (48 + n % 10)] = S (digs n) := by rw [S_append, hd]
      have HQ := Lib.hid hq
      have HRES := Lib.hid hres
      generalize S (digs (n / 10)) = a at *
      generalize S [UInt8.ofNat (48 + n % 10)] = b at *
      have hadd : ∀ w, (Op.stringOp .add a b).run Tryz.prog w = .ok (.string (a ++ b)) w := fun w => run_string_add_sum w a b (by omega)
      have hi2 : (10 : Int) ≤ (n : Int) := by omega
      clear hd hB hc ih hq hdiv hres h hnm hln
      go_enter Tryz.func61, Tryz.ntmps61
      go_wp2_with fail
      refine HQ.out.mono ?_
      rintro e w1 ⟨rfl, b1⟩
      have HB1 := Lib.hid (HB.out.trans (b1.mono (by simp)))
      clear b1
      go_wp2_with fail
      go_ret
      exact ⟨ret_s HRES.out, HB1.out⟩

set_option maxRecDepth 100000 in
set_option maxHeartbeats 1600000 in
theorem dec_any (n : Int) (w : World) (h1 : -9223372036854775808 ≤ n) (h2 : n ≤ 9223372036854775807) :
    Calls Tryz.prog 61 #[.int .i64 n] w fun e w' => e = .returned (.string (S (decZ n))) ∧ Below w.heap.size w w' := by
  by_cases h0 : n < 0
  · obtain ⟨m, rfl⟩ : ∃ m : Nat, n = -(m : Int) := ⟨n.natAbs, by omega⟩
    have e : decZ (-(m : Int)) = 45 :: digs m := by unfold decZ; rw [if_pos h0]; simp
    rw [e]
    clear e
    have hq : (-(m : Int)).tdiv 10 = -((m / 10 : Nat) : Int) := by rw [Int.neg_tdiv, Int.tdiv_eq_ediv_of_nonneg (by omega)]; omega
    have hr : (-(m : Int)).tmod 10 = -((m % 10 : Nat) : Int) := by rw [Int.neg_tmod, Int.tmod_eq_emod_of_nonneg (by omega)]; omega
    have hd2 := dec_nat (m % 10) (m % 10)
    have hl2 := digs_len19 (m % 10) (by omega)
    have hs3 : (S (digs (m % 10))).size ≤ 19 := by rw [S_size]; exact hl2
    by_cases hm : m < 10
    · have e0 : m / 10 = 0 := by omega
      have e1 : m % 10 = m := by omega
      rw [e0] at hq
      rw [e1] at hr hd2 hs3
      have hres : S [45] ++ S (digs m) = S (45 :: digs m) := by rw [S_append]; rfl
      have hadd1 : ∀ w, (Op.stringOp .add ⟨#[45]⟩ ⟨#[]⟩).run Tryz.prog w = .ok (.string (S [45])) w := fun w => run_string_add_sum w _ _ (by decide)
      have hadd2 : ∀ w, (Op.stringOp .add (S [45]) (S (digs m))).run Tryz.prog w = .ok (.string (S (45 :: digs m))) w := fun w => by
        rw [run_string_add_sum w _ _ (by have : (S [45]).size = 1 := rfl; omega), hres]
      have HD2 := Lib.hid hd2
      have hmi : (m : Int) ≤ 9 := by omega
      have hq0 : (-(m : Int)).tdiv 10 = 0 := by rw [hq]; rfl
      have hmn : m ≤ 9223372036854775807 := by omega
      generalize S (45 :: digs m) = out at *
      generalize S (digs m) = a at *
      generalize S [45] = mi at *
      clear hq hres hd2 hl2 e0 e1 hm
      go_enter Tryz.func61, Tryz.ntmps61
      go_wp2_with fail
      refine (HD2.out _ (Nat.le_refl _) hmn).mono ?_
      rintro e w1 ⟨rfl, b1⟩
      have HB1 := Lib.hid b1
      clear b1
      go_wp2_with fail
      go_ret
      exact ⟨ret_s rfl, HB1.out⟩
    · have hd1 := dec_nat (m / 10) (m / 10)
      have hl1 := digs_len19 (m / 10) (by omega)
      have hs4 : (S (digs (m / 10))).size ≤ 19 := by rw [S_size]; exact hl1
      have hdig : digs m = digs (m / 10) ++ digs (m % 10) := by rw [digs_big m hm, digs_small (m % 10) (by omega)]
      have hres1 : S [45] ++ S (digs (m / 10)) = S (45 :: digs (m / 10)) := by rw [S_append]; rfl
      have hres2 : S (45 :: digs (m / 10)) ++ S (digs (m % 10)) = S (45 :: digs m) := by rw [S_append, hdig]; rfl
      have hs5 : (S (45 :: digs (m / 10))).size ≤ 20 := by rw [S_size, List.length_cons]; omega
      have hadd1 : ∀ w, (Op.stringOp .add ⟨#[45]⟩ (S (digs (m / 10)))).run Tryz.prog w = .ok (.string (S (45 :: digs (m / 10)))) w := fun w => by
        rw [run_string_add_sum w _ _ (by have : (⟨#[45]⟩ : ByteArray).size = 1 := rfl; omega)]
        exact congrArg (fun x => Result.ok (Value.string x) w) hres1
      have hadd2 : ∀ w, (Op.stringOp .add (S (45 :: digs (m / 10))) (S (digs (m % 10)))).run Tryz.prog w = .ok (.string (S (45 :: digs m))) w := fun w => by
        rw [run_string_add_sum w _ _ (by omega), hres2]
      have HD1 := Lib.hid hd1
      have HD2 := Lib.hid hd2
      have hm1 : m / 10 ≤ 9223372036854775807 := by omega
      have hm2 : m % 10 ≤ 9223372036854775807 := by omega
      have hne : ((-((m / 10 : Nat) : Int)) == 0) = false := by simp; omega
      have hne2 : ((-((m / 10 : Nat) : Int)) != 0) = true := by simp; omega
      have hp1 : 0 < m / 10 := by omega
      generalize S (45 :: digs m) = out at *
      generalize S (45 :: digs (m / 10)) = mid at *
      generalize S (digs (m / 10)) = a at *
      generalize S (digs (m % 10)) = b at *
      generalize m / 10 = q at *
      generalize m % 10 = r at *
      have hqn : (q : Int) ≤ 9223372036854775807 := by omega
      have hrn : (r : Int) ≤ 9223372036854775807 := by omega
      have hq1 : 1 ≤ (q : Int) := by omega
      have hq2 : ¬ q = 0 := by omega
      clear hres1 hres2 hd1 hd2 hl1 hl2 hdig hm
      go_enter Tryz.func61, Tryz.ntmps61
      go_wp2_with fail
      refine (HD1.out _ (Nat.le_refl _) hm1).mono ?_
      rintro e w1 ⟨rfl, b1⟩
      have HB1 := Lib.hid b1
      clear b1
      go_wp2_with fail
      refine (HD2.out _ (Nat.le_refl _) hm2).mono ?_
      rintro e w2 ⟨rfl, b2⟩
      have HB2 := Lib.hid (two HB1.out b2)
      clear b2
      go_wp2_with fail
      go_ret
      exact ⟨ret_s rfl, HB2.out⟩
  · obtain ⟨m, rfl⟩ : ∃ m : Nat, n = (m : Int) := ⟨n.toNat, by omega⟩
    have e : decZ (m : Int) = digs m := by unfold decZ; rw [if_neg h0]; simp
    rw [e]
    exact dec_nat m m w (Nat.le_refl _) (by omega)

end Go.Proofs.YtjndgfppjdobiaaGreatDoor.Va
