/-
  The writer's rows: numbers, counters.
-/
import Derived.Test.YtkdhchdhgmaolaaZCdPutA
namespace Go.Proofs.Ytkdhchdhgmaolaa.Cd
open Go.RowKit
open Pk Va
set_option linter.unusedVariables false
set_option linter.unusedSimpArgs false

theorem Wrote.cut {e e2 l l' : List UInt8} {o o2 b : Bool} {k K : Nat} (h : Wrote e o k l b l' true) (hi : o2 = true → o = true) (hk : l'.length ≤ l.length + K) : Wrote e2 o2 K l b l' true :=
  ⟨fun hb ho => absurd (h.good hb (hi ho)).1 (by simp), fun _ => rfl, fun _ => rfl, hk⟩
theorem cntI_len_eq (n : Nat) (h : n ≤ 281474976710656) : cntI (n : Int) = cntB n := by
  unfold cntI cntB
  congr 1
  omega
theorem all_take {α : Type} (p : α → Bool) (l : List α) (k : Nat) (h : l.all p = true) : (l.take k).all p = true := by
  rw [List.all_eq_true] at h ⊢
  exact fun x hx => h x (List.mem_of_mem_take hx)

set_option maxRecDepth 100000 in
set_option maxHeartbeats 4000000 in
theorem allN_w (w0 : World) (b : Nat) (l : List UInt8) (bad : Bool) (xs : List Int) (hok : ∀ n ∈ xs, Num64 n) (a : Option Addr) (cap : Nat) (hx : NumsAt w0 a xs) (hlen : xs.length ≤ 281474976710656) (w : World) (hk0 : Below w0.heap.size w0 w) (h : Wr w0.heap.size b l bad w) (hl : l.length ≤ 90000100) :
    Calls Try.prog 95 #[.pointer (some ⟨b, 0, none⟩), .int .i64 16, .slice a xs.length cap, .func (Fn.func 91) #[] #[]] w fun e w' =>
      PutsTo w0.heap.size b (cntB xs.length ++ numsB xs) (decide (xs.length ≤ 16) && xs.all (fun _ => true)) 200 l bad w e w' := by
  have HSM := Lib.hid (small_w w0.heap.size b l bad (xs.length : Int) 16 ⟨by omega, by omega⟩ (by omega) w h (by omega))
  rw [cntI_len_eq _ hlen, show decide (0 ≤ (xs.length : Int) ∧ (xs.length : Int) ≤ 16) = decide (xs.length ≤ 16) by rw [decide_eq_decide]; omega] at HSM
  have hlen2 : (xs.length : Int) ≤ 281474976710656 := by omega
  have HX := Lib.hid hx
  have HOK := Lib.hid hok
  have HK0 := Lib.hid hk0
  have H0 := Lib.hid h
  clear hx hok hk0 h
  go_enter Try.func95, Try.ntmps95
  go_wp2_with fail
  refine HSM.out.mono ?_
  rintro e w1 ⟨rfl, l1, b1, t1, q1⟩
  have T1 := Lib.hid t1
  have Q1 := Lib.hid (show Wrote (cntB xs.length ++ numsB (xs.take 0)) (decide (xs.length ≤ 16) && (xs.take 0).all (fun _ => true)) (10 + 10 * 0) l bad l1 b1 from q1.conv (fun _ => by simp [numsB]) (by simp) (by omega))
  clear t1 q1 HSM
  go_wp2_with fail
  go_loopw [17] (fun iv wr => ∃ (k : Nat) (lk : List UInt8) (bk : Bool), k ≤ xs.length ∧ iv = .int .i64 k ∧ (k = 0 ∨ xs.length ≤ 16) ∧ WrTo w0.heap.size b lk bk w wr ∧ Wrote (cntB xs.length ++ numsB (xs.take k)) (decide (xs.length ≤ 16) && (xs.take k).all (fun _ => true)) (10 + 10 * k) l bad lk bk) (fun iv _ => xs.length - (intOf iv).toNat)
  case atStart => exact ⟨0, l1, b1, Nat.zero_le _, rfl, .inl rfl, T1.out, Q1.out⟩
  case round =>
    obtain ⟨k, lk, bk, hk, rfl, hm, ht, hq⟩ := hrel
    have hlk : lk.length ≤ l.length + (10 + 10 * k) := hq.len
    by_cases hlt : k < xs.length
    · have hki : (k : Int) < (xs.length : Int) := by omega
      have kb := HK0.out.trans ht.below
      obtain ⟨g, o, rfl, p0, hg⟩ := (HX.out.below kb) k hlt
      rw [show xs.getD k 0 = xs[k] by simp [List.getD, hlt]] at p0
      have HQ := Lib.hid hq

      cases bk with
      | true =>
        have HT := Lib.hid ht
        have hmk := HT.out.wr.mark
        have HC := Lib.hid (show lk.length ≤ l.length + 200 by rcases hm with rfl | hm <;> omega)
        clear ht hq kb hm
        go_wp2_with fail
        go_end0
        exact ⟨rfl, lk, true, HT.out, HQ.out.cut (fun ho => by
          simp only [Bool.and_eq_true] at ho ⊢
          exact ⟨ho.1, all_take _ _ _ ho.2⟩) HC.out⟩
      | false =>
        have hle : xs.length ≤ 16 := by
          by_cases hh : xs.length ≤ 16
          · exact hh
          · have := hq.fault (by simp [hh])
            cases this
        have HT := Lib.hid ht
        have hmk := HT.out.wr.mark
        have HE := Lib.hid (number_w w0.heap.size b lk false xs[k] (HOK.out _ (List.getElem_mem _)) wr ht.wr (by omega))
        have HST := Lib.hid (show xs.take (k + 1) = xs.take k ++ [xs[k]] from List.take_succ_eq_append_getElem hlt)
        have HLE := Lib.hid hle
        clear ht hq kb hm hlk
        obtain ⟨x, hxk⟩ : ∃ x, x = xs[k] := ⟨_, rfl⟩
        rw [← hxk] at HE HST p0
        clear hxk
        go_wp2_with fail
        refine HE.out.mono ?_
        rintro e w3 ⟨rfl, l3, b3, t3, q3⟩
        have T3 := Lib.hid (HT.out.trans t3)
        have Q3 := Lib.hid (HQ.out.then q3)
        clear t3 q3
        go_wp2_with fail
        go_roundw
        case rel => exact ⟨k + 1, l3, b3, by omega, by go_num, .inr HLE.out, T3.out, Q3.out.conv (fun _ => by rw [HST.out, numsB_append]; simp [numsB]) (by rw [HST.out, List.all_append]; simp [Bool.and_assoc]) (by omega)⟩
        case measure => simp [intOf]; omega
    · have hke : k = xs.length := by omega
      have hki : ¬ (k : Int) < (xs.length : Int) := by omega
      have HT := Lib.hid ht
      have HQ := Lib.hid (show Wrote (cntB xs.length ++ numsB xs) (decide (xs.length ≤ 16) && xs.all (fun _ => true)) 200 l bad lk bk from ⟨fun x y => by
        have := hq.good x (by rw [hke, List.take_length]; exact y)
        rw [hke, List.take_length] at this
        exact this, hq.stay, fun x => hq.fault (by rw [hke, List.take_length]; exact x), by rcases hm with rfl | hm <;> omega⟩)
      clear ht hq hm hlk
      go_wp2_with fail
      go_end0
      exact ⟨rfl, lk, bk, HT.out, HQ.out⟩

set_option maxRecDepth 100000 in
set_option maxHeartbeats 4000000 in
theorem allC_w (w0 : World) (b : Nat) (l : List UInt8) (bad : Bool) (xs : List Int) (hok : ∀ n ∈ xs, Num64 n) (a : Option Addr) (cap : Nat) (hx : NumsAt w0 a xs) (hlen : xs.length ≤ 281474976710656) (w : World) (hk0 : Below w0.heap.size w0 w) (h : Wr w0.heap.size b l bad w) (hl : l.length ≤ 90000100) :
    Calls Try.prog 98 #[.pointer (some ⟨b, 0, none⟩), .int .i64 16, .slice a xs.length cap, .func (Fn.func 99) #[] #[]] w fun e w' =>
      PutsTo w0.heap.size b (cntB xs.length ++ cntsB xs) (decide (xs.length ≤ 16) && xs.all cntOk) 200 l bad w e w' := by
  have HSM := Lib.hid (small_w w0.heap.size b l bad (xs.length : Int) 16 ⟨by omega, by omega⟩ (by omega) w h (by omega))
  rw [cntI_len_eq _ hlen, show decide (0 ≤ (xs.length : Int) ∧ (xs.length : Int) ≤ 16) = decide (xs.length ≤ 16) by rw [decide_eq_decide]; omega] at HSM
  have hlen2 : (xs.length : Int) ≤ 281474976710656 := by omega
  have HX := Lib.hid hx
  have HOK := Lib.hid hok
  have HK0 := Lib.hid hk0
  have H0 := Lib.hid h
  clear hx hok hk0 h
  go_enter Try.func98, Try.ntmps98
  go_wp2_with fail
  refine HSM.out.mono ?_
  rintro e w1 ⟨rfl, l1, b1, t1, q1⟩
  have T1 := Lib.hid t1
  have Q1 := Lib.hid (show Wrote (cntB xs.length ++ cntsB (xs.take 0)) (decide (xs.length ≤ 16) && (xs.take 0).all cntOk) (10 + 10 * 0) l bad l1 b1 from q1.conv (fun _ => by simp [cntsB]) (by simp) (by omega))
  clear t1 q1 HSM
  go_wp2_with fail
  go_loopw [17] (fun iv wr => ∃ (k : Nat) (lk : List UInt8) (bk : Bool), k ≤ xs.length ∧ iv = .int .i64 k ∧ (k = 0 ∨ xs.length ≤ 16) ∧ WrTo w0.heap.size b lk bk w wr ∧ Wrote (cntB xs.length ++ cntsB (xs.take k)) (decide (xs.length ≤ 16) && (xs.take k).all cntOk) (10 + 10 * k) l bad lk bk) (fun iv _ => xs.length - (intOf iv).toNat)
  case atStart => exact ⟨0, l1, b1, Nat.zero_le _, rfl, .inl rfl, T1.out, Q1.out⟩
  case round =>
    obtain ⟨k, lk, bk, hk, rfl, hm, ht, hq⟩ := hrel
    have hlk : lk.length ≤ l.length + (10 + 10 * k) := hq.len
    by_cases hlt : k < xs.length
    · have hki : (k : Int) < (xs.length : Int) := by omega
      have kb := HK0.out.trans ht.below
      obtain ⟨g, o, rfl, p0, hg⟩ := (HX.out.below kb) k hlt
      rw [show xs.getD k 0 = xs[k] by simp [List.getD, hlt]] at p0
      have HQ := Lib.hid hq

      cases bk with
      | true =>
        have HT := Lib.hid ht
        have hmk := HT.out.wr.mark
        have HC := Lib.hid (show lk.length ≤ l.length + 200 by rcases hm with rfl | hm <;> omega)
        clear ht hq kb hm
        go_wp2_with fail
        go_end0
        exact ⟨rfl, lk, true, HT.out, HQ.out.cut (fun ho => by
          simp only [Bool.and_eq_true] at ho ⊢
          exact ⟨ho.1, all_take _ _ _ ho.2⟩) HC.out⟩
      | false =>
        have hle : xs.length ≤ 16 := by
          by_cases hh : xs.length ≤ 16
          · exact hh
          · have := hq.fault (by simp [hh])
            cases this
        have HT := Lib.hid ht
        have hmk := HT.out.wr.mark
        have HE := Lib.hid (count_w w0.heap.size b lk false xs[k] (HOK.out _ (List.getElem_mem _)) wr ht.wr (by omega))
        have HST := Lib.hid (show xs.take (k + 1) = xs.take k ++ [xs[k]] from List.take_succ_eq_append_getElem hlt)
        have HLE := Lib.hid hle
        clear ht hq kb hm hlk
        obtain ⟨x, hxk⟩ : ∃ x, x = xs[k] := ⟨_, rfl⟩
        rw [← hxk] at HE HST p0
        clear hxk
        go_wp2_with fail
        refine HE.out.mono ?_
        rintro e w3 ⟨rfl, l3, b3, t3, q3⟩
        have T3 := Lib.hid (HT.out.trans t3)
        have Q3 := Lib.hid (HQ.out.then q3)
        clear t3 q3
        go_wp2_with fail
        go_roundw
        case rel => exact ⟨k + 1, l3, b3, by omega, by go_num, .inr HLE.out, T3.out, Q3.out.conv (fun _ => by rw [HST.out, cntsB_append]; simp [cntsB]) (by rw [HST.out, List.all_append]; simp [Bool.and_assoc]) (by omega)⟩
        case measure => simp [intOf]; omega
    · have hke : k = xs.length := by omega
      have hki : ¬ (k : Int) < (xs.length : Int) := by omega
      have HT := Lib.hid ht
      have HQ := Lib.hid (show Wrote (cntB xs.length ++ cntsB xs) (decide (xs.length ≤ 16) && xs.all cntOk) 200 l bad lk bk from ⟨fun x y => by
        have := hq.good x (by rw [hke, List.take_length]; exact y)
        rw [hke, List.take_length] at this
        exact this, hq.stay, fun x => hq.fault (by rw [hke, List.take_length]; exact x), by rcases hm with rfl | hm <;> omega⟩)
      clear ht hq hm hlk
      go_wp2_with fail
      go_end0
      exact ⟨rfl, lk, bk, HT.out, HQ.out⟩

end Go.Proofs.Ytkdhchdhgmaolaa.Cd
