/-
  The writer's rows: values.
-/
import Derived.Test.YtkdhchdhgmaolaaZCdVal
namespace Go.Proofs.Ytkdhchdhgmaolaa.Cd
open Go.RowKit
open Pk Va
set_option linter.unusedVariables false
set_option linter.unusedSimpArgs false

set_option maxRecDepth 100000 in
set_option maxHeartbeats 4000000 in
theorem allV_w (w0 : World) (b : Nat) (l : List UInt8) (bad : Bool) (xs : List V) (hok : ∀ v ∈ xs, VIn64 v) (a : Option Addr) (cap : Nat) (hx : ValsAt w0 a xs) (hlen : xs.length ≤ 281474976710656) (w : World) (hk0 : Below w0.heap.size w0 w) (h : Wr w0.heap.size b l bad w) (hl : l.length ≤ 80000000) :
    Calls Try.prog 122 #[.pointer (some ⟨b, 0, none⟩), .int .i64 16, .slice a xs.length cap, .func (Fn.func 56) #[] #[]] w fun e w' =>
      PutsTo w0.heap.size b (cntB xs.length ++ valsB xs) (decide (xs.length ≤ 16) && xs.all rightB) 4820 l bad w e w' := by
  have HSM := Lib.hid (small_w w0.heap.size b l bad (xs.length : Int) 16 ⟨by omega, by omega⟩ (by omega) w h (by omega))
  rw [cntI_len_eq _ hlen, show decide (0 ≤ (xs.length : Int) ∧ (xs.length : Int) ≤ 16) = decide (xs.length ≤ 16) by rw [decide_eq_decide]; omega] at HSM
  have hlen2 : (xs.length : Int) ≤ 281474976710656 := by omega
  have HX := Lib.hid hx
  have HOK := Lib.hid hok
  have HK0 := Lib.hid hk0
  have H0 := Lib.hid h
  clear hx hok hk0 h
  go_enter Try.func122, Try.ntmps122
  go_wp2_with fail
  refine HSM.out.mono ?_
  rintro e w1 ⟨rfl, l1, b1, t1, q1⟩
  have T1 := Lib.hid t1
  have Q1 := Lib.hid (show Wrote (cntB xs.length ++ valsB (xs.take 0)) (decide (xs.length ≤ 16) && (xs.take 0).all rightB) (10 + 300 * 0) l bad l1 b1 from q1.conv (fun _ => by simp [valsB]) (by simp) (by omega))
  clear t1 q1 HSM
  go_wp2_with fail
  go_loopw [17] (fun iv wr => ∃ (k : Nat) (lk : List UInt8) (bk : Bool), k ≤ xs.length ∧ iv = .int .i64 k ∧ (k = 0 ∨ xs.length ≤ 16) ∧ WrTo w0.heap.size b lk bk w wr ∧ Wrote (cntB xs.length ++ valsB (xs.take k)) (decide (xs.length ≤ 16) && (xs.take k).all rightB) (10 + 300 * k) l bad lk bk) (fun iv _ => xs.length - (intOf iv).toNat)
  case atStart => exact ⟨0, l1, b1, Nat.zero_le _, rfl, .inl rfl, T1.out, Q1.out⟩
  case round =>
    obtain ⟨k, lk, bk, hk, rfl, hm, ht, hq⟩ := hrel
    have hlk : lk.length ≤ l.length + (10 + 300 * k) := hq.len
    by_cases hlt : k < xs.length
    · have hki : (k : Int) < (xs.length : Int) := by omega
      have kb := HK0.out.trans ht.below
      obtain ⟨g, o, rfl, ⟨q, cc, p0, p1, p2, p3, hn⟩, hg⟩ := (HX.out.below kb) k hlt
      obtain ⟨q', cc', p0', p1', p2', p3', hn'⟩ : ValAt w0 g (o + k * 4) xs[k] := by
        obtain ⟨g2, o2, e2, hv2, _⟩ := HX.out k hlt
        injection e2 with e2
        injection e2 with e2 e3 _
        subst e2 e3
        exact hv2
      have hqq : q = q' ∧ cc = cc' := by
        have hg0 : g < w0.heap.size := World.block_lt_of_cell? w0 _ p3'
        have := (kb.cell (p := ⟨g, o + k * 4 + 3, none⟩) hg0).trans p3'
        rw [p3] at this
        simpa using this
      obtain ⟨rfl, rfl⟩ := hqq
      clear p0' p1' p2' p3'
      have HQ := Lib.hid hq
      have hbx := (Below.refl wr.heap.size wr).alloc (Nat.le_refl _) (.cells #[.int .i64 xs[k].kind, .int .i64 xs[k].num, .string (S xs[k].text), .slice q xs[k].list.length cc] 25)
      have HBX := Lib.hid hbx
      cases bk with
      | true =>
        have HT := Lib.hid (ht.trans (WrTo.of_below ht.wr HBX.out))
        have hmk := HT.out.wr.mark
        have HC := Lib.hid (show lk.length ≤ l.length + 4820 by rcases hm with rfl | hm <;> omega)
        clear ht hq kb hm
        go_wp2_with fail
        go_end0
        exact ⟨rfl, lk, true, HT.out, HQ.out.cut (fun ho => by
          simp only [Bool.and_eq_true] at ho ⊢
          exact ⟨ho.1, all_take _ _ _ ho.2⟩) HC.out⟩
      | false =>
        have hle : xs.length ≤ 16 := by
          by_cases hh : xs.length ≤ 16
          · exact hh
          · have := hq.fault (by simp [hh])
            cases this
        have HT := Lib.hid (ht.trans (WrTo.of_below ht.wr HBX.out))
        have hmk := HT.out.wr.mark
        have HE := Lib.hid (value_w w0 b lk false xs[k] (HOK.out _ (List.getElem_mem _)) q cc hn' _ (HK0.out.trans (ht.trans (WrTo.of_below ht.wr HBX.out)).below) (ht.trans (WrTo.of_below ht.wr HBX.out)).wr (by omega))
        have HST := Lib.hid (show xs.take (k + 1) = xs.take k ++ [xs[k]] from List.take_succ_eq_append_getElem hlt)
        have HLE := Lib.hid hle
        clear ht hq kb hm hlk
        obtain ⟨x, hxk⟩ : ∃ x, x = xs[k] := ⟨_, rfl⟩
        rw [← hxk] at HE HST HT hmk p0 p1 p2 p3
        have HXK := Lib.hid hxk
        clear hxk hn hn' hbx
        unfold valC at HE
        go_wp2_with fail
        refine HE.out.mono ?_
        rintro e w3 ⟨rfl, l3, b3, t3, q3⟩
        have T3 := Lib.hid (HT.out.trans t3)
        have Q3 := Lib.hid (HQ.out.then q3)
        clear t3 q3
        go_wp2_with fail
        go_roundw
        case rel => exact ⟨k + 1, l3, b3, by omega, by go_num, .inr HLE.out, T3.out, Q3.out.conv (fun _ => by rw [HST.out, valsB_append]; simp [valsB]) (by rw [HST.out, List.all_append]; simp [Bool.and_assoc]) (by omega)⟩
        case measure => simp [intOf]; omega
    · have hke : k = xs.length := by omega
      have hki : ¬ (k : Int) < (xs.length : Int) := by omega
      have HT := Lib.hid ht
      have HQ := Lib.hid (show Wrote (cntB xs.length ++ valsB xs) (decide (xs.length ≤ 16) && xs.all rightB) 4820 l bad lk bk from ⟨fun x y => by
        have := hq.good x (by rw [hke, List.take_length]; exact y)
        rw [hke, List.take_length] at this
        exact this, hq.stay, fun x => hq.fault (by rw [hke, List.take_length]; exact x), by rcases hm with rfl | hm <;> omega⟩)
      clear ht hq hm hlk
      go_wp2_with fail
      go_end0
      exact ⟨rfl, lk, bk, HT.out, HQ.out⟩

set_option maxRecDepth 100000 in
theorem row_w (w0 : World) (b : Nat) (l : List UInt8) (bad : Bool) (xs : List V) (hok : ∀ v ∈ xs, VIn64 v) (a : Option Addr) (cap : Nat) (hx : ValsAt w0 a xs) (hlen : xs.length ≤ 281474976710656) (w : World) (hk0 : Below w0.heap.size w0 w) (h : Wr w0.heap.size b l bad w) (hl : l.length ≤ 80000000) :
    Calls Try.prog 97 #[.pointer (some ⟨b, 0, none⟩), .slice a xs.length cap] w fun e w' => PutsTo w0.heap.size b (rowB xs) (rowOk xs) 4820 l bad w e w' := by
  have HN := Lib.hid (allV_w w0 b l bad xs hok a cap hx hlen w hk0 h hl)
  clear h hx hok hk0
  go_enter Try.func97, Try.ntmps97
  go_wp2_with fail
  refine HN.out.mono ?_
  rintro e w1 ⟨rfl, h1⟩
  have H1 := Lib.hid h1
  clear h1
  go_wp2_with fail
  go_end0
  exact ⟨rfl, H1.out⟩

end Go.Proofs.Ytkdhchdhgmaolaa.Cd
