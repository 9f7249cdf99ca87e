/-
  The document's own answer for values: the key of a row.
-/
import Derived.Test.YtipabjefkbgjbaaDoorVaRows
namespace Go.Proofs.YtipabjefkbgjbaaDoor.Va
open Go.RowKit

theorem keyT_snoc : ∀ (l : List V) (v : V), keyT (l ++ [v]) = if l = [] then printV v else keyT l ++ 44 :: printV v
  | [], v => rfl
  | [m], v => rfl
  | m :: m2 :: r, v => by
    have ih := keyT_snoc (m2 :: r) v
    rw [if_neg (by simp)] at ih ⊢
    show printV m ++ 44 :: keyT ((m2 :: r) ++ [v]) = _
    rw [ih]
    show _ = (printV m ++ 44 :: keyT (m2 :: r)) ++ 44 :: printV v
    simp
theorem printV_len (v : V) (ok : VIn v) : (printV v).length ≤ 500000 := by
  have h1 := decZ_len v.num ok.num.1 ok.num.2
  have h2 := escT_len v.text
  have h3 := numsT_len v.list ok.nums
  have h4 := ok.text
  have h5 := ok.list
  unfold printV
  split
  · omega
  · split
    · split <;> simp
    · split
      · simp only [List.length_cons, List.length_append, List.length_nil]; omega
      · split
        · simp only [List.length_cons]; omega
        · split
          · simp only [List.length_cons, List.length_append, List.length_nil]; omega
          · simp
theorem keyT_len (l : List V) (h : ∀ v ∈ l, VIn v) : (keyT l).length ≤ 500001 * l.length := by
  induction l with
  | nil => simp [keyT]
  | cons v r ih =>
    have h1 := printV_len v (h v (by simp))
    have h2 := ih (fun m hm => h m (by simp [hm]))
    cases r with
    | nil => show (printV v).length ≤ _; simp; omega
    | cons m r =>
      show (printV v ++ 44 :: keyT (m :: r)).length ≤ _
      simp only [List.length_append, List.length_cons] at h2 ⊢
      omega

set_option linter.unusedSimpArgs false
set_option maxRecDepth 100000 in
set_option maxHeartbeats 3200000 in
theorem refKey_any (vs : List V) (hn : vs.length ≤ 1000) (ok : ∀ v ∈ vs, VIn v ∧ rightB v = true) (a : Option Addr) (cap : Nat) (w : World) (hx : ValsAt w a vs) :
    Calls Tryd.prog 14 #[.slice a vs.length cap] w fun e w' => e = .returned (.string (S (keyT vs))) ∧ Below w.heap.size w w' := by
  have HX := Lib.hid hx
  have HOK := Lib.hid ok
  clear hx ok
  go_enter Tryd.func14, Tryd.ntmps14
  go_wp2_with fail
  go_loopw [3, 8] (fun s i wr => ∃ k : Nat, k ≤ vs.length ∧ i = .int .i64 k ∧ s = .string (S (keyT (vs.take k))) ∧ Below w.heap.size w wr) (fun _ i _ => vs.length - (intOf i).toNat)
  case atStart => exact ⟨0, by omega, rfl, rfl, Below.refl _ _⟩
  case round =>
    obtain ⟨k, hk, rfl, rfl, hb⟩ := hrel
    have HB := Lib.hid hb
    have hln := keyT_len (vs.take k) (fun m hm => (HOK.out m (List.mem_of_mem_take hm)).1)
    rw [List.length_take] at hln
    have hsz : (S (keyT (vs.take k))).size ≤ 500001000 := by
      rw [S_size]
      have : 500001 * min k vs.length ≤ 500001 * 1000 := Nat.mul_le_mul_left _ (by omega)
      omega
    clear hb hln
    by_cases hlt : k < vs.length
    · obtain ⟨g, off, rfl, hv, hgl⟩ := HX.out k hlt
      obtain ⟨a1, c1, p0, p1, p2, p3, pn⟩ := hv.below hgl HB.out
      obtain ⟨okv, hrv⟩ := HOK.out vs[k] (List.getElem_mem _)
      have hpl := printV_len vs[k] okv
      have hts : vs.take (k + 1) = vs.take k ++ [vs[k]] := List.take_succ_eq_append_getElem hlt
      have hsn := keyT_snoc (vs.take k) vs[k]
      rw [← hts] at hsn
      have hki : (k : Int) < (vs.length : Int) := by omega
      clear hv hts
      generalize vs[k] = x at *
      have hds : (S (printV x)).size ≤ 500000 := by rw [S_size]; exact hpl
      have hcall := refPrint_any x okv hrv a1 c1 (wr.alloc (.cells #[.int .i64 x.kind, .int .i64 x.num, .string (S x.text), .slice a1 x.list.length c1] 26)) (pn.below ((Below.refl _ _).alloc (Nat.le_refl _) _))
      have HB0 := Lib.hid (HB.out.alloc HB.out.size (.cells #[.int .i64 x.kind, .int .i64 x.num, .string (S x.text), .slice a1 x.list.length c1] 26))
      simp only [valC] at hcall
      have HC := Lib.hid hcall
      clear hcall okv hrv pn hpl
      by_cases hk0 : k = 0
      · subst hk0
        rw [List.take_zero, if_pos rfl] at hsn
        have hadd : ∀ w, (Op.stringOp .add (S (keyT (vs.take 0))) (S (printV x))).run Tryd.prog w = .ok (.string (S (keyT (vs.take (0 + 1))))) w := fun w => by
          rw [run_string_add_sum w _ _ (by omega), S_append, hsn]; rfl
        have HADD := Lib.hid hadd
        clear hsn hadd
        generalize hs1 : S (keyT (vs.take (0 + 1))) = s1 at *
        have HS1 := Lib.hid hs1
        clear hs1
        generalize S (printV x) = d at *
        generalize S (keyT (vs.take 0)) = s0 at *
        simp only [Nat.zero_mul, Nat.add_zero] at p0 p1 p2 p3
        obtain ⟨xk, xn, xt, xl⟩ := x
        simp only at p0 p1 p2 p3
        have hadd := HADD.out
        go_wp2_with fail
        refine HC.out.mono ?_
        rintro e w1 ⟨rfl, b1⟩
        have HB1 := Lib.hid (HB0.out.trans (b1.mono HB0.out.size))
        clear b1
        go_wp2_with fail
        go_roundw
        case rel => exact ⟨0 + 1, by omega, by go_num, by rw [HS1.out], HB1.out⟩
        case measure => simp [intOf]; omega
      · rw [if_neg (fun e => by have h7 : (vs.take k).length = k := by { rw [List.length_take]; omega }
                                rw [e] at h7; exact hk0 h7.symm)] at hsn
        have hres1 : S (keyT (vs.take k)) ++ (⟨#[44]⟩ : ByteArray) = S (keyT (vs.take k) ++ [44]) := by
          show _ ++ S [44] = _
          rw [S_append]
        have hsz2 : (S (keyT (vs.take k) ++ [44])).size ≤ 500001001 := by
          rw [S_size] at hsz ⊢; rw [List.length_append]; simp only [List.length_cons, List.length_nil]; omega
        have hres2 : S (keyT (vs.take k) ++ [44]) ++ S (printV x) = S (keyT (vs.take (k + 1))) := by
          rw [S_append, hsn]; simp
        have hadd1 : ∀ w, (Op.stringOp .add (S (keyT (vs.take k))) ⟨#[44]⟩).run Tryd.prog w = .ok (.string (S (keyT (vs.take k) ++ [44]))) w := fun w => by
          rw [run_string_add_sum w _ _ (by have : (⟨#[44]⟩ : ByteArray).size = 1 := rfl; omega), hres1]
        have hadd2 : ∀ w, (Op.stringOp .add (S (keyT (vs.take k) ++ [44])) (S (printV x))).run Tryd.prog w = .ok (.string (S (keyT (vs.take (k + 1))))) w := fun w => by
          rw [run_string_add_sum w _ _ (by omega), hres2]
        have hk1 : 0 < k := by omega
        clear hres1 hres2 hsn hk0
        generalize S (keyT (vs.take k) ++ [44]) = sm at *
        generalize hs1 : S (keyT (vs.take (k + 1))) = s1 at *
        have HS1 := Lib.hid hs1
        clear hs1
        generalize S (printV x) = d at *
        generalize S (keyT (vs.take k)) = s0 at *
        obtain ⟨xk, xn, xt, xl⟩ := x
        simp only at p0 p1 p2 p3
        go_wp2_with fail
        refine HC.out.mono ?_
        rintro e w1 ⟨rfl, b1⟩
        have HB1 := Lib.hid (HB0.out.trans (b1.mono HB0.out.size))
        clear b1
        go_wp2_with fail
        go_roundw
        case rel => exact ⟨k + 1, by omega, by go_num, by rw [HS1.out], HB1.out⟩
        case measure => simp [intOf]; omega
    · obtain rfl : k = vs.length := by omega
      have HS := Lib.hid (show S (keyT (vs.take vs.length)) = S (keyT vs) by rw [List.take_length])
      generalize S (keyT (vs.take vs.length)) = s0 at *
      go_wp2_with fail
      go_ret
      exact ⟨ret_s HS.out, HB.out⟩

end Go.Proofs.YtipabjefkbgjbaaDoor.Va
