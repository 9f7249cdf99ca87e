/-
  The document's own answer for values: the text of any value.
-/
import Derived.Test.YtjndgfppjdobiaaGreatDoorVaPrint
namespace Go.Proofs.YtjndgfppjdobiaaGreatDoor.Va
open Go.RowKit

theorem decZ_len (n : Int) (h1 : -9223372036854775808 ≤ n) (h2 : n ≤ 9223372036854775807) : (decZ n).length ≤ 20 := by
  unfold decZ
  split
  · rw [List.length_cons]; have := digs_len19 n.natAbs (by omega); omega
  · have := digs_len19 n.toNat (by omega); omega
theorem numsT_snoc : ∀ (l : List Int) (n : Int), numsT (l ++ [n]) = if l = [] then decZ n else numsT l ++ 44 :: 32 :: decZ n
  | [], n => rfl
  | [m], n => rfl
  | m :: m2 :: r, n => by
    have ih := numsT_snoc (m2 :: r) n
    rw [if_neg (by simp)] at ih ⊢
    show decZ m ++ 44 :: 32 :: numsT ((m2 :: r) ++ [n]) = _
    rw [ih]
    show _ = (decZ m ++ 44 :: 32 :: numsT (m2 :: r)) ++ 44 :: 32 :: decZ n
    simp
theorem numsT_len (l : List Int) (h : ∀ n ∈ l, -9223372036854775808 ≤ n ∧ n ≤ 9223372036854775807) : (numsT l).length ≤ 22 * l.length := by
  induction l with
  | nil => simp [numsT]
  | cons n r ih =>
    have h1 := decZ_len n (h n (by simp)).1 (h n (by simp)).2
    have h2 := ih (fun m hm => h m (by simp [hm]))
    cases r with
    | nil => show (decZ n).length ≤ _; simp; omega
    | cons m r =>
      show (decZ n ++ 44 :: 32 :: numsT (m :: r)).length ≤ _
      simp only [List.length_append, List.length_cons] at h2 ⊢
      omega

/-- The bounds of what is among the arguments. -/
structure VIn (v : V) : Prop where
  num : -9223372036854775808 ≤ v.num ∧ v.num ≤ 9223372036854775807
  text : v.text.length ≤ 100000
  list : v.list.length ≤ 1000
  nums : ∀ n ∈ v.list, -9223372036854775808 ≤ n ∧ n ≤ 9223372036854775807

set_option linter.unusedSimpArgs false
set_option maxRecDepth 100000 in
set_option maxHeartbeats 3200000 in
theorem refPrint_list (n : Int) (t : List UInt8) (l : List Int) (hl : l.length ≤ 1000) (hn : ∀ n ∈ l, -9223372036854775808 ≤ n ∧ n ≤ 9223372036854775807) (a : Option Addr) (cap : Nat) (w : World) (hx : NumsAt w a l) :
    Calls Tryz.prog 43 #[valC ⟨5, n, t, l⟩ a cap] w fun e w' => e = .returned (.string (S (91 :: (numsT l ++ [93])))) ∧ Below w.heap.size w w' := by
  have HX := Lib.hid hx
  have HN := Lib.hid hn
  have HB0 := Lib.hid ((Below.refl w.heap.size w).alloc (Nat.le_refl _) (.cells #[.int .i64 5, .int .i64 n, .string (S t), .slice a l.length cap] 67))
  unfold valC
  simp only
  clear hx hn
  go_enter Tryz.func43, Tryz.ntmps43
  go_wp2_with fail
  go_loopw [6, 93] (fun s i wr => ∃ k : Nat, k ≤ l.length ∧ i = .int .i64 k ∧ s = .string (S (91 :: numsT (l.take k))) ∧ Below w.heap.size w wr) (fun _ i _ => l.length - (intOf i).toNat)
  case atStart => exact ⟨0, by omega, rfl, rfl, HB0.out⟩
  case round =>
    obtain ⟨k, hk, rfl, rfl, hb⟩ := hrel
    have HB := Lib.hid hb
    have hln := numsT_len (l.take k) (fun m hm => HN.out m (List.mem_of_mem_take hm))
    rw [List.length_take] at hln
    have hsz : (S (91 :: numsT (l.take k))).size ≤ 22001 := by rw [S_size, List.length_cons]; omega
    clear hb hln
    by_cases hlt : k < l.length
    · obtain ⟨g, off, rfl, hc, hgl⟩ := HX.out k hlt
      have r1 := (HB.out.cell (p := ⟨g, off + k, none⟩) hgl).trans hc
      have hm := HN.out (l.getD k 0) (by simp [List.getD, hlt])
      have hts : l.take (k + 1) = l.take k ++ [l.getD k 0] := by
        rw [List.take_succ_eq_append_getElem hlt]; simp [List.getD, hlt]
      have hsn := numsT_snoc (l.take k) (l.getD k 0)
      rw [← hts] at hsn
      have hdl := decZ_len _ hm.1 hm.2
      have hdec := fun w => dec_any (l.getD k 0) w hm.1 hm.2
      have HDEC := Lib.hid hdec
      have hki : (k : Int) < (l.length : Int) := by omega
      have hds : (S (decZ (l.getD k 0))).size ≤ 20 := by rw [S_size]; exact hdl
      have hS1 : S (decZ (l.getD k 0)) = S (decZ (l.getD k 0)) := rfl
      by_cases hk0 : k = 0
      · subst hk0
        rw [List.take_zero, if_pos rfl] at hsn
        have hres : S (91 :: numsT (l.take 0)) ++ S (decZ (l.getD 0 0)) = S (91 :: numsT (l.take (0 + 1))) := by
          rw [S_append, hsn]; rfl
        have hadd : ∀ w, (Op.stringOp .add (S (91 :: numsT (l.take 0))) (S (decZ (l.getD 0 0)))).run Tryz.prog w = .ok (.string (S (91 :: numsT (l.take (0 + 1))))) w := fun w => by
          rw [run_string_add_sum w _ _ (by omega), hres]
        have HADD := Lib.hid hadd
        clear hres hts hsn hdl hdec hm hS1 hc hadd
        generalize S (decZ (l.getD 0 0)) = d at *
        generalize S (91 :: numsT (l.take 0)) = s0 at *
        generalize hs1 : S (91 :: numsT (l.take (0 + 1))) = s1 at *
        have HS1 := Lib.hid hs1
        rw [Nat.add_zero] at r1
        clear hs1
        generalize l.getD 0 0 = u at *
        have hadd := HADD.out
        go_wp2_with fail
        refine (HDEC.out _).mono ?_
        rintro e w1 ⟨rfl, b1⟩
        have HB1 := Lib.hid (HB.out.trans (b1.mono HB.out.size))
        clear b1
        go_wp2_with fail
        go_roundw
        case rel => exact ⟨0 + 1, by omega, by go_num, by rw [HS1.out], HB1.out⟩
        case measure => simp [intOf]; omega
      · rw [if_neg (fun e => by have h7 : (l.take k).length = k := by { rw [List.length_take]; omega }
                                rw [e] at h7; exact hk0 h7.symm)] at hsn
        have hres1 : S (91 :: numsT (l.take k)) ++ (⟨#[44, 32]⟩ : ByteArray) = S (91 :: numsT (l.take k) ++ [44, 32]) := by
          show _ ++ S [44, 32] = _
          rw [S_append]
        have hsz2 : (S (91 :: numsT (l.take k) ++ [44, 32])).size ≤ 22003 := by
          rw [S_size] at hsz ⊢; rw [List.length_append]; simp only [List.length_cons, List.length_nil] at hsz ⊢; omega
        have hres2 : S (91 :: numsT (l.take k) ++ [44, 32]) ++ S (decZ (l.getD k 0)) = S (91 :: numsT (l.take (k + 1))) := by
          rw [S_append, hsn]; simp
        have hadd1 : ∀ w, (Op.stringOp .add (S (91 :: numsT (l.take k))) ⟨#[44, 32]⟩).run Tryz.prog w = .ok (.string (S (91 :: numsT (l.take k) ++ [44, 32]))) w := fun w => by
          rw [run_string_add_sum w _ _ (by have : (⟨#[44, 32]⟩ : ByteArray).size = 2 := rfl; omega), hres1]
        have hadd2 : ∀ w, (Op.stringOp .add (S (91 :: numsT (l.take k) ++ [44, 32])) (S (decZ (l.getD k 0)))).run Tryz.prog w = .ok (.string (S (91 :: numsT (l.take (k + 1))))) w := fun w => by
          rw [run_string_add_sum w _ _ (by omega), hres2]
        have hk1 : 0 < k := by omega
        clear hres1 hres2 hts hsn hdl hdec hm hS1 hc hk0
        generalize S (91 :: numsT (l.take k) ++ [44, 32]) = sm at *
        generalize S (decZ (l.getD k 0)) = d at *
        generalize S (91 :: numsT (l.take k)) = s0 at *
        generalize hs1 : S (91 :: numsT (l.take (k + 1))) = s1 at *
        have HS1 := Lib.hid hs1
        clear hs1
        generalize l.getD k 0 = u at *
        go_wp2_with fail
        refine (HDEC.out _).mono ?_
        rintro e w1 ⟨rfl, b1⟩
        have HB1 := Lib.hid (HB.out.trans (b1.mono HB.out.size))
        clear b1
        go_wp2_with fail
        go_roundw
        case rel => exact ⟨k + 1, by omega, by go_num, by rw [HS1.out], HB1.out⟩
        case measure => simp [intOf]; omega
    · obtain rfl : k = l.length := by omega
      rw [List.take_length] at hsz ⊢
      have hres : S (91 :: numsT l) ++ (⟨#[93]⟩ : ByteArray) = S (91 :: (numsT l ++ [93])) := by
        show _ ++ S [93] = _
        rw [S_append]; rfl
      have hadd : ∀ w, (Op.stringOp .add (S (91 :: numsT l)) ⟨#[93]⟩).run Tryz.prog w = .ok (.string (S (91 :: (numsT l ++ [93])))) w := fun w => by
        rw [run_string_add_sum w _ _ (by have : (⟨#[93]⟩ : ByteArray).size = 1 := rfl; omega), hres]
      clear hres
      go_wp2_with fail
      go_ret
      exact ⟨ret_s rfl, HB.out⟩

set_option maxRecDepth 100000 in
set_option maxHeartbeats 1600000 in
theorem refPrint_any (v : V) (ok : VIn v) (hr : rightB v = true) (a : Option Addr) (cap : Nat) (w : World) (hx : NumsAt w a v.list) :
    Calls Tryz.prog 43 #[valC v a cap] w fun e w' => e = .returned (.string (S (printV v))) ∧ Below w.heap.size w w' := by
  have hc := right_cases hr
  obtain ⟨k, n, t, l⟩ := v
  have h1 := ok.num
  have h2 := ok.text
  have h3 := ok.list
  have h4 := ok.nums
  simp only at h1 h2 h3 h4 hc hx
  clear ok hr
  rcases hc with ⟨rfl, rfl, rfl, rfl⟩ | ⟨rfl, rfl, rfl⟩ | ⟨rfl, hn, rfl, rfl⟩ | ⟨rfl, rfl, rfl⟩ | ⟨rfl, rfl, hnm, rfl⟩ | ⟨rfl, rfl, rfl⟩
  · clear h1 h2 h3 h4 hx
    unfold valC
    simp only
    go_enter Tryz.func43, Tryz.ntmps43
    go_wp2_with fail
    go_ret
    exact ⟨ret_s rfl, (Below.refl _ _).alloc (Nat.le_refl _) _⟩
  · have hd := fun w => dec_any n w h1.1 h1.2
    have HD := Lib.hid hd
    clear h1 h2 h3 h4 hx hd
    unfold valC
    simp only
    go_enter Tryz.func43, Tryz.ntmps43
    go_wp2_with fail
    refine (HD.out _).mono ?_
    rintro e w1 ⟨rfl, b1⟩
    have HB1 := Lib.hid (((Below.refl w.heap.size w).alloc (Nat.le_refl _) (.cells #[.int .i64 1, .int .i64 n, .string (S []), .slice a 0 cap] 67)).trans (b1.mono (by simp)))
    clear b1
    go_wp2_with fail
    go_ret
    exact ⟨ret_s rfl, HB1.out⟩
  · clear h1 h2 h3 h4 hx
    rcases hn with rfl | rfl
    all_goals
      unfold valC
      simp only
      go_enter Tryz.func43, Tryz.ntmps43
      go_wp2_with fail
      go_ret
      exact ⟨ret_s rfl, (Below.refl _ _).alloc (Nat.le_refl _) _⟩
  · exact refPrint_text 0 t [] h2 a cap w
  · have hres : (⟨#[39]⟩ : ByteArray) ++ S t = S (39 :: t) := by
      show S [39] ++ _ = _
      rw [S_append]; rfl
    have hts : (S t).size = t.length := S_size t
    have hadd : ∀ w, (Op.stringOp .add ⟨#[39]⟩ (S t)).run Tryz.prog w = .ok (.string (S (39 :: t))) w := fun w => by
      rw [run_string_add_sum w _ _ (by have : (⟨#[39]⟩ : ByteArray).size = 1 := rfl; omega), hres]
    clear h1 h2 h3 h4 hx hnm hres hts
    unfold valC
    simp only
    go_enter Tryz.func43, Tryz.ntmps43
    go_wp2_with fail
    go_ret
    exact ⟨ret_s rfl, (Below.refl _ _).alloc (Nat.le_refl _) _⟩
  · exact refPrint_list 0 [] l h3 h4 a cap w hx

end Go.Proofs.YtjndgfppjdobiaaGreatDoor.Va
