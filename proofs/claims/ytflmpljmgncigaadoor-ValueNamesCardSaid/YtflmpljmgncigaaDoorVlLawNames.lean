/-
  ValueNames, walked.
-/
import Derived.Test.YtflmpljmgncigaaDoorVlAwake
namespace Go.Proofs.YtflmpljmgncigaaDoor.Va
open Go.RowKit

theorem wordS (c : UInt8) : (letB c || (c == 95 || (decide (48 ≤ c.toNat) && decide (c.toNat ≤ 57)))) = wordB c := by
  have : ∀ i : Fin 256, (letB (UInt8.ofNat i.val) || (UInt8.ofNat i.val == 95 || (decide (48 ≤ (UInt8.ofNat i.val).toNat) && decide ((UInt8.ofNat i.val).toNat ≤ 57)))) = wordB (UInt8.ofNat i.val) := by decide +kernel
  have h := this ⟨c.toNat, c.toNat_lt⟩
  simpa using h

set_option maxRecDepth 100000 in
set_option maxHeartbeats 3200000 in
theorem ValueNames_walk (s t : ByteArray) (cut : Int) (hs : s.size ≤ maxLen) (ht : t.size ≤ 140737488355328) (hc : (Lit.int .i64 cut).wf) (w : World) (htab : Tab w) :
    Calls Tryd.prog 8 #[.string s, .string t, .int .i64 cut] w fun e w' => e = .returned (.bool true) ∧ Below w.heap.size w w' := by
  unfold maxLen at hs
  have hcw : -9223372036854775808 ≤ cut ∧ cut ≤ 9223372036854775807 := by simp [Lit.wf, IntKind.min, IntKind.max, IntKind.signed, IntKind.bits] at hc; omega
  have HAW := Lib.hid (fun (wr : World) (h : Good w wr) => awake_any wr (htab.below h))
  have HNM := Lib.hid (fun (x : ByteArray) (hx : x.size ≤ 9223372036854775807) (wr : World) => Name_any x hx wr)
  have HG0 := Lib.hid (Good.refl w)
  clear hc htab
  cases hn : nameB s.data.toList with
  | false =>
    have hN := HNM.out s hs
    rw [hn] at hN
    have HN := Lib.hid hN
    clear hN hn
    go_enter Tryd.func8, Tryd.ntmps8
    go_wp2_with fail
    refine (HAW.out _ HG0.out).mono ?_
    rintro e w1 ⟨rfl, b1⟩
    have HG1 := Lib.hid (HG0.out.step b1)
    clear b1
    go_wp2_with fail
    refine (HN.out _).mono ?_
    rintro e w2 ⟨rfl, b2⟩
    have HG2 := Lib.hid (HG1.out.step b2)
    clear b2
    go_wp2_with fail
    refine (HAW.out _ HG2.out).mono ?_
    rintro e w3 ⟨rfl, b3⟩
    have HG3 := Lib.hid (HG2.out.step b3)
    clear b3
    go_wp2_with fail
    go_ret
    exact ⟨rfl, HG3.out⟩
  | true =>
    have hN := HNM.out s hs
    rw [hn] at hN
    have HN := Lib.hid hN
    have hne := nameB_ne hn
    have hsz : 0 < s.size ∧ s.size ≤ 24 := by
      rw [← list_size s]
      exact ⟨List.length_pos_iff.2 hne.1, hne.2.1⟩
    clear hN hne
    have hs0 : (0 : Int) < (s.size : Int) := by omega
    have hs24 : (s.size : Int) ≤ 24 := by omega
    obtain ⟨k, hk, hk1, hk2⟩ : ∃ k : Nat, wrap64 (1 + wrap64 ((IntKind.u64.wrap cut).tmod (s.size : Int))) = (k : Int) ∧ 1 ≤ k ∧ k ≤ s.size := by
      have h0 : 0 ≤ IntKind.u64.wrap cut := by rw [IntKind.wrap_u64]; omega
      have h1 := Int.emod_nonneg (IntKind.u64.wrap cut) (show (s.size : Int) ≠ 0 by omega)
      have h2 := Int.emod_lt_of_pos (IntKind.u64.wrap cut) hs0
      rw [Int.tmod_eq_emod_of_nonneg h0]
      generalize (IntKind.u64.wrap cut) % (s.size : Int) = m at *
      rw [show wrap64 m = m by unfold wrap64; omega, show wrap64 (1 + m) = 1 + m by unfold wrap64; omega]
      exact ⟨(1 + m).toNat, by omega, by omega, by omega⟩
    have hls := list_size s
    have hN1 : ∀ wr : World, Calls Tryd.prog 14 #[.string (s.extract 0 k)] wr fun e w' => e = .returned (.bool true) ∧ Below wr.heap.size wr w' := fun wr => by
      have := HNM.out (s.extract 0 k) (by rw [ByteArray.size_extract]; omega) wr
      rwa [S_extract, S_toList, List.drop_zero, Nat.sub_zero, nameB_take _ hn k hk1, ← List.drop_zero (l := s.data.toList), ← Nat.sub_zero k, ← S_extract] at this
    obtain ⟨s1, hs1⟩ : ∃ s1, s1 = (⟨#[49]⟩ : ByteArray) ++ s := ⟨_, rfl⟩
    obtain ⟨s2, hs2⟩ : ∃ s2, s2 = (⟨#[95]⟩ : ByteArray) ++ s := ⟨_, rfl⟩
    obtain ⟨st, hst⟩ : ∃ st, st = s ++ t := ⟨_, rfl⟩
    have z1 : s1.size = 1 + s.size := by rw [hs1, ByteArray.size_append]; rfl
    have z2 : s2.size = 1 + s.size := by rw [hs2, ByteArray.size_append]; rfl
    have z3 : st.size = s.size + t.size := by rw [hst, ByteArray.size_append]
    have hN2 : ∀ wr : World, Calls Tryd.prog 14 #[.string s1] wr fun e w' => e = .returned (.bool false) ∧ Below wr.heap.size wr w' := fun wr => by
      have := HNM.out s1 (by omega) wr
      rwa [show s1.data.toList = 49 :: s.data.toList by rw [hs1]; simp, nameB_one] at this
    have hN3 : ∀ wr : World, Calls Tryd.prog 14 #[.string s2] wr fun e w' => e = .returned (.bool false) ∧ Below wr.heap.size wr w' := fun wr => by
      have := HNM.out s2 (by omega) wr
      rwa [show s2.data.toList = 95 :: s.data.toList by rw [hs2]; simp, nameB_low] at this
    have hN4 : ∀ wr : World, Calls Tryd.prog 14 #[.string st] wr fun e w' => e = .returned (.bool (decide (st.size ≤ 24) && t.data.toList.all wordB)) ∧ Below wr.heap.size wr w' := fun wr => by
      have := HNM.out st (by omega) wr
      rwa [show st.data.toList = s.data.toList ++ t.data.toList by rw [hst]; simp, nameB_append _ _ hn, List.length_append, hls, list_size, ← z3] at this
    have a1 : ∀ w, (Op.stringOp .add ⟨#[49]⟩ s).run Tryd.prog w = .ok (.string s1) w := fun w => by
      rw [run_string_add_sum w _ _ (by have : (⟨#[49]⟩ : ByteArray).size = 1 := rfl; omega), hs1]
    have a2 : ∀ w, (Op.stringOp .add ⟨#[95]⟩ s).run Tryd.prog w = .ok (.string s2) w := fun w => by
      rw [run_string_add_sum w _ _ (by have : (⟨#[95]⟩ : ByteArray).size = 1 := rfl; omega), hs2]
    have a3 : ∀ w, (Op.stringOp .add s t).run Tryd.prog w = .ok (.string st) w := fun w => by
      rw [run_string_add_sum w _ _ (by omega), hst]
    have HN1 := Lib.hid hN1
    have HN2 := Lib.hid hN2
    have HN3 := Lib.hid hN3
    have HN4 := Lib.hid hN4
    have A1 := Lib.hid a1
    have A2 := Lib.hid a2
    have HZ3 := Lib.hid z3
    have hti : (t.size : Int) ≤ 140737488355328 := by omega
    have hki1 : (1 : Int) ≤ (k : Int) := by omega
    have hki2 : (k : Int) ≤ (s.size : Int) := by omega
    have hkn : (k : Int).toNat = k := rfl
    have hsti : (0 : Int) ≤ (st.size : Int) := by omega
    have HOK0 := Lib.hid (show (decide (st.size ≤ 24) && (t.data.toList.take 0).all wordB) = decide ((st.size : Int) ≤ 24) by
      rw [List.take_zero, List.all_nil, Bool.and_true, Bool.eq_iff_iff]; simp; omega)
    have HSTEP := Lib.hid (fun (j : Nat) (hj : j < t.size) => show ((t.data.toList.take (j + 1)).all wordB) = ((t.data.toList.take j).all wordB && wordB t[j]) by
      rw [List.take_succ_eq_append_getElem (by simpa using hj), List.all_append]
      simp only [List.all_cons, List.all_nil, Bool.and_true]; rfl)
    have HNK := Lib.hid (fun (j : Nat) (hj : j < t.size) (wr : World) => show Calls Tryd.prog 14 #[.string (t.extract j (j + 1))] wr fun e w' => e = .returned (.bool (letB t[j])) ∧ Below wr.heap.size wr w' from by
      have := HNM.out (t.extract j (j + 1)) (by rw [ByteArray.size_extract]; omega) wr
      have e : (t.extract j (j + 1)).data.toList = [t[j]] := by
        rw [S_extract, S_toList, show j + 1 - j = 1 by omega, List.take_one]
        rw [List.head?_drop, List.getElem?_eq_getElem (by simpa using hj)]
        rfl
      rwa [e, nameB_single] at this)
    clear hs1 hs2 hst z1 z2 z3 hN1 hN2 hN3 hN4 a1 a2 hls hn
    go_enter Tryd.func8, Tryd.ntmps8
    go_wp2_with fail
    refine (HAW.out _ HG0.out).mono ?_
    rintro e w1 ⟨rfl, b1⟩
    have HG1 := Lib.hid (HG0.out.step b1)
    clear b1
    go_wp2_with fail
    refine (HN.out _).mono ?_
    rintro e w2 ⟨rfl, b2⟩
    have HG2 := Lib.hid (HG1.out.step b2)
    clear b2
    go_wp2_with fail
    rw [hk]
    clear hk
    go_loopw [8, 31] (fun ok i wr => ∃ j : Nat, j ≤ t.size ∧ i = .int .i64 j ∧ ok = .bool (decide (st.size ≤ 24) && (t.data.toList.take j).all wordB) ∧ Good w wr) (fun _ i _ => t.size - (intOf i).toNat)
    case atStart => exact ⟨0, by omega, rfl, by rw [HOK0.out], HG2.out⟩
    case round =>
      obtain ⟨j, hj, rfl, rfl, hg⟩ := hrel
      have HG := Lib.hid hg
      clear hg
      by_cases hlt : j < t.size
      · have hstep := HSTEP.out j hlt
        have HNJ := Lib.hid (HNK.out j hlt)
        have hji : (j : Int) < (t.size : Int) := by omega
        have hw := wordS t[j]
        have hb95 : (((t[j]).toNat : Int) == 95) = (t[j] == 95) := by
          rw [Bool.eq_iff_iff]; simp only [beq_iff_eq]
          exact ⟨fun e => UInt8.toNat_inj.1 (show (t[j]).toNat = 95 by omega), fun e => by rw [e]; rfl⟩
        have HST := Lib.hid hstep
        have HW := Lib.hid hw
        have HB95 := Lib.hid hb95
        clear hstep hw hb95
        cases hok : (decide (st.size ≤ 24) && (t.data.toList.take j).all wordB) with
        | false =>
          have HOK := Lib.hid hok
          clear hok
          go_wp2_with fail
          go_roundw
          case rel => exact ⟨j + 1, by omega, by go_num, by rw [HST.out, ← Bool.and_assoc, HOK.out]; rfl, HG.out⟩
          case measure => simp [intOf]; omega
        | true =>
          have HOK := Lib.hid hok
          clear hok
          cases hlb : letB t[j] with
          | true =>
            rw [hlb] at HNJ
            have HWT := Lib.hid (show wordB t[j] = true by rw [← HW.out, hlb]; rfl)
            clear hlb
            go_wp2_with fail
            refine (HNJ.out _).mono ?_
            rintro e w3 ⟨rfl, b3⟩
            have HG3 := Lib.hid (HG.out.step b3)
            clear b3
            go_wp2_with fail
            go_roundw
            case rel => exact ⟨j + 1, by omega, by go_num, by rw [HST.out, ← Bool.and_assoc, HOK.out, HWT.out]; rfl, HG3.out⟩
            case measure => simp [intOf]; omega
          | false =>
            rw [hlb] at HNJ
            have hw2 := HW.out
            rw [hlb, Bool.false_or] at hw2
            clear hlb
            cases h95 : (t[j] == 95) with
            | true =>
              have q1 := HB95.out
              rw [h95] at q1
              rw [h95, Bool.true_or] at hw2
              have HWT := Lib.hid hw2.symm
              clear h95 hw2
              go_wp2_with fail
              refine (HNJ.out _).mono ?_
              rintro e w3 ⟨rfl, b3⟩
              have HG3 := Lib.hid (HG.out.step b3)
              clear b3
              go_wp2_with fail
              go_roundw
              case rel => exact ⟨j + 1, by omega, by go_num, by rw [HST.out, ← Bool.and_assoc, HOK.out, HWT.out]; rfl, HG3.out⟩
              case measure => simp [intOf]; omega
            | false =>
              have q1 := HB95.out
              rw [h95] at q1
              rw [h95, Bool.false_or] at hw2
              have HW2 := Lib.hid hw2
              clear h95 hw2
              by_cases h48 : 48 ≤ (t[j]).toNat
              · have h48i : (48 : Int) ≤ ((t[j]).toNat : Int) := by omega
                by_cases h57 : (t[j]).toNat ≤ 57
                · have h57i : ((t[j]).toNat : Int) ≤ 57 := by omega
                  have HWT := Lib.hid (show wordB t[j] = true by rw [← HW2.out]; simp [h48, h57])
                  go_wp2_with fail
                  refine (HNJ.out _).mono ?_
                  rintro e w3 ⟨rfl, b3⟩
                  have HG3 := Lib.hid (HG.out.step b3)
                  clear b3
                  go_wp2_with fail
                  go_roundw
                  case rel => exact ⟨j + 1, by omega, by go_num, by rw [HST.out, ← Bool.and_assoc, HOK.out, HWT.out]; rfl, HG3.out⟩
                  case measure => simp [intOf]; omega
                · have h57i : ¬ ((t[j]).toNat : Int) ≤ 57 := by omega
                  have h57b : decide (((t[j]).toNat : Int) ≤ 57) = false := by simp; omega
                  have HWT := Lib.hid (show wordB t[j] = false by rw [← HW2.out]; simp [h57])
                  go_wp2_with fail
                  refine (HNJ.out _).mono ?_
                  rintro e w3 ⟨rfl, b3⟩
                  have HG3 := Lib.hid (HG.out.step b3)
                  clear b3
                  go_wp2_with fail
                  go_roundw
                  case rel => exact ⟨j + 1, by omega, by go_num, by rw [HST.out, ← Bool.and_assoc, HOK.out, HWT.out]; rfl, HG3.out⟩
                  case measure => simp [intOf]; omega
              · have h48i : ¬ (48 : Int) ≤ ((t[j]).toNat : Int) := by omega
                have HWT := Lib.hid (show wordB t[j] = false by rw [← HW2.out]; simp [h48])
                go_wp2_with fail
                refine (HNJ.out _).mono ?_
                rintro e w3 ⟨rfl, b3⟩
                have HG3 := Lib.hid (HG.out.step b3)
                clear b3
                go_wp2_with fail
                go_roundw
                case rel => exact ⟨j + 1, by omega, by go_num, by rw [HST.out, ← Bool.and_assoc, HOK.out, HWT.out]; rfl, HG3.out⟩
                case measure => simp [intOf]; omega
      · obtain rfl : j = t.size := by omega
        rw [List.take_of_length_le (by simp)]
        generalize (decide (st.size ≤ 24) && t.data.toList.all wordB) = fin at *
        have a1 := A1.out
        have a2 := A2.out
        go_wp2_with fail
        refine (HAW.out _ HG.out).mono ?_
        rintro e w3 ⟨rfl, b3⟩
        have HG3 := Lib.hid (HG.out.step b3)
        clear b3
        go_wp2_with fail
        refine (HN1.out _).mono ?_
        rintro e w4 ⟨rfl, b4⟩
        have HG4 := Lib.hid (HG3.out.step b4)
        clear b4
        go_wp2_with fail
        refine (HN2.out _).mono ?_
        rintro e w5 ⟨rfl, b5⟩
        have HG5 := Lib.hid (HG4.out.step b5)
        clear b5
        go_wp2_with fail
        refine (HN3.out _).mono ?_
        rintro e w6 ⟨rfl, b6⟩
        have HG6 := Lib.hid (HG5.out.step b6)
        clear b6
        by_cases h100 : (100 : Int) < (t.size : Int)
        · go_wp2_with fail
          go_ret
          exact ⟨rfl, HG6.out⟩
        · go_wp2_with fail
          refine (HN4.out _).mono ?_
          rintro e w7 ⟨rfl, b7⟩
          have HG7 := Lib.hid (HG6.out.step b7)
          clear b7
          go_wp2_with fail
          go_ret
          exact ⟨ret_b (by cases fin <;> rfl), HG7.out⟩

theorem ValueNames_door (s t : ByteArray) (cut : Int) (w : World) (hs : s.size ≤ maxLen) (_ : s.size ≤ 140737488355328) (_ : t.size ≤ maxLen) (ht : t.size ≤ 140737488355328) (hc : (Lit.int .i64 cut).wf) (htab : Tab w) :
    Calls Tryd.prog 8 #[.string s, .string t, .int .i64 cut] w fun e w' => e = .returned (.bool true) ∧ Below w.heap.size w w' := ValueNames_walk s t cut hs ht hc w htab

end Go.Proofs.YtflmpljmgncigaaDoor.Va
