/-
  SeenAnyhow, walked.
-/
import Derived.Test.YtopaaokclfnhdaaSnE
import Derived.Test.YtopaaokclfnhdaaSnGr
namespace Go.Proofs.Ytopaaokclfnhdaa.Sn
open Go Go.RowKit
set_option linter.unusedVariables false
set_option linter.unusedSimpArgs false

set_option maxRecDepth 100000 in
set_option maxHeartbeats 8000000 in
theorem seenAnyhow_walk (ids : List Int) (a : Option Addr) (cap : Nat) (w : World) (hl : ids.length ≤ 17592186044416) (hx : Row w a ids cap) (hb : ∀ n ∈ ids, Num64 n) :
    Calls Try.prog 5 #[.slice a ids.length cap] w fun e w' => e = .returned (.bool true) ∧ Below w.heap.size w w' := by
  have HX := Lib.hid hx.1
  have hcap := hx.2
  have HAW := Lib.hid awake20_any
  clear hx hb
  go_enter Try.func5, Try.ntmps5
  go_wp2_with fail
  refine (HAW.out _).mono ?_
  rintro e w1 ⟨rfl, b1⟩
  have B1 := Lib.hid b1
  clear b1
  by_cases hbig : ids.length ≤ 100
  rotate_left
  · have hbi : (ids.length : Int) > 100 := by omega
    go_wp2_with fail
    refine (HAW.out _).mono ?_
    rintro e w2 ⟨rfl, b2⟩
    have B2 := Lib.hid (B1.out.trans (b2.mono B1.out.size))
    clear b2
    go_wp2_with fail
    go_ret
    exact ⟨rfl, B2.out⟩
  · have hbi : ¬ (ids.length : Int) > 100 := by omega
    go_wp2_with fail
    go_loopw [3, 4, 18] (fun lv mv iv wr => ∃ (k : Nat) (al : Option Addr) (cl : Nat) (am : Option Addr) (cm : Nat), k ≤ ids.length ∧ lv = .slice al (gr (ids.take k)).length cl ∧ mv = .slice am (gr (ids.reverse.take k)).length cm ∧ iv = .int .i64 k ∧ Row wr al (gr (ids.take k)) cl ∧ Row wr am (gr (ids.reverse.take k)) cm ∧ Below w.heap.size w wr) (fun _ _ iv _ => ids.length - (intOf iv).toNat)
    case atStart => exact ⟨0, none, 0, none, 0, by omega, rfl, rfl, rfl, ⟨NumsAt.nil, Nat.le_refl _⟩, ⟨NumsAt.nil, Nat.le_refl _⟩, B1.out⟩
    case round =>
      obtain ⟨k, al, cl, am, cm, hk, rfl, rfl, rfl, hrow, hrowm, hbl⟩ := hrel
      by_cases hlt : k < ids.length
      · have hki : (k : Int) < (ids.length : Int) := by omega
        obtain ⟨b, off, rfl, hc, _⟩ := HX.out.below hbl k hlt
        obtain ⟨y, hy⟩ : ∃ y, y = ids.getD k 0 := ⟨_, rfl⟩
        have hgl := gr_len (ids.take k)
        have htl : (ids.take k).length < 100 := by rw [List.length_take]; omega
        have hgt := gr_take ids k hlt
        have hadd := gr_add (ids.take k) y 100 (by omega)
        rw [← hy] at hc hgt
        have hlr : k < ids.reverse.length := by rw [List.length_reverse]; exact hlt
        have hgm := gr_len (ids.reverse.take k)
        have htm : (ids.reverse.take k).length < 100 := by rw [List.length_take, List.length_reverse]; omega
        have hgn := gr_take ids.reverse k hlr
        rw [getD_reverse ids k hlt] at hgn
        obtain ⟨z, hz⟩ : ∃ z, z = ids.getD (ids.length - 1 - k) 0 := ⟨_, rfl⟩
        have hadm := gr_add (ids.reverse.take k) z 100 (by omega)
        rw [← hz] at hgn
        have HZ := Lib.hid hz
        have HGT := Lib.hid hgt
        have HGN := Lib.hid hgn
        have HBL := Lib.hid hbl
        have hidx : ((ids.length : Int) - 1) - (k : Int) = ((ids.length - 1 - k : Nat) : Int) := by omega
        have hidx2 : ids.length - 1 - k < ids.length := by omega
        have hidx3 : ((ids.length - 1 - k : Nat) : Int) < (ids.length : Int) := by omega
        have HADD := Lib.hid (add_any (gr (ids.take k)) y 100 (by omega) al cl wr hrow)
        have HROW := Lib.hid hrow
        have HROM := Lib.hid hrowm
        have HADM := Lib.hid (fun W (h : Row W am (gr (ids.reverse.take k)) cm) => add_any (gr (ids.reverse.take k)) z 100 (by omega) am cm W h)
        clear hy hz hgl hgm htl htm hgt hgn hbl hrow hrowm hlr
        rw [hadd] at HADD
        rw [hadm] at HADM
        have HSC := Lib.hid (step_same (ids := ids.take k) (x := y))
        have HSD := Lib.hid (step_same (ids := ids.reverse.take k) (x := z))
        obtain ⟨G, hG⟩ : ∃ G, G = gr (ids.take k) := ⟨_, rfl⟩
        rw [← hG] at HADD HGT HROW HSC ⊢
        obtain ⟨M, hM⟩ : ∃ M, M = gr (ids.reverse.take k) := ⟨_, rfl⟩
        rw [← hM] at HADM HGN HROM HSD ⊢
        clear hadd hadm hG hM
        obtain ⟨n2, hn2⟩ : ∃ n2, n2 = ids.length - 1 - k := ⟨_, rfl⟩
        rw [← hn2] at HZ hidx hidx2 hidx3
        clear hn2
        cases hC : (ids.take k).contains y with
        | true =>
          rw [hC, if_pos rfl] at HADD
          have HC := Lib.hid hC
          clear hC
          go_wp2_with fail
          refine HADD.out.mono ?_
          rintro e w3 ⟨⟨a3, c3, rfl, hrow3⟩, b3⟩
          have HR3 := Lib.hid hrow3
          have B3 := Lib.hid (HBL.out.trans (b3.mono HBL.out.size))
          have HRW := Lib.hid (HROW.out.below b3)
          have HRM := Lib.hid (HROM.out.below b3)
          have hcn := nums_spot (HX.out.below B3.out) n2 hidx2
          rw [← HZ.out] at hcn
          have HAM := Lib.hid (HADM.out w3 HRM.out)
          clear hrow3 b3 hc
          cases hD : (ids.reverse.take k).contains z with
          | true =>
            rw [hD, if_pos rfl] at HAM
            have HD := Lib.hid hD
            clear hD
            go_wp2_with fail
            refine HAM.out.mono ?_
            rintro e w4 ⟨⟨a4, c4, rfl, hrow4⟩, b4⟩
            have HR4 := Lib.hid hrow4
            have B4 := Lib.hid (B3.out.trans (b4.mono B3.out.size))
            have HRW4 := Lib.hid (HRW.out.below b4)
            have HR34 := Lib.hid (HR3.out.below b4)
            have HRM4 := Lib.hid (HRM.out.below b4)
            clear hrow4 b4
            go_wp2_with fail
            go_roundw
            case rel =>
              have h1 : gr (ids.take (k + 1)) = G := by rw [HGT.out]; exact HSC.out HC.out
              have h2 : gr (ids.reverse.take (k + 1)) = M := by rw [HGN.out]; exact HSD.out HD.out
              exact ⟨k + 1, al, cl, am, cm, by omega, by rw [h1], by rw [h2], by go_num, by rw [h1]; exact HRW4.out, by rw [h2]; exact HRM4.out, B4.out⟩
            case measure => simp [intOf]; omega
          | false =>
            rw [hD, if_neg (by simp)] at HAM
            have HD := Lib.hid hD
            clear hD
            go_wp2_with fail
            refine HAM.out.mono ?_
            rintro e w4 ⟨⟨a4, c4, rfl, hrow4⟩, b4⟩
            have HR4 := Lib.hid hrow4
            have B4 := Lib.hid (B3.out.trans (b4.mono B3.out.size))
            have HRW4 := Lib.hid (HRW.out.below b4)
            have HR34 := Lib.hid (HR3.out.below b4)
            have HRM4 := Lib.hid (HRM.out.below b4)
            clear hrow4 b4
            go_wp2_with fail
            go_roundw
            case rel =>
              have h1 : gr (ids.take (k + 1)) = G := by rw [HGT.out]; exact HSC.out HC.out
              have h2 := HGN.out
              exact ⟨k + 1, al, cl, a4, c4, by omega, by rw [h1], by rw [h2], by go_num, by rw [h1]; exact HRW4.out, by rw [h2]; exact HR4.out, B4.out⟩
            case measure => simp [intOf]; omega
        | false =>
          rw [hC, if_neg (by simp)] at HADD
          have HC := Lib.hid hC
          clear hC
          go_wp2_with fail
          refine HADD.out.mono ?_
          rintro e w3 ⟨⟨a3, c3, rfl, hrow3⟩, b3⟩
          have HR3 := Lib.hid hrow3
          have B3 := Lib.hid (HBL.out.trans (b3.mono HBL.out.size))
          have HRW := Lib.hid (HROW.out.below b3)
          have HRM := Lib.hid (HROM.out.below b3)
          have hcn := nums_spot (HX.out.below B3.out) n2 hidx2
          rw [← HZ.out] at hcn
          have HAM := Lib.hid (HADM.out w3 HRM.out)
          clear hrow3 b3 hc
          cases hD : (ids.reverse.take k).contains z with
          | true =>
            rw [hD, if_pos rfl] at HAM
            have HD := Lib.hid hD
            clear hD
            go_wp2_with fail
            refine HAM.out.mono ?_
            rintro e w4 ⟨⟨a4, c4, rfl, hrow4⟩, b4⟩
            have HR4 := Lib.hid hrow4
            have B4 := Lib.hid (B3.out.trans (b4.mono B3.out.size))
            have HRW4 := Lib.hid (HRW.out.below b4)
            have HR34 := Lib.hid (HR3.out.below b4)
            have HRM4 := Lib.hid (HRM.out.below b4)
            clear hrow4 b4
            go_wp2_with fail
            go_roundw
            case rel =>
              have h1 := HGT.out
              have h2 : gr (ids.reverse.take (k + 1)) = M := by rw [HGN.out]; exact HSD.out HD.out
              exact ⟨k + 1, a3, c3, am, cm, by omega, by rw [h1], by rw [h2], by go_num, by rw [h1]; exact HR34.out, by rw [h2]; exact HRM4.out, B4.out⟩
            case measure => simp [intOf]; omega
          | false =>
            rw [hD, if_neg (by simp)] at HAM
            have HD := Lib.hid hD
            clear hD
            go_wp2_with fail
            refine HAM.out.mono ?_
            rintro e w4 ⟨⟨a4, c4, rfl, hrow4⟩, b4⟩
            have HR4 := Lib.hid hrow4
            have B4 := Lib.hid (B3.out.trans (b4.mono B3.out.size))
            have HRW4 := Lib.hid (HRW.out.below b4)
            have HR34 := Lib.hid (HR3.out.below b4)
            have HRM4 := Lib.hid (HRM.out.below b4)
            clear hrow4 b4
            go_wp2_with fail
            go_roundw
            case rel =>
              have h1 := HGT.out
              have h2 := HGN.out
              exact ⟨k + 1, a3, c3, a4, c4, by omega, by rw [h1], by rw [h2], by go_num, by rw [h1]; exact HR34.out, by rw [h2]; exact HR4.out, B4.out⟩
            case measure => simp [intOf]; omega
      · have hke : k = ids.length := by omega
        have hki : ¬ (k : Int) < (ids.length : Int) := by omega
        subst hke
        have hrt : ids.reverse.take ids.length = ids.reverse := by rw [← List.length_reverse, List.take_length]
        rw [hrt, ← gr_reverse] at hrowm ⊢
        rw [List.take_length] at hrow ⊢
        have hgl := gr_len ids
        have HROW := Lib.hid hrow
        have HROM := Lib.hid hrowm
        have HBL := Lib.hid hbl
        clear hrow hrowm hbl hrt
        obtain ⟨G, hG⟩ : ∃ G, G = gr ids := ⟨_, rfl⟩
        rw [← hG] at HROW HROM hgl ⊢
        clear hG
        go_wp2_with fail
        refine (HAW.out _).mono ?_
        rintro e w5 ⟨rfl, b5⟩
        have B5 := Lib.hid (HBL.out.trans (b5.mono HBL.out.size))
        have HR5 := Lib.hid (HROW.out.below b5)
        have HM5 := Lib.hid (HROM.out.below b5)
        clear b5
        go_wp2_with fail
        refine (same_any G G (by omega) al am cl cm w5 HR5.out.1 HM5.out.1).mono ?_
        rintro e w6 ⟨rfl, b6⟩
        rw [decide_eq_true (show G = G from rfl)]
        have B6 := Lib.hid (B5.out.trans (b6.mono B5.out.size))
        clear b6
        go_wp2_with fail
        go_ret
        exact ⟨rfl, B6.out⟩

end Go.Proofs.Ytopaaokclfnhdaa.Sn
