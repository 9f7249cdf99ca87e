/-
  SeenGrows, walked.
-/
import Derived.Test.YtopaaokclfnhdaaSnE
import Derived.Test.YtopaaokclfnhdaaSnGr
namespace Go.Proofs.Ytopaaokclfnhdaa.Sn
open Go Go.RowKit
set_option linter.unusedVariables false
set_option linter.unusedSimpArgs false

set_option maxRecDepth 100000 in
set_option maxHeartbeats 8000000 in
theorem seenGrows_walk (ids : List Int) (a : Option Addr) (cap : Nat) (other : Int) (w : World) (hl : ids.length ≤ 17592186044416) (hx : Row w a ids cap) (hb : ∀ n ∈ ids, Num64 n) (ho : Num64 other) :
    Calls Try.prog 4 #[.slice a ids.length cap, .int .i64 other] w fun e w' => e = .returned (.bool true) ∧ Below w.heap.size w w' := by
  have HX := Lib.hid hx.1
  have hcap := hx.2
  have HAW := Lib.hid awake20_any
  clear hx hb
  go_enter Try.func4, Try.ntmps4
  go_wp2_with fail
  refine (HAW.out _).mono ?_
  rintro e w1 ⟨rfl, b1⟩
  have B1 := Lib.hid b1
  clear b1
  by_cases hbig : ids.length ≤ 100
  rotate_left
  · have hbi : (ids.length : Int) > 100 := by omega
    go_wp2_with fail
    refine (HAW.out _).mono ?_
    rintro e w2 ⟨rfl, b2⟩
    have B2 := Lib.hid (B1.out.trans (b2.mono B1.out.size))
    clear b2
    go_wp2_with fail
    go_ret
    exact ⟨rfl, B2.out⟩
  · have hbi : ¬ (ids.length : Int) > 100 := by omega
    clear ho
    go_wp2_with fail
    go_loopw [5, 6, 26] (fun lv tv iv wr => ∃ (k : Nat) (al : Option Addr) (cl : Nat), k ≤ ids.length ∧ lv = .slice al (gr (ids.take k)).length cl ∧ tv = .bool ((ids.take k).contains other) ∧ iv = .int .i64 k ∧ Row wr al (gr (ids.take k)) cl ∧ Below w.heap.size w wr) (fun _ _ iv _ => ids.length - (intOf iv).toNat)
    case atStart => exact ⟨0, none, 0, by omega, rfl, by simp, rfl, ⟨NumsAt.nil, Nat.le_refl _⟩, B1.out⟩
    case round =>
      obtain ⟨k, al, cl, hk, rfl, rfl, rfl, hrow, hbl⟩ := hrel
      by_cases hlt : k < ids.length
      · have hki : (k : Int) < (ids.length : Int) := by omega
        obtain ⟨b, off, rfl, hc, _⟩ := HX.out.below hbl k hlt
        obtain ⟨y, hy⟩ : ∃ y, y = ids.getD k 0 := ⟨_, rfl⟩
        have hgl := gr_len (ids.take k)
        have htk : (ids.take k).length ≤ 100 := by rw [List.length_take]; omega
        have hgt := gr_take ids k hlt
        have htl : (ids.take k).length < 100 := by rw [List.length_take]; omega
        have hadd := gr_add (ids.take k) y 100 (by omega)
        have hss := step_same (ids := ids.take k) (x := y)
        have hto := take_contains ids k hlt other
        rw [← hy] at hc hgt hto
        have HY := Lib.hid hy
        have HTO := Lib.hid hto
        have HGT := Lib.hid hgt
        have HBL := Lib.hid hbl
        have hs1 := fun W => cut_lo (some ⟨b, off, none⟩) ids.length cap k (by omega) W
        have HADD := Lib.hid (add_any (gr (ids.take k)) y 100 (by omega) al cl wr hrow)
        have HROW := Lib.hid hrow
        have HTC := Lib.hid (fun j (h : j < ids.length) => take_contains ids j h y)
        have HSS := Lib.hid hss
        clear hy hgl htk hgt htl hto hbl hrow hss
        obtain ⟨G, hG⟩ : ∃ G, G = gr (ids.take k) := ⟨_, rfl⟩
        rw [← hG] at hadd HGT HADD HROW HSS ⊢
        rw [hadd] at HADD
        have HG := Lib.hid hG
        clear hadd hG
        obtain ⟨T, hT⟩ : ∃ T, T = (ids.take k).contains other := ⟨_, rfl⟩
        rw [← hT] at HTO ⊢
        clear hT
        cases hC : (ids.take k).contains y with
        | true =>
          rw [hC, if_pos rfl] at HADD
          have HC := Lib.hid hC
          clear hC
          go_wp2_with fail
          refine HADD.out.mono ?_
          rintro e w3 ⟨⟨a3, c3, rfl, hrow3⟩, b3⟩
          have HR3 := Lib.hid hrow3
          have B3 := Lib.hid (HBL.out.trans (b3.mono HBL.out.size))
          have HRW := Lib.hid (HROW.out.below b3)
          have HXX := Lib.hid (HX.out.below B3.out)
          clear hrow3 b3 hc
          go_wp2_with fail
          go_loopw [11, 41] (fun tv iv wr' => ∃ j : Nat, j ≤ k ∧ tv = .bool ((ids.take j).contains y) ∧ iv = .int .i64 j ∧ wr' = w3) (fun _ iv _ => k - (intOf iv).toNat)
          case atStart => exact ⟨0, by omega, by simp, rfl, rfl⟩
          case round =>
            obtain ⟨j, hj, rfl, rfl, hw⟩ := hrel
            have hw2 := hw.symm
            subst hw2
            clear hw
            by_cases hjk : j < k
            · have hjki : (j : Int) < (k : Int) := by omega
              have hcj := nums_spot HXX.out j (by omega)
              have htc := HTC.out j (by omega)
              obtain ⟨z, hz⟩ : ∃ z, z = ids.getD j 0 := ⟨_, rfl⟩
              rw [← hz] at hcj htc
              have HT2 := Lib.hid htc
              clear htc hz
              cases hD : (ids.take j).contains y with
              | true =>
                rw [hD] at HT2
                clear hD
                go_wp2_with fail
                go_roundw
                case rel => exact ⟨j + 1, by omega, by rw [HT2.out]; rfl, by go_num, by trivial⟩
                case measure => simp [intOf]; omega
              | false =>
                rw [hD] at HT2
                clear hD
                go_wp2_with fail
                go_roundw
                case rel => exact ⟨j + 1, by omega, by rw [HT2.out]; simp, by go_num, by trivial⟩
                case measure => simp [intOf]; omega
            · have hje : j = k := by omega
              have hjki : ¬ (j : Int) < (k : Int) := by omega
              subst hje
              rw [HC.out]
              cases T with
              | true =>
                go_wp2_with fail
                go_roundw
                case rel =>
                  have hst : gr (ids.take (j + 1)) = G := by rw [HGT.out]; exact (by rw [HG.out]; exact step_same HC.out)
                  exact ⟨j + 1, al, cl, by omega, by rw [hst], by rw [HTO.out]; rfl, by go_num, by rw [hst]; exact HRW.out, B3.out⟩
                case measure => simp [intOf]; omega
              | false =>
                go_wp2_with fail
                go_roundw
                case rel =>
                  have hst : gr (ids.take (j + 1)) = G := by rw [HGT.out]; exact (by rw [HG.out]; exact step_same HC.out)
                  exact ⟨j + 1, al, cl, by omega, by rw [hst], by rw [HTO.out]; simp, by go_num, by rw [hst]; exact HRW.out, B3.out⟩
                case measure => simp [intOf]; omega
        | false =>
          rw [hC, if_neg (by simp)] at HADD
          have HC := Lib.hid hC
          clear hC
          go_wp2_with fail
          refine HADD.out.mono ?_
          rintro e w3 ⟨⟨a3, c3, rfl, hrow3⟩, b3⟩
          have HR3 := Lib.hid hrow3
          have B3 := Lib.hid (HBL.out.trans (b3.mono HBL.out.size))
          have HRW := Lib.hid (HROW.out.below b3)
          have HXX := Lib.hid (HX.out.below B3.out)
          clear hrow3 b3 hc
          go_wp2_with fail
          go_loopw [11, 41] (fun tv iv wr' => ∃ j : Nat, j ≤ k ∧ tv = .bool ((ids.take j).contains y) ∧ iv = .int .i64 j ∧ wr' = w3) (fun _ iv _ => k - (intOf iv).toNat)
          case atStart => exact ⟨0, by omega, by simp, rfl, rfl⟩
          case round =>
            obtain ⟨j, hj, rfl, rfl, hw⟩ := hrel
            have hw2 := hw.symm
            subst hw2
            clear hw
            by_cases hjk : j < k
            · have hjki : (j : Int) < (k : Int) := by omega
              have hcj := nums_spot HXX.out j (by omega)
              have htc := HTC.out j (by omega)
              obtain ⟨z, hz⟩ : ∃ z, z = ids.getD j 0 := ⟨_, rfl⟩
              rw [← hz] at hcj htc
              have HT2 := Lib.hid htc
              clear htc hz
              cases hD : (ids.take j).contains y with
              | true =>
                rw [hD] at HT2
                clear hD
                go_wp2_with fail
                go_roundw
                case rel => exact ⟨j + 1, by omega, by rw [HT2.out]; rfl, by go_num, by trivial⟩
                case measure => simp [intOf]; omega
              | false =>
                rw [hD] at HT2
                clear hD
                go_wp2_with fail
                go_roundw
                case rel => exact ⟨j + 1, by omega, by rw [HT2.out]; simp, by go_num, by trivial⟩
                case measure => simp [intOf]; omega
            · have hje : j = k := by omega
              have hjki : ¬ (j : Int) < (k : Int) := by omega
              subst hje
              rw [HC.out]
              cases T with
              | true =>
                go_wp2_with fail
                go_roundw
                case rel => exact ⟨j + 1, a3, c3, by omega, by rw [HGT.out], by rw [HTO.out]; rfl, by go_num, by rw [HGT.out]; exact HR3.out, B3.out⟩
                case measure => simp [intOf]; omega
              | false =>
                go_wp2_with fail
                go_roundw
                case rel => exact ⟨j + 1, a3, c3, by omega, by rw [HGT.out], by rw [HTO.out]; simp, by go_num, by rw [HGT.out]; exact HR3.out, B3.out⟩
                case measure => simp [intOf]; omega
      · have hke : k = ids.length := by omega
        have hki : ¬ (k : Int) < (ids.length : Int) := by omega
        subst hke
        rw [List.take_length] at hrow ⊢
        have hgl := gr_len ids
        have HE := Lib.hid (gr_end ids other)
        have HKN := Lib.hid (gr_known ids)
        have HUP := Lib.hid (gr_up ids)
        have HIN := Lib.hid (fun i (h : i < ids.length) => getD_contains (l := ids) h)
        obtain ⟨G, hG⟩ : ∃ G, G = gr ids := ⟨_, rfl⟩
        rw [← hG] at hrow hgl HE HKN HUP ⊢
        have HROW := Lib.hid hrow
        have HBL := Lib.hid hbl
        have HXX := Lib.hid (HX.out.below hbl)
        clear hrow hbl hG
        have HKO := Lib.hid (HKN.out other)
        obtain ⟨T, hT⟩ : ∃ T, T = ids.contains other := ⟨_, rfl⟩
        rw [← hT] at HE HKO ⊢
        clear hT
        go_wp2_with fail
        go_loopw [76] (fun iv wr' => ∃ j : Nat, j ≤ ids.length ∧ iv = .int .i64 j ∧ wr' = wr) (fun iv _ => ids.length - (intOf iv).toNat)
        case atStart => exact ⟨0, by omega, rfl, rfl⟩
        case round =>
          obtain ⟨j, hj, rfl, hw⟩ := hrel
          have hw2 := hw.symm
          subst hw2
          clear hw
          by_cases hjk : j < ids.length
          · have hjki : (j : Int) < (ids.length : Int) := by omega
            obtain ⟨b, off, rfl, hcj, _⟩ := HXX.out j hjk
            have hin := HIN.out j hjk
            obtain ⟨z, hz⟩ : ∃ z, z = ids.getD j 0 := ⟨_, rfl⟩
            rw [← hz] at hcj hin
            have HK := Lib.hid (known_any G z (by omega) al cl wr HROW.out.1)
            rw [HKN.out, hin] at HK
            clear hz hin
            go_wp2_with fail
            refine HK.out.mono ?_
            rintro e w4 ⟨rfl, rfl⟩
            go_wp2_with fail
            go_roundw
            case rel => exact ⟨j + 1, by omega, by go_num, by trivial⟩
            case measure => simp [intOf]; omega
          · have hje : j = ids.length := by omega
            have hjki : ¬ (j : Int) < (ids.length : Int) := by omega
            subst hje
            clear HKN
            cases T with
            | true =>
              rw [if_pos rfl] at HE
              have HA := Lib.hid (add_any G other (G.length : Int) (by omega) al cl wr HROW.out)
              rw [HE.out] at HA
              go_wp2_with fail
              refine HA.out.mono ?_
              rintro e w4 ⟨⟨a4, c4, rfl, hrow4⟩, b4⟩
              have B4 := Lib.hid (HBL.out.trans (b4.mono HBL.out.size))
              have HR4 := Lib.hid (HROW.out.below b4)
              clear hrow4 b4
              go_wp2_with fail
              refine (HAW.out _).mono ?_
              rintro e w5 ⟨rfl, b5⟩
              have B5 := Lib.hid (B4.out.trans (b5.mono B4.out.size))
              have HR5 := Lib.hid (HR4.out.below b5)
              clear b5
              go_wp2_with fail
              refine (right_any G (by omega) al cl w5 HR5.out.1).mono ?_
              rintro e w6 ⟨rfl, rfl⟩
              rw [HUP.out]
              have HK2 := Lib.hid (known_any G other (by omega) al cl w5 HR5.out.1)
              rw [HKO.out] at HK2
              go_wp2_with fail
              refine HK2.out.mono ?_
              rintro e w6 ⟨rfl, rfl⟩
              go_wp2_with fail
              go_ret
              exact ⟨rfl, B5.out⟩
            | false =>
              rw [if_neg (by simp)] at HE
              have HA := Lib.hid (add_any G other (G.length : Int) (by omega) al cl wr HROW.out)
              rw [HE.out] at HA
              go_wp2_with fail
              refine HA.out.mono ?_
              rintro e w4 ⟨⟨a4, c4, rfl, hrow4⟩, b4⟩
              have B4 := Lib.hid (HBL.out.trans (b4.mono HBL.out.size))
              have HR4 := Lib.hid (HROW.out.below b4)
              clear hrow4 b4
              go_wp2_with fail
              refine (HAW.out _).mono ?_
              rintro e w5 ⟨rfl, b5⟩
              have B5 := Lib.hid (B4.out.trans (b5.mono B4.out.size))
              have HR5 := Lib.hid (HR4.out.below b5)
              clear b5
              go_wp2_with fail
              refine (right_any G (by omega) al cl w5 HR5.out.1).mono ?_
              rintro e w6 ⟨rfl, rfl⟩
              rw [HUP.out]
              have HK2 := Lib.hid (known_any G other (by omega) al cl w5 HR5.out.1)
              rw [HKO.out] at HK2
              go_wp2_with fail
              refine HK2.out.mono ?_
              rintro e w6 ⟨rfl, rfl⟩
              go_wp2_with fail
              go_ret
              exact ⟨rfl, B5.out⟩

end Go.Proofs.Ytopaaokclfnhdaa.Sn
