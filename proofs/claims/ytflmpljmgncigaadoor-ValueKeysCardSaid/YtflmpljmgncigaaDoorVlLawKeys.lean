/-
  ValueKeys, walked.
-/
import Derived.Test.YtflmpljmgncigaaDoorVlAwake
import Derived.Test.YtflmpljmgncigaaDoorVlOpen
namespace Go.Proofs.YtflmpljmgncigaaDoor.Va
open Go.RowKit

theorem vin_of {v : V} (h : VArg v) (hr : rightB v = true) : VIn v := by
  have hc := right_cases hr
  obtain ⟨⟨h1, h2⟩, h3, h4⟩ := h
  obtain ⟨k, n, t, l⟩ := v
  simp only at *
  refine ⟨h3, ?_, ?_, h4⟩ <;> simp only
  · rcases hc with ⟨rfl, rfl, rfl, rfl⟩ | ⟨rfl, rfl, rfl⟩ | ⟨rfl, hn, rfl, rfl⟩ | ⟨rfl, rfl, rfl⟩ | ⟨rfl, rfl, hnm, rfl⟩ | ⟨rfl, rfl, rfl⟩
    · simp
    · simp
    · simp
    · have : t.length ≤ 64 := by simpa [rightB] using hr
      omega
    · have := (nameB_ne hnm).2.1
      omega
    · simp
  · rcases hc with ⟨rfl, rfl, rfl, rfl⟩ | ⟨rfl, rfl, rfl⟩ | ⟨rfl, hn, rfl, rfl⟩ | ⟨rfl, rfl, rfl⟩ | ⟨rfl, rfl, hnm, rfl⟩ | ⟨rfl, rfl, rfl⟩
    · simp
    · simp
    · simp
    · simp
    · simp
    · have : l.length ≤ 16 := by simpa [rightB] using hr
      omega

set_option linter.unusedSimpArgs false
set_option maxRecDepth 100000 in
set_option maxHeartbeats 6400000 in
theorem ValueKeys_walk (xs : List V) (ax : Option Addr) (cx : Nat) (ys : List V) (ay : Option Addr) (cy : Nat) (w : World) (hlx : xs.length ≤ 9223372036854775807) (hx : ValsAt w ax xs) (okx : ∀ v ∈ xs, VArg v) (hly : ys.length ≤ 9223372036854775807) (hy : ValsAt w ay ys) (oky : ∀ v ∈ ys, VArg v) (htab : Tab w) :
    Calls Tryd.prog 7 #[.slice ax xs.length cx, .slice ay ys.length cy] w fun e w' => e = .returned (.bool true) ∧ Below w.heap.size w w' := by
  have HAW := Lib.hid (fun (wr : World) (h : Good w wr) => awake_any wr (htab.below h))
  have HTAB := Lib.hid htab
  have HG0 := Lib.hid (Good.refl w)
  have HX := Lib.hid hx
  have HY := Lib.hid hy
  have HOX := Lib.hid okx
  have HOY := Lib.hid oky
  clear htab hx hy okx oky
  by_cases h30 : 30 < xs.length ∨ 30 < ys.length
  · by_cases h30x : 30 < xs.length
    · have h1 : (30 : Int) < (xs.length : Int) := by omega
      clear h30
      go_enter Tryd.func7, Tryd.ntmps7
      go_wp2_with fail
      refine (HAW.out _ HG0.out).mono ?_
      rintro e w1 ⟨rfl, b1⟩
      have HG1 := Lib.hid (HG0.out.step b1)
      clear b1
      go_wp2_with fail
      refine (HAW.out _ HG1.out).mono ?_
      rintro e w2 ⟨rfl, b2⟩
      have HG2 := Lib.hid (HG1.out.step b2)
      clear b2
      go_wp2_with fail
      go_ret
      exact ⟨rfl, HG2.out⟩
    · have h1 : ¬ (30 : Int) < (xs.length : Int) := by omega
      have h2 : (30 : Int) < (ys.length : Int) := by omega
      clear h30
      go_enter Tryd.func7, Tryd.ntmps7
      go_wp2_with fail
      refine (HAW.out _ HG0.out).mono ?_
      rintro e w1 ⟨rfl, b1⟩
      have HG1 := Lib.hid (HG0.out.step b1)
      clear b1
      go_wp2_with fail
      refine (HAW.out _ HG1.out).mono ?_
      rintro e w2 ⟨rfl, b2⟩
      have HG2 := Lib.hid (HG1.out.step b2)
      clear b2
      go_wp2_with fail
      go_ret
      exact ⟨rfl, HG2.out⟩
  · have h1 : ¬ (30 : Int) < (xs.length : Int) := by omega
    have h2 : ¬ (30 : Int) < (ys.length : Int) := by omega
    have h1n : xs.length ≤ 30 := by omega
    have h2n : ys.length ≤ 30 := by omega
    clear h30
    go_enter Tryd.func7, Tryd.ntmps7
    go_wp2_with fail
    refine (HAW.out _ HG0.out).mono ?_
    rintro e w1 ⟨rfl, b1⟩
    have HG1 := Lib.hid (HG0.out.step b1)
    clear b1
    go_wp2_with fail
    have hw1 := heap_alloc_new w1 (.cells #[.slice ax xs.length cx, .slice ay ys.length cy] 31)
    have hgw : ∀ wr, Good (w1.alloc (.cells #[.slice ax xs.length cx, .slice ay ys.length cy] 31)) wr → Good w wr := fun wr h => (HG1.out.alloc _).step h
    generalize hW1 : w1.alloc (.cells #[.slice ax xs.length cx, .slice ay ys.length cy] 31) = W1 at *
    have HB := Lib.hid (fun (wr : World) (h : Good W1 wr) => (h.block w1.heap.size (lt_of_heapV hw1)).trans hw1)
    have HGW := Lib.hid hgw
    have HGS := Lib.hid (Good.refl W1)
    clear hw1 hgw hW1
    go_loopw [24] (fun i wr => ∃ k : Nat, k ≤ 2 ∧ i = .int .i64 k ∧ Good W1 wr ∧ Hid (1 ≤ k → xs.all rightB = true) ∧ Hid (2 ≤ k → ys.all rightB = true)) (fun i _ => 2 - (intOf i).toNat)
    case atStart => exact ⟨0, by omega, rfl, HGS.out, Lib.hid (fun h => absurd h (by omega)), Lib.hid (fun h => absurd h (by omega))⟩
    case round =>
      obtain ⟨k, hk, rfl, hg, HK1, HK2⟩ := hrel
      have HGR := Lib.hid hg
      have hbx := HB.out wr hg
      have q0 : wr.cell? ⟨w1.heap.size, 0, none⟩ = some (.slice ax xs.length cx) := (cell_of_row wr _ 0 _ _ (0, 0) hbx).trans rfl
      have q1 : wr.cell? ⟨w1.heap.size, 1, none⟩ = some (.slice ay ys.length cy) := (cell_of_row wr _ 1 _ _ (0, 0) hbx).trans rfl
      clear hg hbx
      have hkc : k = 0 ∨ k = 1 ∨ k = 2 := by omega
      rcases hkc with rfl | rfl | rfl
      · clear q1 hk
        rw [show ((0 : Nat) : Int) = 0 from rfl]
        go_wp2_with fail
        go_loopw [30] (fun i wr => ∃ j : Nat, j ≤ xs.length ∧ i = .int .i64 j ∧ Good W1 wr ∧ Hid ((xs.take j).all rightB = true)) (fun i _ => xs.length - (intOf i).toNat)
        case atStart => exact ⟨0, by omega, rfl, HGR.out, Lib.hid (by simp)⟩
        case round =>
          obtain ⟨j, hj, rfl, hg, HR⟩ := hrel
          have HGJ := Lib.hid hg
          clear hg
          by_cases hlt : j < xs.length
          · obtain ⟨b, off, rfl, hv, hgl⟩ := HX.out j hlt
            have hv2 := hv.below hgl (HGW.out _ HGJ.out)
            obtain ⟨a1, c1, p0, p1, p2, p3, pn⟩ := hv2
            have okv := HOX.out xs[j] (List.getElem_mem _)
            have hall : (xs.take (j + 1)).all rightB = ((xs.take j).all rightB && rightB xs[j]) := by
              rw [List.take_succ_eq_append_getElem hlt, List.all_append]
              simp only [List.all_cons, List.all_nil, Bool.and_true]
            rw [HR.out, Bool.true_and] at hall
            have HALL := Lib.hid hall
            have hji : (j : Int) < (xs.length : Int) := by omega
            generalize xs[j] = v at *
            obtain ⟨vk, vn, vt, vl⟩ := v
            simp only at p0 p1 p2 p3
            have hC := refRight_any ⟨vk, vn, vt, vl⟩ okv.ok a1 c1 (wr.alloc (boxO vk vn vt vl.length a1 c1))
            have HGB := Lib.hid (HGJ.out.alloc (boxO vk vn vt vl.length a1 c1))
            unfold valC at hC
            simp only at hC
            cases hr : rightB ⟨vk, vn, vt, vl⟩ with
            | true =>
              rw [hr] at hC
              have HC := Lib.hid hC
              have HRN := Lib.hid (show (xs.take (j + 1)).all rightB = true by rw [HALL.out, hr])
              clear hC hr okv pn hall hv
              go_wp2_with fail
              refine HC.out.mono ?_
              rintro e w5 ⟨rfl, b5⟩
              have HG5 := Lib.hid (HGB.out.step b5)
              clear b5
              go_wp2_with fail
              go_roundw
              case rel => exact ⟨j + 1, by omega, by go_num, HG5.out, HRN⟩
              case measure => simp [intOf]; omega
            | false =>
              rw [hr] at hC
              have HC := Lib.hid hC
              clear hC hr okv pn hall hv
              go_wp2_with fail
              refine HC.out.mono ?_
              rintro e w5 ⟨rfl, b5⟩
              have HG5 := Lib.hid (HGW.out _ (HGB.out.step b5))
              clear b5
              go_wp2_with fail
              refine (HAW.out _ HG5.out).mono ?_
              rintro e w6 ⟨rfl, b6⟩
              have HG6 := Lib.hid (HG5.out.step b6)
              clear b6
              go_wp2_with fail
              go_ret
              exact ⟨rfl, HG6.out⟩
          · obtain rfl : j = xs.length := by omega
            have HRA := Lib.hid (show xs.all rightB = true by have := HR.out; rwa [List.take_length] at this)
            go_wp2_with fail
            go_roundw
            case rel => exact ⟨1, by omega, rfl, HGJ.out, Lib.hid (fun _ => HRA.out), Lib.hid (fun h => absurd h (by omega))⟩
            case measure => simp [intOf]
      · clear q0 hk
        rw [show ((1 : Nat) : Int) = 1 from rfl]
        go_wp2_with fail
        go_loopw [30] (fun i wr => ∃ j : Nat, j ≤ ys.length ∧ i = .int .i64 j ∧ Good W1 wr ∧ Hid ((ys.take j).all rightB = true)) (fun i _ => ys.length - (intOf i).toNat)
        case atStart => exact ⟨0, by omega, rfl, HGR.out, Lib.hid (by simp)⟩
        case round =>
          obtain ⟨j, hj, rfl, hg, HR⟩ := hrel
          have HGJ := Lib.hid hg
          clear hg
          by_cases hlt : j < ys.length
          · obtain ⟨b, off, rfl, hv, hgl⟩ := HY.out j hlt
            have hv2 := hv.below hgl (HGW.out _ HGJ.out)
            obtain ⟨a1, c1, p0, p1, p2, p3, pn⟩ := hv2
            have okv := HOY.out ys[j] (List.getElem_mem _)
            have hall : (ys.take (j + 1)).all rightB = ((ys.take j).all rightB && rightB ys[j]) := by
              rw [List.take_succ_eq_append_getElem hlt, List.all_append]
              simp only [List.all_cons, List.all_nil, Bool.and_true]
            rw [HR.out, Bool.true_and] at hall
            have HALL := Lib.hid hall
            have hji : (j : Int) < (ys.length : Int) := by omega
            generalize ys[j] = v at *
            obtain ⟨vk, vn, vt, vl⟩ := v
            simp only at p0 p1 p2 p3
            have hC := refRight_any ⟨vk, vn, vt, vl⟩ okv.ok a1 c1 (wr.alloc (boxO vk vn vt vl.length a1 c1))
            have HGB := Lib.hid (HGJ.out.alloc (boxO vk vn vt vl.length a1 c1))
            unfold valC at hC
            simp only at hC
            cases hr : rightB ⟨vk, vn, vt, vl⟩ with
            | true =>
              rw [hr] at hC
              have HC := Lib.hid hC
              have HRN := Lib.hid (show (ys.take (j + 1)).all rightB = true by rw [HALL.out, hr])
              clear hC hr okv pn hall hv
              go_wp2_with fail
              refine HC.out.mono ?_
              rintro e w5 ⟨rfl, b5⟩
              have HG5 := Lib.hid (HGB.out.step b5)
              clear b5
              go_wp2_with fail
              go_roundw
              case rel => exact ⟨j + 1, by omega, by go_num, HG5.out, HRN⟩
              case measure => simp [intOf]; omega
            | false =>
              rw [hr] at hC
              have HC := Lib.hid hC
              clear hC hr okv pn hall hv
              go_wp2_with fail
              refine HC.out.mono ?_
              rintro e w5 ⟨rfl, b5⟩
              have HG5 := Lib.hid (HGW.out _ (HGB.out.step b5))
              clear b5
              go_wp2_with fail
              refine (HAW.out _ HG5.out).mono ?_
              rintro e w6 ⟨rfl, b6⟩
              have HG6 := Lib.hid (HG5.out.step b6)
              clear b6
              go_wp2_with fail
              go_ret
              exact ⟨rfl, HG6.out⟩
          · obtain rfl : j = ys.length := by omega
            have HRA := Lib.hid (show ys.all rightB = true by have := HR.out; rwa [List.take_length] at this)
            go_wp2_with fail
            go_roundw
            case rel => exact ⟨2, by omega, rfl, HGJ.out, Lib.hid (fun _ => HK1.out (by omega)), Lib.hid (fun _ => HRA.out)⟩
            case measure => simp [intOf]
      · rw [show ((2 : Nat) : Int) = 2 from rfl]
        have hrx := HK1.out (by omega)
        have hry := HK2.out (by omega)
        have HG2 := Lib.hid (HGW.out _ HGR.out)
        have inx : ∀ v ∈ xs, VIn v ∧ rightB v = true := fun v hv => ⟨vin_of (HOX.out v hv) (List.all_eq_true.1 hrx v hv), List.all_eq_true.1 hrx v hv⟩
        have iny : ∀ v ∈ ys, VIn v ∧ rightB v = true := fun v hv => ⟨vin_of (HOY.out v hv) (List.all_eq_true.1 hry v hv), List.all_eq_true.1 hry v hv⟩
        have HKX := Lib.hid (fun (wr : World) (h : Good w wr) => Key_any xs (by omega) inx ax cx wr (HX.out.below h) (HTAB.out.below h))
        have HKY := Lib.hid (fun (wr : World) (h : Good w wr) => Key_any ys (by omega) iny ay cy wr (HY.out.below h) (HTAB.out.below h))
        have HSA := Lib.hid (fun (wr : World) (h : Good w wr) => refSameAll_any xs ys (fun v hv => (HOX.out v hv).ok) (fun v hv => (HOY.out v hv).ok) (by omega) ax ay cx cy wr (HX.out.below h) (HY.out.below h))
        have hiff := fun (h1 : xs ≠ []) (h2 : ys ≠ []) => keyT_inj xs ys (fun v hv => (inx v hv).2) (fun v hv => (iny v hv).2) h1 h2
        have HIFF := Lib.hid hiff
        clear q0 q1 hrx hry inx iny hiff hk
        by_cases hx0 : xs = []
        · have e1 : ((xs.length : Int) == 0) = true := by rw [hx0]; rfl
          have e1n : (xs.length == 0) = true := by rw [hx0]; rfl
          have e1z : xs.length = 0 := by rw [hx0]; rfl
          clear hx0 e1z
          go_wp2_with fail
          refine (HAW.out _ HG2.out).mono ?_
          rintro e w3 ⟨rfl, b3⟩
          have HG3 := Lib.hid (HG2.out.step b3)
          clear b3
          go_wp2_with fail
          go_ret
          exact ⟨rfl, HG3.out⟩
        · have hxp : 0 < xs.length := List.length_pos_iff.2 hx0
          have e1 : ((xs.length : Int) == 0) = false := by simp; omega
          have e1n : (xs.length == 0) = false := by simp; omega
          by_cases hy0 : ys = []
          · have e2 : ((ys.length : Int) == 0) = true := by rw [hy0]; rfl
            have e2n : (ys.length == 0) = true := by rw [hy0]; rfl
            clear hy0 hx0
            go_wp2_with fail
            refine (HAW.out _ HG2.out).mono ?_
            rintro e w3 ⟨rfl, b3⟩
            have HG3 := Lib.hid (HG2.out.step b3)
            clear b3
            go_wp2_with fail
            go_ret
            exact ⟨rfl, HG3.out⟩
          · have hyp : 0 < ys.length := List.length_pos_iff.2 hy0
            have e2 : ((ys.length : Int) == 0) = false := by simp; omega
            have e2n : (ys.length == 0) = false := by simp; omega
            by_cases hxy : xs = ys
            · have k1 : ((S (keyT xs)).toList == (S (keyT ys)).toList) = true := by rw [hxy]; simp
              have hs : sameL xs ys = true := (sameL_iff _ _).2 hxy
              rw [hs] at HSA
              clear hxy hs hx0 hy0
              go_wp2_with fail
              refine (HAW.out _ HG2.out).mono ?_
              rintro e w3 ⟨rfl, b3⟩
              have HG3 := Lib.hid (HG2.out.step b3)
              clear b3
              go_wp2_with fail
              refine (HKX.out _ HG3.out).mono ?_
              rintro e w4 ⟨rfl, b4⟩
              have HG4 := Lib.hid (HG3.out.step b4)
              clear b4
              go_wp2_with fail
              refine (HKY.out _ HG4.out).mono ?_
              rintro e w5 ⟨rfl, b5⟩
              have HG5 := Lib.hid (HG4.out.step b5)
              clear b5
              go_wp2_with fail
              refine (HSA.out _ HG5.out).mono ?_
              rintro e w6 ⟨rfl, b6⟩
              have HG6 := Lib.hid (HG5.out.step b6)
              clear b6
              go_wp2_with fail
              go_ret
              exact ⟨rfl, HG6.out⟩
            · have k1 : ((S (keyT xs)).toList == (S (keyT ys)).toList) = false := by
                rw [S_beq, beq_eq_false_iff_ne]
                exact fun e => hxy (HIFF.out hx0 hy0 e)
              have hs : sameL xs ys = false := by
                cases e : sameL xs ys with
                | false => rfl
                | true => exact absurd ((sameL_iff _ _).1 e) hxy
              rw [hs] at HSA
              clear hxy hs hx0 hy0
              go_wp2_with fail
              refine (HAW.out _ HG2.out).mono ?_
              rintro e w3 ⟨rfl, b3⟩
              have HG3 := Lib.hid (HG2.out.step b3)
              clear b3
              go_wp2_with fail
              refine (HKX.out _ HG3.out).mono ?_
              rintro e w4 ⟨rfl, b4⟩
              have HG4 := Lib.hid (HG3.out.step b4)
              clear b4
              go_wp2_with fail
              refine (HKY.out _ HG4.out).mono ?_
              rintro e w5 ⟨rfl, b5⟩
              have HG5 := Lib.hid (HG4.out.step b5)
              clear b5
              go_wp2_with fail
              refine (HSA.out _ HG5.out).mono ?_
              rintro e w6 ⟨rfl, b6⟩
              have HG6 := Lib.hid (HG5.out.step b6)
              clear b6
              go_wp2_with fail
              go_ret
              exact ⟨rfl, HG6.out⟩

end Go.Proofs.YtflmpljmgncigaaDoor.Va
