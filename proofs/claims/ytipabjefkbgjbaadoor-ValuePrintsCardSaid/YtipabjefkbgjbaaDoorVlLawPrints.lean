/-
  The law ValuePrints.
-/
import Derived.Test.YtipabjefkbgjbaaDoorVlMut
import Derived.Test.YtipabjefkbgjbaaDoorVlAwake
import Derived.Deep.RegionHeld3
namespace Go.Proofs.YtipabjefkbgjbaaDoor.Va
open Go.RowKit

theorem Blk.box (w : World) (x : V) (a : Option Addr) (c : Nat) (w' : World) (h : Good (w.alloc (boxO x.kind x.num x.text x.list.length a c)) w') :
    w'.cell? ⟨w.heap.size, 0, none⟩ = some (.int .i64 x.kind) ∧ w'.cell? ⟨w.heap.size, 1, none⟩ = some (.int .i64 x.num) ∧ w'.cell? ⟨w.heap.size, 2, none⟩ = some (.string (S x.text)) ∧ w'.cell? ⟨w.heap.size, 3, none⟩ = some (.slice a x.list.length c) := by
  have h0 := heap_alloc_new w (boxO x.kind x.num x.text x.list.length a c)
  have h1 := (h.block w.heap.size (lt_of_heapV h0)).trans h0
  exact ⟨(cell_of_row w' _ 0 _ _ (0, 0) h1).trans rfl, (cell_of_row w' _ 1 _ _ (0, 0) h1).trans rfl, (cell_of_row w' _ 2 _ _ (0, 0) h1).trans rfl, (cell_of_row w' _ 3 _ _ (0, 0) h1).trans rfl⟩

set_option linter.unusedSimpArgs false
set_option maxRecDepth 100000 in
set_option maxHeartbeats 6400000 in
theorem ValuePrints_walk (vs : List V) (a : Option Addr) (cap : Nat) (w : World) (hn : vs.length ≤ maxLen) (hx : ValsAt w a vs) (va : ∀ v ∈ vs, VArg v) (htab : Tab w) :
    Calls Tryd.prog 3 #[.slice a vs.length cap] w fun e w' => e = .returned (.bool true) ∧ Below w.heap.size w w' := by
  unfold maxLen at hn
  have HX := Lib.hid hx
  have HVA := Lib.hid va
  have HTAB := Lib.hid htab
  have HAW := Lib.hid (fun (wr : World) (h : Below w.heap.size w wr) => awake_any wr (htab.below h))
  clear hx va htab
  go_enter Tryd.func3, Tryd.ntmps3
  go_wp2_with fail
  refine (HAW.out _ (Below.refl _ _)).mono ?_
  rintro e w1 ⟨rfl, b1⟩
  have B1 := Lib.hid b1
  clear b1
  go_wp2_with fail
  go_loopw [13] (fun i wr => ∃ k : Nat, k ≤ vs.length ∧ i = .int .i64 k ∧ Hid ((∀ j v, vs[j]? = some v → j < k → rightB v = true) ∧ (0 < k → vs.length ≤ 50)) ∧ Below w.heap.size w wr) (fun i _ => vs.length - (intOf i).toNat)
  case atStart => exact ⟨0, by omega, rfl, Lib.hid ⟨fun j v _ h => absurd h (by omega), fun h => absurd h (by omega)⟩, B1.out⟩
  case round =>
    obtain ⟨k, hk, rfl, HR, hb⟩ := hrel
    have HB := Lib.hid hb
    by_cases hlt : k < vs.length
    · obtain ⟨b, off, e', hv, hgl⟩ := (HX.out.below hb) k hlt
      have hvk : vs[k]? = some vs[k] := List.getElem?_eq_getElem hlt
      have hav := HVA.out vs[k] (List.getElem_mem _)
      have hki : (k : Int) < (vs.length : Int) := by omega
      subst e'
      generalize vs[k] = x at *
      obtain ⟨a1, c1, p0, p1, p2, p3, pn⟩ := hv
      have HVK := Lib.hid hvk
      have HAV := Lib.hid hav
      obtain ⟨W1, hW1⟩ : ∃ W1, W1 = wr.alloc (boxO x.kind x.num x.text x.list.length a1 c1) := ⟨_, rfl⟩
      have HW1 := Lib.hid hW1
      have hB0 : Below wr.heap.size wr W1 := by rw [hW1]; exact (Below.refl wr.heap.size wr).alloc (Nat.le_refl _) _
      have HKP := Lib.hid (fun (w7 : World) (h : Good W1 w7) => Blk.box wr x a1 c1 w7 (by rw [← hW1]; exact h))
      have HBB := Lib.hid (fun (w7 : World) (h : Good W1 w7) => show Below w.heap.size w w7 from (hb.trans (hB0.mono hb.size)).trans (h.mono (Nat.le_trans hb.size hB0.size)))
      have HRT := Lib.hid (fun (w7 : World) (h : Good W1 w7) => (refRight_any x hav.ok a1 c1 w7).mono fun e w8 (⟨he, hbb⟩ : _ ∧ _) => (⟨he, h.step hbb⟩ : e = _ ∧ Good W1 w8))
      have HG1 := Lib.hid (Good.refl W1)
      have HPN := Lib.hid (fun (w7 : World) (h : Good W1 w7) => show NumsAt w7 a1 x.list from (pn.below hB0).below h)
      clear hvk hav hW1 hB0 pn hgl hb
      by_cases h50 : 50 < vs.length
      · have h50i : (50 : Int) < (vs.length : Int) := by omega
        clear HRT
        obtain ⟨xk, xn, xt, xl⟩ := x
        simp only at p0 p1 p2 p3
        go_wp2_with fail
        have hw1 := HW1.out
        unfold boxO at hw1
        rw [← hw1]
        refine (HAW.out _ (HBB.out _ HG1.out)).mono ?_
        rintro e w3 ⟨rfl, b3⟩
        have HB3 := Lib.hid (HBB.out _ (HG1.out.step b3))
        clear b3 hw1
        go_wp2_with fail
        go_ret
        exact ⟨rfl, HB3.out⟩
      · have h50i : ¬ (50 : Int) < (vs.length : Int) := by omega
        cases hrx : rightB x with
        | false =>
          rw [hrx] at HRT
          clear hrx
          obtain ⟨xk, xn, xt, xl⟩ := x
          unfold valC at HRT
          simp only at p0 p1 p2 p3 HRT
          go_wp2_with fail
          have hw1 := HW1.out
          unfold boxO at hw1
          rw [← hw1]
          clear hw1
          refine (HRT.out _ HG1.out).mono ?_
          rintro e w3 ⟨rfl, g3⟩
          have HG3 := Lib.hid g3
          clear g3
          go_wp2_with fail
          refine (HAW.out _ (HBB.out _ HG3.out)).mono ?_
          rintro e w4 ⟨rfl, b4⟩
          have HB4 := Lib.hid (HBB.out _ (HG3.out.step b4))
          clear b4
          go_wp2_with fail
          go_ret
          exact ⟨rfl, HB4.out⟩
        | true =>
          rw [hrx] at HRT
          have HPP := Lib.hid (fun (w7 : World) (h : Good W1 w7) => (Print_any x (vin_arg HAV.out hrx) hrx a1 c1 w7 (HPN.out w7 h) (HTAB.out.below (HBB.out w7 h))).mono fun e w8 (⟨he, hbb⟩ : _ ∧ _) => (⟨he, h.step hbb⟩ : e = _ ∧ Good W1 w8))
          have HPR := Lib.hid (fun (w7 : World) (h : Good W1 w7) => (refPrint_any x (vin_arg HAV.out hrx) hrx a1 c1 w7 (HPN.out w7 h)).mono fun e w8 (⟨he, hbb⟩ : _ ∧ _) => (⟨he, h.step hbb⟩ : e = _ ∧ Good W1 w8))
          have HRN := Lib.hid (show (∀ j v, vs[j]? = some v → j < k + 1 → rightB v = true) ∧ (0 < k + 1 → vs.length ≤ 50) from ⟨fun j v hv hj => by
            by_cases e : j = k
            · subst e
              obtain rfl := Option.some.inj (hv.symm.trans HVK.out)
              exact hrx
            · exact HR.out.1 j v hv (by omega), fun _ => by omega⟩)
          obtain ⟨p, hp⟩ : ∃ p, S (printV x) = p := ⟨_, rfl⟩
          rw [hp] at HPP HPR
          have hpp : (p.toList == p.toList) = true := by simp
          clear hrx hp HVK HAV
          obtain ⟨xk, xn, xt, xl⟩ := x
          unfold valC at HRT HPP HPR
          simp only at p0 p1 p2 p3 HRT HPP HPR HKP
          go_wp2_with fail
          have hw1 := HW1.out
          unfold boxO at hw1
          rw [← hw1]
          clear hw1
          refine (HRT.out _ HG1.out).mono ?_
          rintro e w3 ⟨rfl, g3⟩
          have HG3 := Lib.hid g3
          clear g3
          go_wp2_with fail
          have HST := Lib.hid (HKP.out _ HG3.out.drew)
          go_region_held3 (fun w7 => (w7.cell? ⟨wr.heap.size, 0, none⟩ = some (.int .i64 xk) ∧ w7.cell? ⟨wr.heap.size, 1, none⟩ = some (.int .i64 xn) ∧ w7.cell? ⟨wr.heap.size, 2, none⟩ = some (.string (S xt)) ∧ w7.cell? ⟨wr.heap.size, 3, none⟩ = some (.slice a1 xl.length c1)))
            (first | assumption | exact HST.out | exact HK7.out)
            (first
              | (go_at_call 9; with_reducible refine (HPP.out _ (by first | exact good_id (by assumption) | exact good_drew (by assumption))).mono ?_; rintro e w7 ⟨rfl, b7⟩; have HG7 := Lib.hid b7; have HK7 := Lib.hid (HKP.out _ b7); clear b7)
              | (go_at_call 10; with_reducible refine (HPR.out _ (by first | exact good_id (by assumption) | exact good_drew (by assumption))).mono ?_; rintro e w7 ⟨rfl, b7⟩; have HG7 := Lib.hid b7; have HK7 := Lib.hid (HKP.out _ b7); clear b7))
          all_goals
            have HBE := Lib.hid (HBB.out _ (by first | exact good_id (by assumption) | exact good_drew (by assumption)))
            go_wp2_with fail
            go_roundw
            case rel => exact ⟨k + 1, by omega, by go_num, HRN, HBE.out⟩
            case measure => simp [intOf]; omega
    · obtain rfl : k = vs.length := by omega
      have hn50 : vs.length ≤ 50 := by
        by_cases h0 : 0 < vs.length
        · exact HR.out.2 h0
        · omega
      have hall : ∀ v ∈ vs, VIn v ∧ rightB v = true := fun v hv => by
        obtain ⟨j, hj, rfl⟩ := List.getElem_of_mem hv
        have hr := HR.out.1 j vs[j] (List.getElem?_eq_getElem hj) hj
        exact ⟨vin_arg (HVA.out _ hv) hr, hr⟩
      have hvok : ∀ v ∈ vs, VOk v := fun v hv => (HVA.out v hv).ok
      have hsame : sameL vs vs = true := (sameL_iff vs vs).2 rfl
      have HTW := Lib.hid (fun (w7 : World) (h : Below w.heap.size w w7) => Twin_any vs (by omega) (fun v hv => (hall v hv).1) a cap w7 (HX.out.below h))
      have HRW := Lib.hid (fun (w7 : World) (h : Below w.heap.size w w7) => refTwin_any vs (by omega) (fun v hv => (hall v hv).1) a cap w7 (HX.out.below h))
      have HSA := Lib.hid (fun (ax ay : Option Addr) (cx cy : Nat) (w7 : World) (h1 : ValsAt w7 ax vs) (h2 : ValsAt w7 ay vs) => show Calls Tryd.prog 12 #[.slice ax vs.length cx, .slice ay vs.length cy] w7 fun e w' => e = .returned (.bool true) ∧ Below w7.heap.size w7 w' from by
        have := refSameAll_any vs vs hvok hvok (by omega) ax ay cx cy w7 h1 h2
        rw [hsame] at this
        exact this)
      have HKE := Lib.hid (fun (w7 : World) (h : Below w.heap.size w w7) => Key_any vs (by omega) hall a cap w7 (HX.out.below h) (HTAB.out.below h))
      have HKR := Lib.hid (fun (w7 : World) (h : Below w.heap.size w w7) => refKey_any vs (by omega) hall a cap w7 (HX.out.below h))
      obtain ⟨p, hp⟩ : ∃ p, S (keyT vs) = p := ⟨_, rfl⟩
      rw [hp] at HKE HKR
      have hpp : (p.toList == p.toList) = true := by simp
      have hni : (vs.length : Int) ≤ 50 := by omega
      have HLL := Lib.hid (fun (i : Nat) (v : V) (hv : vs[i]? = some v) => show v.list.length ≤ 1000 from (hall v (List.mem_of_getElem? hv)).1.list)
      clear hall hvok hsame hp hb
      go_wp2_with fail
      refine (HTW.out _ HB.out).mono ?_
      rintro e w2 ⟨⟨a2, c2, rfl, ht2⟩, b2⟩
      have hz2 := b2.size
      have T2 := Lib.hid ht2
      have B2 := Lib.hid (HB.out.trans (b2.mono HB.out.size))
      clear b2 ht2
      go_wp2_with fail
      refine (HSA.out a2 a c2 cap _ T2.out.vals (HX.out.below B2.out)).mono ?_
      rintro e w3 ⟨rfl, b3⟩
      have B3 := Lib.hid (B2.out.trans (b3.mono B2.out.size))
      have D3 := Lib.hid b3
      clear b3
      go_wp2_with fail
      refine (HKE.out _ B3.out).mono ?_
      rintro e w4 ⟨rfl, b4⟩
      have B4 := Lib.hid (B3.out.trans (b4.mono B3.out.size))
      have D4 := Lib.hid (two D3.out b4)
      clear b4
      go_wp2_with fail
      refine (HKR.out _ B4.out).mono ?_
      rintro e w5 ⟨rfl, b5⟩
      have B5 := Lib.hid (B4.out.trans (b5.mono B4.out.size))
      have D5 := Lib.hid (two D4.out b5)
      clear b5
      go_wp2_with fail
      refine (HRW.out _ B5.out).mono ?_
      rintro e w6 ⟨⟨a6, c6, rfl, ht6⟩, b6⟩
      have B6 := Lib.hid (B5.out.trans (b6.mono B5.out.size))
      have D6 := Lib.hid (two D5.out b6)
      have T6 := Lib.hid ht6
      have hz5 := D5.out.size
      clear b6 ht6
      rcases T2.out with h0 | ⟨G, rfl, hP⟩
      · subst h0
        go_wp2_with fail
        refine wp_loop_rounds 1 ?_
        rw [rounds_succ]
        go_wp2_with fail
        refine (HAW.out _ B6.out).mono ?_
        rintro e w8 ⟨rfl, b8⟩
        have B8 := Lib.hid (B6.out.trans (b8.mono B6.out.size))
        have T8 := Lib.hid (T6.out.vals.below b8)
        clear b8
        go_wp2_with fail
        refine (HSA.out a a6 cap c6 _ (HX.out.below B8.out) T8.out).mono ?_
        rintro e w9 ⟨rfl, b9⟩
        have B9 := Lib.hid (B8.out.trans (b9.mono B8.out.size))
        clear b9
        go_wp2_with fail
        go_ret
        exact ⟨rfl, B9.out⟩
      · have M0 := Lib.hid (MutP.start hP D6.out)
        have hlo := HB.out.size
        obtain ⟨lo0, hlo0⟩ : ∃ lo0, lo0 = wr.heap.size := ⟨_, rfl⟩
        rw [← hlo0] at M0 hlo
        clear hP hlo0
        go_wp2_with fail
        go_loopw [49] (fun i w7 => ∃ k : Nat, k ≤ vs.length ∧ i = .int .i64 k ∧ MutP lo0 w2.heap.size G vs w6 w7) (fun i _ => vs.length - (intOf i).toNat)
        case atStart => exact ⟨0, by omega, rfl, M0.out⟩
        case round =>
          obtain ⟨k, hk, rfl, hm⟩ := hrel
          by_cases hlt2 : k < vs.length
          · obtain ⟨v, hv⟩ : ∃ v, vs[k]? = some v := ⟨vs[k], List.getElem?_eq_getElem hlt2⟩
            obtain ⟨av, cv, q3, _⟩ := hm.cells k v hv
            have hki : (k : Int) < (vs.length : Int) := by omega
            have HM := Lib.hid hm
            have HV := Lib.hid hv
            have hll := HLL.out k v hv
            have hlli : (v.list.length : Int) ≤ 1000 := by omega
            clear hm hv
            go_wp2_with fail
            go_loopw [58] (fun i w7 => ∃ j : Nat, j ≤ v.list.length ∧ i = .int .i64 j ∧ MutP lo0 w2.heap.size G vs w6 w7) (fun i _ => v.list.length - (intOf i).toNat)
            case atStart => exact ⟨0, by omega, rfl, HM.out⟩
            case round =>
              obtain ⟨j, hj, rfl, hm⟩ := hrel
              have HM2 := Lib.hid hm
              by_cases hlt3 : j < v.list.length
              · obtain ⟨ax, cx, r3, hr⟩ := hm.cells k v HV.out
                obtain ⟨b, z, rfl, hbk, hz, h1, h2⟩ := hr j hlt3
                have hji : (j : Int) < (v.list.length : Int) := by omega
                have hfz := hbk.frozen j
                have HS := Lib.hid (hm.set b j z (wrap64 (z + 1)) hbk hz h1 h2)
                clear hm hr hbk
                go_wp2_with fail
                go_roundw
                case rel => exact ⟨j + 1, by omega, by go_num, HS.out⟩
                case measure => simp [intOf]; omega
              · obtain rfl : j = v.list.length := by omega
                clear hm
                go_wp2_with fail
                go_roundw
                case rel => exact ⟨k + 1, by omega, by go_num, HM2.out⟩
                case measure => simp [intOf]; omega
          · obtain rfl : k = vs.length := by omega
            have BM := Lib.hid (hm.below B6.out hlo)
            have TM := Lib.hid (TwR.vals (T6.out.out (fun b hb => hm.out b (.inr (Nat.le_trans hz5 hb)))))
            clear hm
            go_wp2_with fail
            refine (HAW.out _ BM.out).mono ?_
            rintro e w8 ⟨rfl, b8⟩
            have B8 := Lib.hid (BM.out.trans (b8.mono BM.out.size))
            have T8 := Lib.hid (TM.out.below b8)
            clear b8
            go_wp2_with fail
            refine (HSA.out a a6 cap c6 _ (HX.out.below B8.out) T8.out).mono ?_
            rintro e w9 ⟨rfl, b9⟩
            have B9 := Lib.hid (B8.out.trans (b9.mono B8.out.size))
            clear b9
            go_wp2_with fail
            go_ret
            exact ⟨rfl, B9.out⟩

end Go.Proofs.YtipabjefkbgjbaaDoor.Va
