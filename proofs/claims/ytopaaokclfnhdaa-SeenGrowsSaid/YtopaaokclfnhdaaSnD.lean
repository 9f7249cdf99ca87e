/-
  The document's own Right, Known and Add of lists of numbers; and Same.
-/
import Derived.Test.YtopaaokclfnhdaaSnC
namespace Go.Proofs.Ytopaaokclfnhdaa.Sn
open Go Go.RowKit
set_option linter.unusedVariables false
set_option linter.unusedSimpArgs false

theorem nums_spot {w : World} {b off : Nat} {l : List Int} (h : NumsAt w (some ⟨b, off, none⟩) l) (i : Nat) (hi : i < l.length) : w.cell? ⟨b, off + i, none⟩ = some (.int .i64 (l.getD i 0)) := by
  obtain ⟨b', off', e, hc, _⟩ := h i hi
  injection e with e
  injection e with e1 e2 _
  subst e1 e2
  exact hc

set_option maxRecDepth 100000 in
set_option maxHeartbeats 4000000 in
theorem rRight_any (l : List Int) (hl : l.length ≤ 281474976710656) (a : Option Addr) (cap : Nat) (w : World) (hx : NumsAt w a l) :
    Calls Try.prog 13 #[.slice a l.length cap] w fun e w' => e = .returned (.bool (upB l)) ∧ Below w.heap.size w w' := by
  have HX := Lib.hid hx
  clear hx
  go_enter Try.func13, Try.ntmps13
  go_wp2_with fail
  go_loopw [7] (fun iv wr => ∃ k : Nat, k ≤ l.length ∧ iv = .int .i64 k ∧ Below w.heap.size w wr ∧ Hid (∀ i j, i < j → j < k → l.getD i 0 < l.getD j 0)) (fun iv _ => l.length - (intOf iv).toNat)
  case atStart => exact ⟨0, by omega, rfl, Below.refl _ _, Lib.hid (fun i j _ h => absurd h (by omega))⟩
  case round =>
    obtain ⟨k, hk, rfl, hb, hs⟩ := hrel
    have HB := Lib.hid hb
    clear hb
    by_cases hlt : k < l.length
    · have hki : (k : Int) < (l.length : Int) := by omega
      obtain ⟨b, off, rfl, hck, _⟩ := HX.out k hlt
      clear hck
      go_wp2_with fail
      go_loopw [4] (fun jv wr => ∃ j : Nat, j ≤ k ∧ jv = .int .i64 j ∧ Below w.heap.size w wr ∧ Hid (∀ i, i < j → l.getD i 0 < l.getD k 0)) (fun jv _ => k - (intOf jv).toNat)
      case atStart => exact ⟨0, by omega, rfl, HB.out, Lib.hid (fun i h => absurd h (by omega))⟩
      case round =>
        obtain ⟨j, hj, rfl, hb2, hs2⟩ := hrel
        have HB2 := Lib.hid hb2
        by_cases hjk : j < k
        · have hjki : (j : Int) < (k : Int) := by omega
          have hji : (j : Int) < (l.length : Int) := by omega
          have hn := HX.out.below hb2
          have c1 := nums_spot hn j (by omega)
          have c2 := nums_spot hn k hlt
          obtain ⟨y, hy⟩ : ∃ y, y = l.getD j 0 := ⟨_, rfl⟩
          obtain ⟨z, hz⟩ : ∃ z, z = l.getD k 0 := ⟨_, rfl⟩
          rw [← hy] at c1
          rw [← hz] at c2
          have HY := Lib.hid hy
          have HZ := Lib.hid hz
          clear hn hb2 hy hz
          by_cases hge : y ≥ z
          · have HF := Lib.hid (upB_not (l := l) (i := j) (j := k) hjk hlt (by rw [← HY.out, ← HZ.out]; exact hge))
            go_wp2_with fail
            go_region
            go_wp2_with fail
            go_ret
            exact ⟨by rw [HF.out]; rfl, HB2.out.drew⟩
          · go_wp2_with fail
            go_region
            go_wp2_with fail
            go_roundw
            case rel => exact ⟨j + 1, by omega, by go_num, HB2.out.drew, Lib.hid (fun i hi => by
              by_cases e : i = j
              · rw [e, ← HY.out, ← HZ.out]; omega
              · exact hs2.out i (by omega))⟩
            case measure => simp [intOf]; omega
        · have hje : j = k := by omega
          have hjki : ¬ (j : Int) < (k : Int) := by omega
          subst hje
          clear hb2
          go_wp2_with fail
          go_roundw
          case rel => exact ⟨j + 1, by omega, by go_num, HB2.out, Lib.hid (fun i i2 h1 h2 => by
            by_cases e : i2 = j
            · subst e; exact hs2.out i h1
            · exact hs.out i i2 h1 (by omega))⟩
          case measure => simp [intOf]; omega
    · have hke : k = l.length := by omega
      have hki : ¬ (k : Int) < (l.length : Int) := by omega
      have HF := Lib.hid (upB_at (l := l) |>.2 (fun i j h1 h2 => hs.out i j h1 (by omega)))
      clear hs
      go_wp2_with fail
      go_ret
      exact ⟨by rw [HF.out]; rfl, HB.out⟩

set_option maxRecDepth 100000 in
set_option maxHeartbeats 4000000 in
theorem rKnown_any (l : List Int) (x : Int) (hl : l.length ≤ 281474976710656) (a : Option Addr) (cap : Nat) (w : World) (hx : NumsAt w a l) :
    Calls Try.prog 11 #[.slice a l.length cap, .int .i64 x] w fun e w' => e = .returned (.bool (knownB l x)) ∧ Below w.heap.size w w' := by
  have HX := Lib.hid hx
  have HR := Lib.hid (rRight_any l hl a cap w hx)
  clear hx
  go_enter Try.func11, Try.ntmps11
  go_wp2_with fail
  go_loopw [9] (fun iv wr => ∃ k : Nat, k ≤ l.length ∧ iv = .int .i64 k ∧ wr = w ∧ Hid (∀ i, i < k → l.getD i 0 ≠ x)) (fun iv _ => l.length - (intOf iv).toNat)
  case atStart => exact ⟨0, by omega, rfl, rfl, Lib.hid (fun i h => absurd h (by omega))⟩
  case round =>
    obtain ⟨k, hk, rfl, hw, hs⟩ := hrel
    have hw2 := hw.symm
    subst hw2
    clear hw
    by_cases hlt : k < l.length
    · have hki : (k : Int) < (l.length : Int) := by omega
      obtain ⟨b, off, rfl, hc, _⟩ := HX.out k hlt
      obtain ⟨y, hy⟩ : ∃ y, y = l.getD k 0 := ⟨_, rfl⟩
      rw [← hy] at hc
      have HY := Lib.hid hy
      clear hy
      by_cases he : y = x
      · have hkn : upB l = knownB l x := by unfold knownB; rw [contains_at.2 ⟨k, hlt, by rw [← HY.out]; exact he⟩, Bool.true_and]
        rw [hkn] at HR
        generalize hr : knownB l x = r at HR
        have HRR := Lib.hid hr
        clear hr
        go_wp2_with fail
        refine HR.out.mono ?_
        rintro e w2 ⟨rfl, b2⟩
        have B2 := Lib.hid b2
        clear b2
        go_wp2_with fail
        go_ret
        exact ⟨by rw [HRR.out]; rfl, B2.out⟩
      · go_wp2_with fail
        go_roundw
        case rel => exact ⟨k + 1, by omega, by go_num, by trivial, Lib.hid (fun i hi => by
          by_cases e : i = k
          · rw [e, ← HY.out]; exact he
          · exact hs.out i (by omega))⟩
        case measure => simp [intOf]; omega
    · have hke : k = l.length := by omega
      have hki : ¬ (k : Int) < (l.length : Int) := by omega
      have HF := Lib.hid (show false = knownB l x by
        unfold knownB
        cases hcn : l.contains x with
        | false => rfl
        | true =>
          obtain ⟨i, hi, e⟩ := contains_at.1 hcn
          exact absurd e (hs.out i (by omega)))
      clear hs
      go_wp2_with fail
      go_ret
      exact ⟨by rw [← HF.out]; rfl, Below.refl _ _⟩

theorem own_app (B : Nat) (wr : World) (v : Value) (l : List Int) (hown : wr.ownsRow B 2 1 v l.length (i64C l)) (hB : B ≤ wr.heap.size) (x : Int) (hl : l.length ≤ 1000000) :
    ∃ v' w', (Builtin.append_ #[22, 22] 22 #[v, .slice (some ⟨wr.heap.size, 0, none⟩) 1 1]).run Try.prog (wr.alloc (.cells #[.int .i64 x] 2)) = .ok v' w' ∧ w'.ownsRow B 2 1 v' (l ++ [x]).length (i64C (l ++ [x])) ∧
      ∀ w : World, w.heap.size ≤ B → Below w.heap.size w wr → Below w.heap.size w w' := by
  have hn1 := heap_alloc_new wr (.cells #[.int .i64 x] 2)
  have hnx : NumsAt (wr.alloc (.cells #[.int .i64 x] 2)) (some ⟨wr.heap.size, 0, none⟩) [x] := fun j hj => by
    have hj0 : j = 0 := by simp at hj; exact hj
    subst hj0
    exact ⟨_, _, rfl, cell_of_row _ _ 0 _ _ (0, 0) hn1, lt_of_heapV hn1⟩
  have hsz : (wr.alloc (.cells #[.int .i64 x] 2)).heap.size = wr.heap.size + 1 := by simp
  obtain ⟨v', w', hr, ho, hg⟩ := app_nums B v l.length (i64C l) _ (hown.alloc _) [x] _ 1 hnx (by simp; omega) (by omega)
  refine ⟨v', w', hr, ?_, fun w hw hb => ?_⟩
  · rw [i64C_append, List.length_append]
    exact ho
  · have h1 := hb.alloc hb.size (.cells #[.int .i64 x] 2)
    exact h1.grown hg h1.size (fun k hk => Nat.le_trans hw (hown.lt k hk).1)
theorem filter_take (p : Int → Bool) (l : List Int) (k : Nat) (h : k < l.length) : (l.take (k + 1)).filter p = (l.take k).filter p ++ (if p (l.getD k 0) = true then [l.getD k 0] else []) := by
  rw [List.take_succ_eq_append_getElem h, List.filter_append]
  have : l.getD k 0 = l[k] := by simp [List.getD, h]
  rw [this]
  cases hp : p l[k] <;> simp [hp]
theorem filter_take_len (p : Int → Bool) (l : List Int) (k : Nat) : ((l.take k).filter p).length ≤ l.length :=
  Nat.le_trans (List.length_filter_le _ _) (by rw [List.length_take]; omega)

set_option maxRecDepth 100000 in
set_option maxHeartbeats 4000000 in
theorem rAdd_any (l : List Int) (x most : Int) (hl : l.length ≤ 400000) (a : Option Addr) (cap : Nat) (w : World) (hx : NumsAt w a l) :
    Calls Try.prog 8 #[.slice a l.length cap, .int .i64 x, .int .i64 most] w fun e w' => Out w' (addM l x most) e ∧ Below w.heap.size w w' := by
  have HX := Lib.hid hx
  have HR := Lib.hid (rRight_any l (by omega) a cap w hx)
  clear hx
  go_enter Try.func8, Try.ntmps8
  go_wp2_with fail
  refine HR.out.mono ?_
  rintro e w1 ⟨rfl, b1⟩
  have B1 := Lib.hid b1
  have HK := Lib.hid (rKnown_any l x (by omega) a cap w1 (HX.out.below b1))
  clear b1
  cases hu : upB l with
  | false =>
    have HO := Lib.hid (show addM l x most = ([], 4) by unfold addM; rw [if_pos hu])
    go_wp2_with fail
    go_ret2
    exact ⟨out_none HO.out, B1.out⟩
  | true =>
    go_wp2_with fail
    refine HK.out.mono ?_
    rintro e w2 ⟨rfl, b2⟩
    have B2 := Lib.hid (B1.out.trans (b2.mono B1.out.size))
    clear b2
    have hkn : knownB l x = l.contains x := by unfold knownB; rw [hu, Bool.and_true]
    rw [hkn]
    cases hk : l.contains x with
    | true =>
      have HO := Lib.hid (show addM l x most = ([], 45) by rw [addM_up hu, if_pos hk])
      go_wp2_with fail
      go_ret2
      exact ⟨out_none HO.out, B2.out⟩
    | false =>
      by_cases hm : (l.length : Int) ≥ most
      · have HO := Lib.hid (show addM l x most = ([], 42) by rw [addM_up hu, if_neg (by rw [hk]; simp), if_pos (by omega)])
        go_wp2_with fail
        go_ret2
        exact ⟨out_none HO.out, B2.out⟩
      · have HO := Lib.hid (show addM l x most = (ins l x, 0) by rw [addM_up hu, if_neg (by rw [hk]; simp), if_neg (by omega)])
        go_wp2_with fail
        go_loopw [8, 25] (fun ov iv wr => ∃ k : Nat, k ≤ l.length ∧ iv = .int .i64 k ∧ wr.ownsRow w.heap.size 2 1 ov ((l.take k).filter (fun y => decide (y < x))).length (i64C ((l.take k).filter (fun y => decide (y < x)))) ∧ Below w.heap.size w wr) (fun _ iv _ => l.length - (intOf iv).toNat)
        case atStart => exact ⟨0, by omega, rfl, World.ownsRow_nil _ _ _ _, B2.out⟩
        case round =>
          obtain ⟨k, hk2, rfl, hown, hbl⟩ := hrel
          by_cases hlt : k < l.length
          · have hki : (k : Int) < (l.length : Int) := by omega
            obtain ⟨b, off, rfl, hc, _⟩ := HX.out.below hbl k hlt
            have hft := filter_take (fun y => decide (y < x)) l k hlt
            have hfl := filter_take_len (fun y => decide (y < x)) l k
            obtain ⟨y, hy⟩ : ∃ y, y = l.getD k 0 := ⟨_, rfl⟩
            rw [← hy] at hc hft
            by_cases hyx : y < x
            · rw [if_pos (by simpa using hyx)] at hft
              obtain ⟨v', w', hrun, ho2, hgr⟩ := own_app _ _ _ _ hown hbl.size y (by omega)
              rw [← hft] at ho2
              have HO2 := Lib.hid ho2
              have HRUN := Lib.hid hrun
              have HBE := Lib.hid (hgr w (Nat.le_refl _) hbl)
              clear hown hbl hft hfl hy hrun ho2 hgr
              go_wp2_with (at_builtin; refine wpList_app rfl _ _ _ _ rfl rfl rfl _ _ HRUN.out ?_)
              go_roundw
              case rel => exact ⟨k + 1, by omega, by go_num, HO2.out, HBE.out⟩
              case measure => simp [intOf]; omega
            · rw [if_neg (by simpa using hyx), List.append_nil] at hft
              rw [← hft] at hown
              have HO2 := Lib.hid hown
              have HBE := Lib.hid hbl
              clear hown hbl hft hfl hy
              go_wp2_with fail
              go_roundw
              case rel => exact ⟨k + 1, by omega, by go_num, HO2.out, HBE.out⟩
              case measure => simp [intOf]; omega
          · have hke : k = l.length := by omega
            have hki : ¬ (k : Int) < (l.length : Int) := by omega
            subst hke
            rw [List.take_length] at hown
            have hfl := List.length_filter_le (fun y => decide (y < x)) l
            obtain ⟨v', w', hrun, ho2, hgr⟩ := own_app _ _ _ _ hown hbl.size x (by omega)
            have HO2 := Lib.hid ho2
            have HRUN := Lib.hid hrun
            have HBE := Lib.hid (hgr w (Nat.le_refl _) hbl)
            clear hown hbl hrun ho2 hgr
            go_wp2_with (at_builtin; refine wpList_app rfl _ _ _ _ rfl rfl rfl _ _ HRUN.out ?_)
            go_loopw [8, 43] (fun ov iv wr => ∃ k : Nat, k ≤ l.length ∧ iv = .int .i64 k ∧ wr.ownsRow w.heap.size 2 1 ov ((l.filter (fun y => decide (y < x)) ++ [x]) ++ (l.take k).filter (fun y => decide (x < y))).length (i64C ((l.filter (fun y => decide (y < x)) ++ [x]) ++ (l.take k).filter (fun y => decide (x < y)))) ∧ Below w.heap.size w wr) (fun _ iv _ => l.length - (intOf iv).toNat)
            case atStart => exact ⟨0, by omega, rfl, by simpa using HO2.out, HBE.out⟩
            case round =>
              obtain ⟨k, hk2, rfl, hown, hbl⟩ := hrel
              by_cases hlt : k < l.length
              · have hki : (k : Int) < (l.length : Int) := by omega
                obtain ⟨b, off, rfl, hc, _⟩ := HX.out.below hbl k hlt
                have hft := filter_take (fun y => decide (x < y)) l k hlt
                have hfl2 := filter_take_len (fun y => decide (x < y)) l k
                obtain ⟨y, hy⟩ : ∃ y, y = l.getD k 0 := ⟨_, rfl⟩
                rw [← hy] at hc hft
                by_cases hyx : y > x
                · rw [if_pos (by simpa using hyx)] at hft
                  obtain ⟨v', w', hrun, ho2, hgr⟩ := own_app _ _ _ _ hown hbl.size y (by rw [List.length_append, List.length_append]; simp; omega)
                  rw [List.append_assoc _ _ [y], ← hft] at ho2
                  have HO2 := Lib.hid ho2
                  have HRUN := Lib.hid hrun
                  have HBE := Lib.hid (hgr w (Nat.le_refl _) hbl)
                  clear hown hbl hft hfl hfl2 hy hrun ho2 hgr
                  go_wp2_with (at_builtin; refine wpList_app rfl _ _ _ _ rfl rfl rfl _ _ HRUN.out ?_)
                  go_roundw
                  case rel => exact ⟨k + 1, by omega, by go_num, HO2.out, HBE.out⟩
                  case measure => simp [intOf]; omega
                · rw [if_neg (by simpa using hyx), List.append_nil] at hft
                  rw [← hft] at hown
                  have HO2 := Lib.hid hown
                  have HBE := Lib.hid hbl
                  clear hown hbl hft hfl hfl2 hy
                  go_wp2_with fail
                  go_roundw
                  case rel => exact ⟨k + 1, by omega, by go_num, HO2.out, HBE.out⟩
                  case measure => simp [intOf]; omega
              · have hke : k = l.length := by omega
                have hki : ¬ (k : Int) < (l.length : Int) := by omega
                subst hke
                rw [List.take_length, List.append_assoc] at hown
                have hins : l.filter (fun y => decide (y < x)) ++ ([x] ++ l.filter (fun y => decide (x < y))) = ins l x := rfl
                rw [hins] at hown
                obtain ⟨a', c', rfl, hrow⟩ := owned_row hown rfl
                have HROW := Lib.hid hrow
                have HBL := Lib.hid hbl
                clear hown hrow hbl hins
                go_wp2_with fail
                go_ret2
                exact ⟨⟨a', c', by rw [HO.out]; rfl, by rw [HO.out]; exact HROW.out⟩, HBL.out⟩

set_option maxRecDepth 100000 in
set_option maxHeartbeats 4000000 in
theorem same_any (l m : List Int) (hl : l.length ≤ 281474976710656) (a a2 : Option Addr) (cap cap2 : Nat) (w : World) (hx : NumsAt w a l) (hy : NumsAt w a2 m) :
    Calls Try.prog 9 #[.slice a l.length cap, .slice a2 m.length cap2] w fun e w' => e = .returned (.bool (decide (l = m))) ∧ Below w.heap.size w w' := by
  have HX := Lib.hid hx
  have HY := Lib.hid hy
  clear hx hy
  by_cases hlen : l.length = m.length
  · have hli : (l.length : Int) = (m.length : Int) := by omega
    go_enter Try.func9, Try.ntmps9
    go_wp2_with fail
    go_loopw [13] (fun iv wr => ∃ k : Nat, k ≤ l.length ∧ iv = .int .i64 k ∧ Below w.heap.size w wr ∧ Hid (∀ i, i < k → l.getD i 0 = m.getD i 0)) (fun iv _ => l.length - (intOf iv).toNat)
    case atStart => exact ⟨0, by omega, rfl, Below.refl _ _, Lib.hid (fun i h => absurd h (by omega))⟩
    case round =>
      obtain ⟨k, hk, rfl, hb, hs⟩ := hrel
      have HB := Lib.hid hb
      by_cases hlt : k < l.length
      · have hki : (k : Int) < (l.length : Int) := by omega
        obtain ⟨b, off, rfl, c1, _⟩ := HX.out.below hb k hlt
        obtain ⟨b2, off2, rfl, c2, _⟩ := HY.out.below hb k (by omega)
        obtain ⟨y, hy⟩ : ∃ y, y = l.getD k 0 := ⟨_, rfl⟩
        obtain ⟨z, hz⟩ : ∃ z, z = m.getD k 0 := ⟨_, rfl⟩
        rw [← hy] at c1
        rw [← hz] at c2
        have HV := Lib.hid hy
        have HZ := Lib.hid hz
        clear hb hy hz
        by_cases he : y = z
        · go_wp2_with fail
          go_region
          go_wp2_with fail
          go_roundw
          case rel => exact ⟨k + 1, by omega, by go_num, HB.out.drew, Lib.hid (fun i hi => by
            by_cases e : i = k
            · rw [e, ← HV.out, ← HZ.out]; exact he
            · exact hs.out i (by omega))⟩
          case measure => simp [intOf]; omega
        · have HF := Lib.hid (show false = decide (l = m) by
            symm
            rw [decide_eq_false_iff_not]
            intro e
            apply he
            rw [HV.out, HZ.out, e])
          go_wp2_with fail
          go_region
          go_wp2_with fail
          go_ret
          exact ⟨by rw [← HF.out]; rfl, HB.out.drew⟩
      · have hke : k = l.length := by omega
        have hki : ¬ (k : Int) < (l.length : Int) := by omega
        have HF := Lib.hid (show true = decide (l = m) by
          symm
          rw [decide_eq_true_iff]
          refine List.ext_getElem hlen (fun i h1 h2 => ?_)
          have := hs.out i (by omega)
          simpa [List.getD, h1, h2] using this)
        clear hb hs
        go_wp2_with fail
        go_ret
        exact ⟨by rw [← HF.out]; rfl, HB.out⟩
  · have hli : ¬ (l.length : Int) = (m.length : Int) := by omega
    have HF := Lib.hid (show false = decide (l = m) by
      symm
      rw [decide_eq_false_iff_not]
      intro e
      exact hlen (by rw [e]))
    go_enter Try.func9, Try.ntmps9
    go_wp2_with fail
    go_ret
    exact ⟨by rw [← HF.out]; rfl, Below.refl _ _⟩

end Go.Proofs.Ytopaaokclfnhdaa.Sn
