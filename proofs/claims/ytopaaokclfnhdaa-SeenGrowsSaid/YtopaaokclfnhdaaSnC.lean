/-
  The program's Add.
-/
import Derived.Test.YtopaaokclfnhdaaSnB
import Derived.Test.YtopaaokclfnhdaaMdTake
namespace Go.Proofs.Ytopaaokclfnhdaa.Sn
open Go Go.RowKit Md
set_option linter.unusedVariables false
set_option linter.unusedSimpArgs false

theorem out_none {w' : World} {p : List Int × Int} {n : Int} (h : p = ([], n)) : Out w' p (.returned (.tuple #[.slice none 0 0, .int .i64 n])) := by
  subst h
  exact ⟨none, 0, rfl, NumsAt.nil, Nat.le_refl _⟩

set_option maxRecDepth 100000 in
theorem cat3 (w : World) (l : List Int) (x : Int) (i cap : Nat) (hi : i ≤ l.length) (hl : l.length ≤ 500000) (a a2 : Option Addr) (h1 : NumsAt w a (l.take i)) (h2 : NumsAt w a2 (l.drop i)) :
    Calls Try.prog 15 #[.slice (some ⟨w.heap.size + 1, 0, none⟩) 3 3] (((w.alloc (.cells #[.int .i64 x] 2)).alloc (.cells #[.slice a i cap, .slice (some ⟨w.heap.size, 0, none⟩) 1 1, .slice a2 (l.length - i) (cap - i)] 22)).drew) fun e w' =>
      (∃ a' c', e = .returned (.slice a' (l.take i ++ x :: l.drop i).length c') ∧ Row w' a' (l.take i ++ x :: l.drop i) c') ∧ Below w.heap.size w w' := by
  obtain ⟨W1, hW1⟩ : ∃ W1, W1 = w.alloc (.cells #[.int .i64 x] 2) := ⟨_, rfl⟩
  have hsz1 : W1.heap.size = w.heap.size + 1 := by rw [hW1]; simp
  have hb1 : Below w.heap.size w W1 := by rw [hW1]; exact (Below.refl _ _).alloc (Nat.le_refl _) _
  have hn1 := heap_alloc_new w (.cells #[.int .i64 x] 2)
  rw [← hW1] at hn1 ⊢
  obtain ⟨o2, ho2⟩ : ∃ o2 : Obj, o2 = .cells #[.slice a i cap, .slice (some ⟨w.heap.size, 0, none⟩) 1 1, .slice a2 (l.length - i) (cap - i)] 22 := ⟨_, rfl⟩
  have hn2 := heap_alloc_new W1 o2
  have hb2 : Below w.heap.size w (W1.alloc o2).drew := (hb1.alloc (by omega) o2).drew
  have hb3 : Below W1.heap.size W1 (W1.alloc o2).drew := ((Below.refl _ _).alloc (Nat.le_refl _) o2).drew
  have hd : (W1.alloc o2).drew.heap = (W1.alloc o2).heap := rfl
  rw [← ho2]
  generalize hWe : (W1.alloc o2).drew = W at hb2 hb3 hd ⊢
  rw [hsz1, ← hd, ho2] at hn2
  have hnx : NumsAt W1 (some ⟨w.heap.size, 0, none⟩) [x] := fun j hj => by
    have hj0 : j = 0 := by simp at hj; exact hj
    subst hj0
    exact ⟨_, _, rfl, cell_of_row _ _ 0 _ _ (0, 0) hn1, lt_of_heapV hn1⟩
  have hlt := lt_of_heapV hn2
  have hc : catR [(a, l.take i, cap), (some ⟨w.heap.size, 0, none⟩, [x], 1), (a2, l.drop i, cap - i)] = l.take i ++ x :: l.drop i := by simp [catR]
  have hlen : (l.take i ++ x :: l.drop i).length = l.length + 1 := by simp; omega
  have key := concat_any [(a, l.take i, cap), (some ⟨w.heap.size, 0, none⟩, [x], 1), (a2, l.drop i, cap - i)] (by simp) (w.heap.size + 1) 3 (by rw [hc, hlen]; omega) (by rw [hc, hlen]; omega) W (fun j hj => by
    have e0 := cell_of_row _ _ 0 _ _ (0, 0) hn2
    have e1 := cell_of_row _ _ 1 _ _ (0, 0) hn2
    have e2 := cell_of_row _ _ 2 _ _ (0, 0) hn2
    match j, hj with
    | 0, _ => exact ⟨by rw [e0]; simp [List.length_take, Nat.min_eq_left hi], h1.below hb2, hlt⟩
    | 1, _ => exact ⟨by rw [e1]; simp, hnx.below hb3, hlt⟩
    | 2, _ => exact ⟨by rw [e2]; simp, h2.below hb2, hlt⟩)
  rw [hc] at key
  refine key.mono ?_
  rintro e w' ⟨⟨a', c', rfl, hr⟩, b⟩
  exact ⟨⟨a', c', rfl, hr⟩, hb2.trans (b.mono hb2.size)⟩
set_option maxRecDepth 100000 in
set_option maxHeartbeats 4000000 in
theorem add_any (l : List Int) (x most : Int) (hl : l.length ≤ 500000) (a : Option Addr) (cap : Nat) (w : World) (hx : Row w a l cap) :
    Calls Try.prog 7 #[.slice a l.length cap, .int .i64 x, .int .i64 most] w fun e w' => Out w' (addM l x most) e ∧ Below w.heap.size w w' := by
  have HX := Lib.hid hx.1
  have hcap := hx.2
  have HB := Lib.hid (binS_any l x (by omega) a cap w hx.1)
  have HR := Lib.hid (right_any l (by omega) a cap w hx.1)
  clear hx
  go_enter Try.func7, Try.ntmps7
  go_wp2_with fail
  refine HB.out.mono ?_
  rintro e w1 ⟨⟨i, f, rfl, hcut⟩, rfl⟩
  have hil := hcut.1
  have HC := Lib.hid hcut
  clear hcut
  cases hu : upB l with
  | false =>
    rw [hu] at HR
    have HO := Lib.hid (show addM l x most = ([], 4) by unfold addM; rw [if_pos hu])
    go_wp2_with fail
    refine HR.out.mono ?_
    rintro e w2 ⟨rfl, rfl⟩
    go_wp2_with fail
    go_ret2
    exact ⟨out_none HO.out, Below.refl _ _⟩
  | true =>
    rw [hu] at HR
    obtain ⟨hc1, hc2, hf⟩ := HC.out.2 hu
    cases hk : l.contains x with
    | true =>
      rw [hk] at hf
      subst hf
      have HO := Lib.hid (show addM l x most = ([], 45) by rw [addM_up hu, if_pos hk])
      clear hc1 hc2
      go_wp2_with fail
      refine HR.out.mono ?_
      rintro e w2 ⟨rfl, rfl⟩
      go_wp2_with fail
      go_ret2
      exact ⟨out_none HO.out, Below.refl _ _⟩
    | false =>
      rw [hk] at hf
      subst hf
      by_cases hm : (l.length : Int) ≥ most
      · have HO := Lib.hid (show addM l x most = ([], 42) by rw [addM_up hu, if_neg (by rw [hk]; simp), if_pos (by omega)])
        clear hc1 hc2
        go_wp2_with fail
        refine HR.out.mono ?_
        rintro e w2 ⟨rfl, rfl⟩
        go_wp2_with fail
        go_ret2
        exact ⟨out_none HO.out, Below.refl _ _⟩
      · have hins := up_cut hu x i hil hc1 hc2 hk
        have HO := Lib.hid (show addM l x most = (ins l x, 0) by rw [addM_up hu, if_neg (by rw [hk]; simp), if_neg (by omega)])
        have HLN := Lib.hid (len_ins (x := x) hk)
        have hs1 := fun W => cut_lo a l.length cap i (by omega) W
        have hs2 := fun W => cut_hi a l.length cap i hil W
        have HN1 := Lib.hid (HX.out.take i)
        have HN2 := Lib.hid (HX.out.drop i cap hcap)
        generalize (if cap = i then a else a.map (·.add i)) = a2 at hs2 HN2
        have HCAT := Lib.hid (cat3 w l x i cap hil hl a a2 HN1.out HN2.out)
        have HINS := Lib.hid hins
        clear hc1 hc2 hins
        go_wp2_with fail
        refine HR.out.mono ?_
        rintro e w2 ⟨rfl, rfl⟩
        go_wp2_with fail
        have HST : Hid True := Lib.hid trivial
        refine wp_region_held_drew (S := (fun w7 => True)) (by kernel_rfl) trivial (fun hHeld => ?_)
        refine takeW (v := ?_) 0 (by decide +kernel) (by decide +kernel) (by kernel_rfl) (by simp only [List.getElem?_toArray, List.getElem?_cons_succ, List.getElem?_cons_zero]; rfl) (by rfl) (by exact fun _ _ _ h => h) (by assumption) ?_ ?_
        rotate_left 1
        focus (intro w8 hSw; (try dsimp only at hSw); go_simp; (try with_reducible rfl); done)
        try simp only [Act.put, List.setIfInBounds_toArray, List.set_cons_zero, List.set_cons_succ]
        refine takeW (v := ?_) 1 (by decide +kernel) (by decide +kernel) (by kernel_rfl) (by simp only [List.getElem?_toArray, List.getElem?_cons_succ, List.getElem?_cons_zero]; rfl) (by rfl) (by exact fun _ _ _ h => h) (by assumption) ?_ ?_
        rotate_left 1
        focus (intro w8 hSw; (try dsimp only at hSw); go_simp; (try with_reducible rfl); done)
        try simp only [Act.put, List.setIfInBounds_toArray, List.set_cons_zero, List.set_cons_succ]
        refine takeW (v := .slice a i cap) 2 (by decide +kernel) (by decide +kernel) (by kernel_rfl) (by simp only [List.getElem?_toArray, List.getElem?_cons_succ, List.getElem?_cons_zero]; rfl) (by rfl) (by exact fun _ _ _ h => h) (by assumption) ?_ ?_
        focus (intro w8 hSw; (try dsimp only at hSw); go_simp; try rw [hs1])
        try simp only [Act.put, List.setIfInBounds_toArray, List.set_cons_zero, List.set_cons_succ]
        refine takeW (v := ?_) 3 (by decide +kernel) (by decide +kernel) (by kernel_rfl) (by simp only [List.getElem?_toArray, List.getElem?_cons_succ, List.getElem?_cons_zero]; rfl) (by rfl) (by exact fun _ _ _ h => h) (by assumption) ?_ ?_
        rotate_left 1
        focus (intro w8 hSw; (try dsimp only at hSw); go_simp; (try with_reducible rfl); done)
        try simp only [Act.put, List.setIfInBounds_toArray, List.set_cons_zero, List.set_cons_succ]
        refine takeW (v := ?_) 5 (by decide +kernel) (by decide +kernel) (by kernel_rfl) (by simp only [List.getElem?_toArray, List.getElem?_cons_succ, List.getElem?_cons_zero]; rfl) (by rfl) (by exact fun _ _ _ h => h) (by assumption) ?_ ?_
        rotate_left 1
        focus (intro w8 hSw; (try dsimp only at hSw); go_simp; (try with_reducible rfl); done)
        try simp only [Act.put, List.setIfInBounds_toArray, List.set_cons_zero, List.set_cons_succ]
        refine takeW (v := ?_) 6 (by decide +kernel) (by decide +kernel) (by kernel_rfl) (by simp only [List.getElem?_toArray, List.getElem?_cons_succ, List.getElem?_cons_zero]; rfl) (by rfl) (by exact fun _ _ _ h => h) (by assumption) ?_ ?_
        rotate_left 1
        focus (intro w8 hSw; (try dsimp only at hSw); go_simp; (try with_reducible rfl); done)
        try simp only [Act.put, List.setIfInBounds_toArray, List.set_cons_zero, List.set_cons_succ]
        refine takeW (v := .slice a2 (l.length - i) (cap - i)) 7 (by decide +kernel) (by decide +kernel) (by kernel_rfl) (by simp only [List.getElem?_toArray, List.getElem?_cons_succ, List.getElem?_cons_zero]; rfl) (by rfl) (by exact fun _ _ _ h => h) (by assumption) ?_ ?_
        focus (intro w8 hSw; (try dsimp only at hSw); go_simp; try rw [hs2])
        try simp only [Act.put, List.setIfInBounds_toArray, List.set_cons_zero, List.set_cons_succ]
        refine wpAnyH_ready (rs := [4]) (by decide +kernel) (by simp) ?_
        refine AllReadyH.cons (by simp only [List.getElem?_toArray, List.getElem?_cons_succ, List.getElem?_cons_zero]; rfl) (fun K hK => ?_) AllReadyH.nil
        go_simp
        refine hK.out _ _ trivial (fun hHeld => ?_)
        clear hK K
        try simp only [Act.put, List.setIfInBounds_toArray, List.set_cons_zero, List.set_cons_succ]
        refine wpAnyH_ready (rs := [8]) (by decide +kernel) (by simp) ?_
        refine AllReadyH.cons (by simp only [List.getElem?_toArray, List.getElem?_cons_succ, List.getElem?_cons_zero]; rfl) (fun K hK => ?_) AllReadyH.nil
        go_simp
        refine hK.out _ _ trivial (fun hHeld => ?_)
        clear hK K
        try simp only [Act.put, List.setIfInBounds_toArray, List.set_cons_zero, List.set_cons_succ]
        refine wpAnyH_ready (rs := [9]) (by decide +kernel) (by simp) ?_
        refine AllReadyH.cons (by simp only [List.getElem?_toArray, List.getElem?_cons_succ, List.getElem?_cons_zero]; rfl) (fun K hK => ?_) AllReadyH.nil
        go_simp
        refine HCAT.out.mono ?_
        rintro e w3 ⟨⟨a3, c3, rfl, hrow⟩, b3⟩
        have HROW := Lib.hid hrow
        have B3 := Lib.hid b3
        clear hrow b3
        go_wp2_with fail
        refine hK.out _ _ trivial (fun hHeld => ?_)
        clear hK K
        try simp only [Act.put, List.setIfInBounds_toArray, List.set_cons_zero, List.set_cons_succ]
        refine wpAnyH_ready (rs := [10]) (by decide +kernel) (by simp) ?_
        refine AllReadyH.cons (by simp only [List.getElem?_toArray, List.getElem?_cons_succ, List.getElem?_cons_zero]; rfl) (fun K hK => ?_) AllReadyH.nil
        go_simp
        refine hK.out _ _ trivial (fun hHeld => ?_)
        clear hK K
        try simp only [Act.put, List.setIfInBounds_toArray, List.set_cons_zero, List.set_cons_succ]
        refine wpAnyH_ready (rs := [11]) (by decide +kernel) (by simp) ?_
        refine AllReadyH.cons (by simp only [List.getElem?_toArray, List.getElem?_cons_succ, List.getElem?_cons_zero]; rfl) (fun K hK => ?_) AllReadyH.nil
        go_simp
        refine hK.out _ _ trivial (fun hHeld => ?_)
        clear hK K
        try simp only [Act.put, List.setIfInBounds_toArray, List.set_cons_zero, List.set_cons_succ]
        refine wpAnyH_done (by decide +kernel) ?_ _
        go_wp2_with fail
        go_ret2
        refine ⟨⟨a3, c3, ?_, ?_⟩, B3.out⟩
        · have hll : i + (l.length - i + 1) = (l.take i ++ x :: l.drop i).length := by rw [List.length_append, List.length_take, List.length_cons, List.length_drop]; omega
          rw [HO.out, ← HINS.out, hll]
          rfl
        · rw [HO.out, ← HINS.out]; exact HROW.out

end Go.Proofs.Ytopaaokclfnhdaa.Sn
