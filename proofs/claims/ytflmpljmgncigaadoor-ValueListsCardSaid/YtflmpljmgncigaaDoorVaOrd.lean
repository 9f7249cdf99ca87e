/-
  The document's own answer for values: Order.
-/
import Derived.Test.YtflmpljmgncigaaDoorVaOrder
namespace Go.Proofs.YtflmpljmgncigaaDoor.Va
open Go.RowKit

theorem ret_i {a b : Int} (h : a = b) : Ending.returned (.int .i64 a) = .returned (.int .i64 b) := by rw [h]
/-- Behind j numbers of both lists, which are the same. -/
def OrdR (w W0 : World) (x y : List Int) (j : Nat) (wr : World) : Prop := j ≤ x.length ∧ j ≤ y.length ∧ preB x y j = true ∧ Below W0.heap.size W0 wr ∧ Below w.heap.size w wr

set_option linter.unusedSimpArgs false
set_option maxRecDepth 100000 in
set_option maxHeartbeats 3200000 in
theorem refOrder_any (x y : V) (okx : VOk x) (oky : VOk y) (ax ay : Option Addr) (cx cy : Nat) (w : World) (hx : NumsAt w ax x.list) (hy : NumsAt w ay y.list) :
    Calls Tryd.prog 19 #[valC x ax cx, valC y ay cy] w fun e w' => e = .returned (.int .i64 (ordV x y)) ∧ Below w.heap.size w w' := by
  have hve := ordV_eq x y
  obtain ⟨k, n, t, l⟩ := x
  obtain ⟨k', n', t', l'⟩ := y
  simp only at hve
  have HB0 := Lib.hid (((Below.refl w.heap.size w).alloc (Nat.le_refl _) (boxO k n t l.length ax cx)).alloc (by simp) (boxO k' n' t' l'.length ay cy))
  have hl1 := okx.list
  have hl2 := oky.list
  simp only at hl1 hl2 hx hy
  have HX := Lib.hid hx
  have HY := Lib.hid hy
  clear okx oky hx hy
  unfold valC
  simp only
  by_cases hk : k = k'
  · subst hk
    rw [if_pos rfl] at hve
    by_cases hn : n = n'
    · subst hn
      rw [if_pos rfl] at hve
      by_cases ht : t = t'
      · subst ht
        rw [if_pos rfl] at hve
        have HV := Lib.hid hve
        have HX0 := Lib.hid (show ((w.alloc (boxO k n t l.length ax cx)).alloc (boxO k n t l'.length ay cy)).heap[w.heap.size]? = some (boxO k n t l.length ax cx) by
          rw [Below.heap_alloc _ _ _ (by simp)]; exact heap_alloc_new w _)
        have hb1 := heap_alloc_new (w.alloc (boxO k n t l.length ax cx)) (boxO k n t l'.length ay cy)
        rw [show (w.alloc (boxO k n t l.length ax cx)).heap.size = w.heap.size + 1 by simp] at hb1
        have HX1 := Lib.hid hb1
        clear hve hb1
        go_enter Tryd.func19, Tryd.ntmps19
        go_wp2_with fail
        go_loopw [5] (fun i wr => ∃ j : Nat, i = .int .i64 j ∧ OrdR w ((w.alloc (boxO k n t l.length ax cx)).alloc (boxO k n t l'.length ay cy)) l l' j wr) (fun i _ => l.length - (intOf i).toNat)
        case atStart => exact ⟨0, rfl, by omega, by omega, preB_zero l l', Below.refl _ _, HB0.out⟩
        case round =>
          obtain ⟨j, rfl, hj1, hj2, hp, hb0, hbw⟩ := hrel
          have HP := Lib.hid hp
          have HBB := Lib.hid hb0
          have HBW := Lib.hid hbw
          have hx0 := (hb0.block w.heap.size (lt_of_heapV HX0.out)).trans HX0.out
          have hx1 := (hb0.block (w.heap.size + 1) (lt_of_heapV HX1.out)).trans HX1.out
          have p0 : wr.cell? ⟨w.heap.size, 3, none⟩ = some (.slice ax l.length cx) := (cell_of_row wr _ 3 _ _ (0, 0) hx0).trans rfl
          have p1 : wr.cell? ⟨w.heap.size + 1, 3, none⟩ = some (.slice ay l'.length cy) := (cell_of_row wr _ 3 _ _ (0, 0) hx1).trans rfl
          clear hp hb0 hbw hx0 hx1
          by_cases h1 : j < l.length
          · by_cases h2 : j < l'.length
            · obtain ⟨g1, o1, rfl, q1, hg1⟩ := HX.out j h1
              obtain ⟨g2, o2, rfl, q2, hg2⟩ := HY.out j h2
              have r1 := (HBW.out.cell (p := ⟨g1, o1 + j, none⟩) hg1).trans q1
              have r2 := (HBW.out.cell (p := ⟨g2, o2 + j, none⟩) hg2).trans q2
              have hn := preB_succ l l' j h1 h2
              rw [HP.out, Bool.true_and] at hn
              have hat := ordL_at l l' j h1 h2 HP.out
              have hji1 : (j : Int) < (l.length : Int) := by omega
              have hji2 : (j : Int) < (l'.length : Int) := by omega
              generalize l.getD j 0 = u at *
              generalize l'.getD j 0 = u' at *
              have HBD := Lib.hid (show Below w.heap.size w wr.drew from ⟨HBW.out.os, HBW.out.tape, HBW.out.output, HBW.out.size, HBW.out.block⟩)
              have HBD2 := Lib.hid (show Below w.heap.size w wr.drew.drew from ⟨HBW.out.os, HBW.out.tape, HBW.out.output, HBW.out.size, HBW.out.block⟩)
              have HN := Lib.hid hn
              have HAT := Lib.hid hat
              clear hn hat q1 q2
              by_cases he : u = u'
              · have e1 : (u == u') = true := by simpa using he
                have e2 : (u != u') = false := by simpa using he
                have HE := Lib.hid e1
                clear he
                go_wp2_with fail
                go_region_held3 (fun w' => w'.cell? ⟨w.heap.size, 3, none⟩ = some (.slice (some ⟨g1, o1, none⟩) l.length cx) ∧ w'.cell? ⟨w.heap.size + 1, 3, none⟩ = some (.slice (some ⟨g2, o2, none⟩) l'.length cy) ∧ w'.cell? ⟨g1, o1 + j, none⟩ = some (.int .i64 u) ∧ w'.cell? ⟨g2, o2 + j, none⟩ = some (.int .i64 u'))
                  (first | assumption | go_keep) (fail)
                go_wp2_with fail
                go_roundw
                case rel => exact ⟨j + 1, by go_num, by omega, by omega, by rw [HN.out, HE.out], ⟨HBB.out.os, HBB.out.tape, HBB.out.output, HBB.out.size, HBB.out.block⟩, HBD.out⟩
                case measure => simp [intOf]; omega
              · have e1 : (u == u') = false := by simpa using he
                have e2 : (u != u') = true := by simpa using he
                have HL := Lib.hid (less_any u u')
                have HRES := Lib.hid (show ordI u u' = ordV _ _ from ((HV.out).trans (HAT.out he)).symm)
                clear he
                go_wp2_with fail
                go_region_held3 (fun w' => w'.cell? ⟨w.heap.size, 3, none⟩ = some (.slice (some ⟨g1, o1, none⟩) l.length cx) ∧ w'.cell? ⟨w.heap.size + 1, 3, none⟩ = some (.slice (some ⟨g2, o2, none⟩) l'.length cy) ∧ w'.cell? ⟨g1, o1 + j, none⟩ = some (.int .i64 u) ∧ w'.cell? ⟨g2, o2 + j, none⟩ = some (.int .i64 u'))
                  (first | assumption | go_keep) (fail)
                go_wp2_with fail
                go_region_held3 (fun w' => w'.cell? ⟨w.heap.size, 3, none⟩ = some (.slice (some ⟨g1, o1, none⟩) l.length cx) ∧ w'.cell? ⟨w.heap.size + 1, 3, none⟩ = some (.slice (some ⟨g2, o2, none⟩) l'.length cy) ∧ w'.cell? ⟨g1, o1 + j, none⟩ = some (.int .i64 u) ∧ w'.cell? ⟨g2, o2 + j, none⟩ = some (.int .i64 u'))
                  (first | assumption | go_keep)
                  (first | (go_at_call 41; refine (HL.out _).mono ?_; rintro e w' ⟨rfl, rfl⟩))
                go_wp2_with fail
                go_ret
                exact ⟨ret_i HRES.out, HBD2.out⟩
            · obtain rfl : j = l'.length := by omega
              have hend := ordL_end l l' _ hj1 hj2 (.inr rfl) HP.out
              have HRES := Lib.hid (show ordI (l.length : Int) (l'.length : Int) = ordV _ _ from ((HV.out).trans hend).symm)
              have HL := Lib.hid (less_any (l.length : Int) (l'.length : Int))
              clear hend
              go_wp2_with fail
              refine (HL.out _).mono ?_
              rintro e w' ⟨rfl, rfl⟩
              go_wp2_with fail
              go_ret
              exact ⟨ret_i HRES.out, HBW.out⟩
          · obtain rfl : j = l.length := by omega
            have hend := ordL_end l l' _ hj1 hj2 (.inl rfl) HP.out
            have HRES := Lib.hid (show ordI (l.length : Int) (l'.length : Int) = ordV _ _ from ((HV.out).trans hend).symm)
            have HL := Lib.hid (less_any (l.length : Int) (l'.length : Int))
            clear hend
            go_wp2_with fail
            refine (HL.out _).mono ?_
            rintro e w' ⟨rfl, rfl⟩
            go_wp2_with fail
            go_ret
            exact ⟨ret_i HRES.out, HBW.out⟩
      · rw [if_neg ht, less_T t t' ht, ← S_less] at hve
        have e1 : ((S t).toList == (S t').toList) = false := by rw [S_beq]; simpa using ht
        cases hb : Op.bytesLess (S t).toList (S t').toList with
        | true =>
          rw [hb, if_pos rfl] at hve
          have HRES := Lib.hid hve.symm
          clear hve ht
          go_enter Tryd.func19, Tryd.ntmps19
          go_wp2_with fail
          go_ret
          exact ⟨ret_i HRES.out, HB0.out⟩
        | false =>
          rw [hb, if_neg (by simp)] at hve
          have HRES := Lib.hid hve.symm
          clear hve ht
          go_enter Tryd.func19, Tryd.ntmps19
          go_wp2_with fail
          go_ret
          exact ⟨ret_i HRES.out, HB0.out⟩
    · rw [if_neg hn] at hve
      have e1 : (n == n') = false := by simpa using hn
      have e2 : (n != n') = true := by simpa using hn
      have HRES := Lib.hid hve.symm
      have HL := Lib.hid (less_any n n')
      clear hve hn
      go_enter Tryd.func19, Tryd.ntmps19
      go_wp2_with fail
      refine (HL.out _).mono ?_
      rintro e w' ⟨rfl, rfl⟩
      go_wp2_with fail
      go_ret
      exact ⟨ret_i HRES.out, HB0.out⟩
  · rw [if_neg hk] at hve
    have e1 : (k == k') = false := by simpa using hk
    have e2 : (k != k') = true := by simpa using hk
    have HRES := Lib.hid hve.symm
    have HL := Lib.hid (less_any k k')
    clear hve hk
    go_enter Tryd.func19, Tryd.ntmps19
    go_wp2_with fail
    refine (HL.out _).mono ?_
    rintro e w' ⟨rfl, rfl⟩
    go_wp2_with fail
    go_ret
    exact ⟨ret_i HRES.out, HB0.out⟩

end Go.Proofs.YtflmpljmgncigaaDoor.Va
