/-
  ValueOrders, walked.
-/
import Derived.Test.YtflmpljmgncigaaDoorVlAwake
import Derived.Test.YtflmpljmgncigaaDoorVlOpen
import Derived.Test.YtflmpljmgncigaaDoorVlLawRanks
namespace Go.Proofs.YtflmpljmgncigaaDoor.Va
open Go.RowKit

set_option linter.unusedSimpArgs false
set_option maxRecDepth 100000 in
set_option maxHeartbeats 12800000 in
theorem ValueOrders_walk (x : V) (ax : Option Addr) (cx : Nat) (y : V) (ay : Option Addr) (cy : Nat) (w : World) (vx : VArg x) (hx : NumsAt w ax x.list) (vy : VArg y) (hy : NumsAt w ay y.list) (htab : Tab w) :
    Calls Tryd.prog 4 #[valC x ax cx, valC y ay cy] w fun e w' => e = .returned (.bool true) ∧ Below w.heap.size w w' := by
  have okx := vx.ok
  have oky := vy.ok
  obtain ⟨W0, hW0⟩ : ∃ W0, W0 = (w.alloc (boxO x.kind x.num x.text x.list.length ax cx)).alloc (boxO y.kind y.num y.text y.list.length ay cy) := ⟨_, rfl⟩
  have hbel : Below w.heap.size w W0 := by rw [hW0]; exact ((Below.refl w.heap.size w).alloc (Nat.le_refl _) _).alloc (by simp) _
  have hsz1 : (w.alloc (boxO x.kind x.num x.text x.list.length ax cx)).heap.size = w.heap.size + 1 := by simp
  have bx : BoxAt W0 w.heap.size x ax cx := by
    rw [hW0]; unfold BoxAt
    rw [Below.heap_alloc _ _ _ (by simp)]; exact heap_alloc_new w _
  have bY : BoxAt W0 (w.heap.size + 1) y ay cy := by
    rw [hW0]; unfold BoxAt
    rw [← hsz1]; exact heap_alloc_new _ _
  have hAw : ∀ wr, Good W0 wr → Calls Tryd.prog 13 #[] wr fun e w' => e = .returned (.bool true) ∧ Good W0 w' := fun wr h => by
    refine (awake_any wr ((htab.below hbel).below h)).mono ?_
    rintro e w' ⟨rfl, b⟩
    exact ⟨rfl, h.step b⟩
  have hRx : ∀ wr, Good W0 wr → Calls Tryd.prog 17 #[valC x ax cx] wr fun e w' => e = .returned (.bool (rightB x)) ∧ Good W0 w' := fun wr h => by
    refine (refRight_any x okx ax cx wr).mono ?_
    rintro e w' ⟨rfl, b⟩
    exact ⟨rfl, h.step b⟩
  have hRy : ∀ wr, Good W0 wr → Calls Tryd.prog 17 #[valC y ay cy] wr fun e w' => e = .returned (.bool (rightB y)) ∧ Good W0 w' := fun wr h => by
    refine (refRight_any y oky ay cy wr).mono ?_
    rintro e w' ⟨rfl, b⟩
    exact ⟨rfl, h.step b⟩
  have hOp : ∀ wr, Good W0 wr → Calls Tryd.prog 18 #[valC x ax cx, valC y ay cy] wr fun e w' => e = .returned (.int .i64 (ordV x y)) ∧ Good W0 w' := fun wr h => by
    refine (Order_any x y okx oky ax ay cx cy wr ((hx.below hbel).below h) ((hy.below hbel).below h)).mono ?_
    rintro e w' ⟨rfl, b⟩
    exact ⟨rfl, h.step b⟩
  have hOr : ∀ wr, Good W0 wr → Calls Tryd.prog 19 #[valC x ax cx, valC y ay cy] wr fun e w' => e = .returned (.int .i64 (ordV x y)) ∧ Good W0 w' := fun wr h => by
    refine (refOrder_any x y okx oky ax ay cx cy wr ((hx.below hbel).below h) ((hy.below hbel).below h)).mono ?_
    rintro e w' ⟨rfl, b⟩
    exact ⟨rfl, h.step b⟩
  have hSp : ∀ wr, Good W0 wr → Calls Tryd.prog 20 #[valC x ax cx, valC y ay cy] wr fun e w' => e = .returned (.bool (sameV x y)) ∧ Good W0 w' := fun wr h => by
    refine (Same_any x y okx oky ax ay cx cy wr ((hx.below hbel).below h) ((hy.below hbel).below h)).mono ?_
    rintro e w' ⟨rfl, b⟩
    exact ⟨rfl, h.step b⟩
  have hSr : ∀ wr, Good W0 wr → Calls Tryd.prog 21 #[valC x ax cx, valC y ay cy] wr fun e w' => e = .returned (.bool (sameV x y)) ∧ Good W0 w' := fun wr h => by
    refine (refSame_any x y okx oky ax ay cx cy wr ((hx.below hbel).below h) ((hy.below hbel).below h)).mono ?_
    rintro e w' ⟨rfl, b⟩
    exact ⟨rfl, h.step b⟩
  have hsame : sameV x y = (ordV x y == 0) := by
    rw [Bool.eq_iff_iff, sameV_iff, beq_iff_eq, ordV_zero]
  have HG0 := Lib.hid (Good.refl W0)
  have HFIN := Lib.hid (fun (wr : World) (h : Good W0 wr) => hbel.trans (h.mono hbel.size))
  have hkeep : ∀ wr, Good W0 wr → BoxAt wr w.heap.size x ax cx ∧ BoxAt wr (w.heap.size + 1) y ay cy := fun wr h => ⟨bx.good h, bY.good h⟩
  generalize ordV x y = od at *
  generalize sameV x y = sm at *
  generalize rightB x = rx at *
  generalize rightB y = ry at *
  obtain ⟨xk, xn, xt, xl⟩ := x
  obtain ⟨yk, yn, yt, yl⟩ := y
  unfold valC at *
  simp only at *
  have HKEEP := Lib.hid (fun wr (h : Good W0 wr) => And.intro (hkeep wr h).1.cells (hkeep wr h).2.cells)
  have HAW := Lib.hid hAw
  have HRX := Lib.hid hRx
  have HRY := Lib.hid hRy
  have HOP := Lib.hid hOp
  have HOR := Lib.hid hOr
  have HSP := Lib.hid hSp
  have HSR := Lib.hid hSr
  have HW0 := Lib.hid hW0
  have e1 : (od == od) = true := by simp
  have e2 : (sm == sm) = true := by simp
  have e3 : (sm == (od == 0)) = true := by rw [hsame]; simp
  clear okx oky vx vy hx hy htab hbel hsz1 bx bY hAw hRx hRy hOp hOr hSp hSr hkeep hW0 hsame
  go_enter Tryd.func4, Tryd.ntmps4
  go_wp2_with fail
  have hw0 := HW0.out
  unfold boxO at hw0
  rw [← hw0]
  clear hw0
  refine (HAW.out _ HG0.out).mono ?_
  rintro e w1 ⟨rfl, b1⟩
  have HG1 := Lib.hid b1
  obtain ⟨⟨p0, p1, p2, p3⟩, ⟨q0, q1, q2, q3⟩⟩ := HKEEP.out _ HG1.out
  clear b1
  cases rx with
  | false =>
    go_wp2_with fail
    refine (HRX.out _ HG1.out).mono ?_
    rintro e w2 ⟨rfl, b2⟩
    have HG2 := Lib.hid b2
    obtain ⟨⟨p0, p1, p2, p3⟩, ⟨q0, q1, q2, q3⟩⟩ := HKEEP.out _ HG2.out
    clear b2
    go_wp2_with fail
    refine (HAW.out _ HG2.out).mono ?_
    rintro e w3 ⟨rfl, b3⟩
    have HG3 := Lib.hid b3
    obtain ⟨⟨p0, p1, p2, p3⟩, ⟨q0, q1, q2, q3⟩⟩ := HKEEP.out _ HG3.out
    clear b3
    go_wp2_with fail
    go_ret
    exact ⟨rfl, HFIN.out _ HG3.out⟩
  | true =>
    cases ry with
    | false =>
      go_wp2_with fail
      refine (HRX.out _ HG1.out).mono ?_
      rintro e w2 ⟨rfl, b2⟩
      have HG2 := Lib.hid b2
      obtain ⟨⟨p0, p1, p2, p3⟩, ⟨q0, q1, q2, q3⟩⟩ := HKEEP.out _ HG2.out
      clear b2
      go_wp2_with fail
      refine (HRY.out _ HG2.out).mono ?_
      rintro e w3 ⟨rfl, b3⟩
      have HG3 := Lib.hid b3
      obtain ⟨⟨p0, p1, p2, p3⟩, ⟨q0, q1, q2, q3⟩⟩ := HKEEP.out _ HG3.out
      clear b3
      go_wp2_with fail
      refine (HAW.out _ HG3.out).mono ?_
      rintro e w4 ⟨rfl, b4⟩
      have HG4 := Lib.hid b4
      obtain ⟨⟨p0, p1, p2, p3⟩, ⟨q0, q1, q2, q3⟩⟩ := HKEEP.out _ HG4.out
      clear b4
      go_wp2_with fail
      go_ret
      exact ⟨rfl, HFIN.out _ HG4.out⟩
    | true =>
      go_wp2_with fail
      refine (HRX.out _ HG1.out).mono ?_
      rintro e w2 ⟨rfl, b2⟩
      have HG2 := Lib.hid b2
      obtain ⟨⟨p0, p1, p2, p3⟩, ⟨q0, q1, q2, q3⟩⟩ := HKEEP.out _ HG2.out
      clear b2
      go_wp2_with fail
      refine (HRY.out _ HG2.out).mono ?_
      rintro e w3 ⟨rfl, b3⟩
      have HG3 := Lib.hid b3
      obtain ⟨⟨p0, p1, p2, p3⟩, ⟨q0, q1, q2, q3⟩⟩ := HKEEP.out _ HG3.out
      clear b3
      go_wp2_with fail
      have HST := Lib.hid (HKEEP.out _ HG3.out.drew)
      go_region_held3 (fun w7 => ((w7.cell? ⟨w.heap.size, 0, none⟩ = some (.int .i64 xk) ∧ w7.cell? ⟨w.heap.size, 1, none⟩ = some (.int .i64 xn) ∧ w7.cell? ⟨w.heap.size, 2, none⟩ = some (.string (S xt)) ∧ w7.cell? ⟨w.heap.size, 3, none⟩ = some (.slice ax xl.length cx))) ∧ ((w7.cell? ⟨w.heap.size + 1, 0, none⟩ = some (.int .i64 yk) ∧ w7.cell? ⟨w.heap.size + 1, 1, none⟩ = some (.int .i64 yn) ∧ w7.cell? ⟨w.heap.size + 1, 2, none⟩ = some (.string (S yt)) ∧ w7.cell? ⟨w.heap.size + 1, 3, none⟩ = some (.slice ay yl.length cy))))
        (first | assumption | exact HST.out | exact HK7.out)
        (first
        | (go_at_call 13; with_reducible refine (HAW.out _ (by first | exact good_id (by assumption) | exact good_drew (by assumption))).mono ?_; rintro e w7 ⟨rfl, b7⟩; have HG7 := Lib.hid b7; have HK7 := Lib.hid (HKEEP.out _ b7); clear b7)
        | (go_at_call 18; with_reducible refine (HOP.out _ (by first | exact good_id (by assumption) | exact good_drew (by assumption))).mono ?_; rintro e w7 ⟨rfl, b7⟩; have HG7 := Lib.hid b7; have HK7 := Lib.hid (HKEEP.out _ b7); clear b7)
        | (go_at_call 19; with_reducible refine (HOR.out _ (by first | exact good_id (by assumption) | exact good_drew (by assumption))).mono ?_; rintro e w7 ⟨rfl, b7⟩; have HG7 := Lib.hid b7; have HK7 := Lib.hid (HKEEP.out _ b7); clear b7)
        | (go_at_call 20; with_reducible refine (HSP.out _ (by first | exact good_id (by assumption) | exact good_drew (by assumption))).mono ?_; rintro e w7 ⟨rfl, b7⟩; have HG7 := Lib.hid b7; have HK7 := Lib.hid (HKEEP.out _ b7); clear b7)
        | (go_at_call 21; with_reducible refine (HSR.out _ (by first | exact good_id (by assumption) | exact good_drew (by assumption))).mono ?_; rintro e w7 ⟨rfl, b7⟩; have HG7 := Lib.hid b7; have HK7 := Lib.hid (HKEEP.out _ b7); clear b7))
      all_goals
        go_wp2_with fail
        go_ret
        exact ⟨rfl, HFIN.out _ (by first | exact good_id (by assumption) | exact good_drew (by assumption))⟩

end Go.Proofs.YtflmpljmgncigaaDoor.Va
