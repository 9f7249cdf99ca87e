/-
  ValueRanks, walked.
-/
import Derived.Test.YtflmpljmgncigaaDoorVlAwake
import Derived.Test.YtflmpljmgncigaaDoorVlOpen
namespace Go.Proofs.YtflmpljmgncigaaDoor.Va
open Go.RowKit

theorem ordV_rng (a b : V) : -1 ≤ ordV a b ∧ ordV a b ≤ 1 := by
  have hI : ∀ x y : Int, -1 ≤ ordI x y ∧ ordI x y ≤ 1 := fun x y => by unfold ordI; split <;> (try split) <;> omega
  have hL : ∀ x y : List Int, -1 ≤ ordL x y ∧ ordL x y ≤ 1 := by
    intro x
    induction x with
    | nil => intro y; cases y <;> simp [ordL]
    | cons c r ih => intro y; cases y with
      | nil => simp [ordL]
      | cons d s => unfold ordL; split; exact ih s; exact hI _ _
  have hT : ∀ x y : List UInt8, -1 ≤ ordT x y ∧ ordT x y ≤ 1 := fun x y => by rw [ordT_map]; exact hL _ _
  unfold ordV
  split; exact hI _ _
  split; exact hI _ _
  split; exact hT _ _
  exact hL _ _
theorem ordV_self (a : V) : ordV a a = 0 := (ordV_zero a a).2 rfl

/-- A value that lies in a box. -/
def BoxAt (w : World) (b : Nat) (v : V) (a : Option Addr) (cap : Nat) : Prop := w.heap[b]? = some (boxO v.kind v.num v.text v.list.length a cap)
theorem BoxAt.cells {w : World} {b : Nat} {k n : Int} {t : List UInt8} {l : List Int} {a : Option Addr} {cap : Nat} (h : BoxAt w b ⟨k, n, t, l⟩ a cap) :
    w.cell? ⟨b, 0, none⟩ = some (.int .i64 k) ∧ w.cell? ⟨b, 1, none⟩ = some (.int .i64 n) ∧ w.cell? ⟨b, 2, none⟩ = some (.string (S t)) ∧ w.cell? ⟨b, 3, none⟩ = some (.slice a l.length cap) :=
  ⟨(cell_of_row w _ 0 _ _ (0, 0) h).trans rfl, (cell_of_row w _ 1 _ _ (0, 0) h).trans rfl, (cell_of_row w _ 2 _ _ (0, 0) h).trans rfl, (cell_of_row w _ 3 _ _ (0, 0) h).trans rfl⟩
theorem BoxAt.good {W0 w : World} {b : Nat} {v : V} {a : Option Addr} {cap : Nat} (h : BoxAt W0 b v a cap) (g : Good W0 w) : BoxAt w b v a cap :=
  (g.block b (lt_of_heapV h)).trans h

set_option linter.unusedSimpArgs false
set_option maxRecDepth 100000 in
set_option maxHeartbeats 6400000 in
theorem ValueRanks_walk (x y z : V) (okx : VOk x) (oky : VOk y) (okz : VOk z) (ax ay az : Option Addr) (cx cy cz : Nat) (w : World) (hx : NumsAt w ax x.list) (hy : NumsAt w ay y.list) (hz : NumsAt w az z.list) (htab : Tab w) :
    Calls Tryd.prog 6 #[valC x ax cx, valC y ay cy, valC z az cz] w fun e w' => e = .returned (.bool true) ∧ Below w.heap.size w w' := by
  obtain ⟨W0, hW0⟩ : ∃ W0, W0 = ((w.alloc (boxO x.kind x.num x.text x.list.length ax cx)).alloc (boxO y.kind y.num y.text y.list.length ay cy)).alloc (boxO z.kind z.num z.text z.list.length az cz) := ⟨_, rfl⟩
  have hbel : Below w.heap.size w W0 := by
    rw [hW0]
    exact (((Below.refl w.heap.size w).alloc (Nat.le_refl _) _).alloc (by simp) _).alloc (by simp; omega) _
  have hsz1 : (w.alloc (boxO x.kind x.num x.text x.list.length ax cx)).heap.size = w.heap.size + 1 := by simp
  have hsz2 : ((w.alloc (boxO x.kind x.num x.text x.list.length ax cx)).alloc (boxO y.kind y.num y.text y.list.length ay cy)).heap.size = w.heap.size + 1 + 1 := by simp
  have bx : BoxAt W0 w.heap.size x ax cx := by
    rw [hW0]; unfold BoxAt
    rw [Below.heap_alloc _ _ _ (by simp; omega), Below.heap_alloc _ _ _ (by simp)]; exact heap_alloc_new w _
  have bY : BoxAt W0 (w.heap.size + 1) y ay cy := by
    rw [hW0]; unfold BoxAt
    rw [Below.heap_alloc _ _ _ (by simp), ← hsz1]; exact heap_alloc_new _ _
  have bz : BoxAt W0 (w.heap.size + 1 + 1) z az cz := by
    rw [hW0]; unfold BoxAt
    rw [← hsz2]; exact heap_alloc_new _ _
  have hRx := fun (wr : World) (h : Good W0 wr) => (fun _ => refRight_any x okx ax cx wr) h
  have hRy := fun (wr : World) (h : Good W0 wr) => (fun _ => refRight_any y oky ay cy wr) h
  have hRz := fun (wr : World) (h : Good W0 wr) => (fun _ => refRight_any z okz az cz wr) h
  have hO : ∀ (p q : V) (ap aq : Option Addr) (cp cq : Nat), VOk p → VOk q → NumsAt w ap p.list → NumsAt w aq q.list → ∀ wr : World, Good W0 wr → Calls Tryd.prog 18 #[valC p ap cp, valC q aq cq] wr fun e w' => e = .returned (.int .i64 (ordV p q)) ∧ Good W0 w' := fun p q ap aq cp cq okp okq hp hq wr h => by
    refine (Order_any p q okp okq ap aq cp cq wr ((hp.below hbel).below h) ((hq.below hbel).below h)).mono ?_
    rintro e w' ⟨rfl, b⟩
    exact ⟨rfl, h.step b⟩
  have hxy := hO x y ax ay cx cy okx oky hx hy
  have hyz := hO y z ay az cy cz oky okz hy hz
  have hxz := hO x z ax az cx cz okx okz hx hz
  have hyx := hO y x ay ax cy cx oky okx hy hx
  have hxx := hO x x ax ax cx cx okx okx hx hx
  rw [ordV_swap x y] at hyx
  rw [ordV_self] at hxx
  have hmath : (ordV x y ≤ 0 → ordV y z ≤ 0 → ordV x z ≤ 0) ∧ (0 ≤ ordV x y → 0 ≤ ordV y z → 0 ≤ ordV x z) := ⟨fun a b => cmpV.le a b, fun a b => cmpV.ge a b⟩
  have hr1 := ordV_rng x y
  have hr2 := ordV_rng y z
  have hr3 := ordV_rng x z
  have HAW := Lib.hid (fun (wr : World) (h : Good W0 wr) => awake_any wr ((htab.below hbel).below h))
  have HG0 := Lib.hid (Good.refl W0)
  have hkeep : ∀ wr, Good W0 wr → BoxAt wr w.heap.size x ax cx ∧ BoxAt wr (w.heap.size + 1) y ay cy ∧ BoxAt wr (w.heap.size + 1 + 1) z az cz := fun wr h => ⟨bx.good h, bY.good h, bz.good h⟩
  have HBEL := Lib.hid hbel
  have HFIN := Lib.hid (fun (wr : World) (h : Good W0 wr) => hbel.trans (h.mono hbel.size))
  generalize ordV x y = o1 at *
  generalize ordV y z = o2 at *
  generalize ordV x z = o3 at *
  generalize rightB x = rx at *
  generalize rightB y = ry at *
  generalize rightB z = rz at *
  obtain ⟨xk, xn, xt, xl⟩ := x
  obtain ⟨yk, yn, yt, yl⟩ := y
  obtain ⟨zk, zn, zt, zl⟩ := z
  unfold valC at *
  simp only at *
  have HKEEP := Lib.hid (fun wr (h : Good W0 wr) => And.intro (hkeep wr h).1.cells (And.intro (hkeep wr h).2.1.cells (hkeep wr h).2.2.cells))
  have HRX := Lib.hid hRx
  have HRY := Lib.hid hRy
  have HRZ := Lib.hid hRz
  have HXY := Lib.hid hxy
  have HYZ := Lib.hid hyz
  have HXZ := Lib.hid hxz
  have HYX := Lib.hid hyx
  have HXX := Lib.hid hxx
  have HMATH := Lib.hid hmath
  have HW0 := Lib.hid hW0
  clear okx oky okz hx hy hz htab hbel hsz1 hsz2 bx bY bz hRx hRy hRz hO hxy hyz hxz hyx hxx hmath hkeep hW0
  go_enter Tryd.func6, Tryd.ntmps6
  go_wp2_with fail
  have hw0 := HW0.out
  unfold boxO at hw0
  rw [← hw0]
  clear hw0
  refine (HAW.out _ HG0.out).mono ?_
  rintro e w1 ⟨rfl, b1⟩
  have HG1 := Lib.hid (HG0.out.step b1)
  obtain ⟨⟨p0, p1, p2, p3⟩, ⟨q0, q1, q2, q3⟩, ⟨r0, r1, r2, r3⟩⟩ := HKEEP.out _ HG1.out
  clear b1
  cases rx with
  | false =>
    go_wp2_with fail
    refine (HRX.out _ HG1.out).mono ?_
    rintro e w2 ⟨rfl, b2⟩
    have HG2 := Lib.hid (HG1.out.step b2)
    obtain ⟨⟨p0, p1, p2, p3⟩, ⟨q0, q1, q2, q3⟩, ⟨r0, r1, r2, r3⟩⟩ := HKEEP.out _ HG2.out
    clear b2
    go_wp2_with fail
    refine (HAW.out _ HG2.out).mono ?_
    rintro e w3 ⟨rfl, b3⟩
    have HG3 := Lib.hid (HG2.out.step b3)
    obtain ⟨⟨p0, p1, p2, p3⟩, ⟨q0, q1, q2, q3⟩, ⟨r0, r1, r2, r3⟩⟩ := HKEEP.out _ HG3.out
    clear b3
    go_wp2_with fail
    go_ret
    exact ⟨rfl, HFIN.out _ HG3.out⟩
  | true =>
    cases ry with
    | false =>
      go_wp2_with fail
      refine (HRX.out _ HG1.out).mono ?_
      rintro e w2 ⟨rfl, b2⟩
      have HG2 := Lib.hid (HG1.out.step b2)
      obtain ⟨⟨p0, p1, p2, p3⟩, ⟨q0, q1, q2, q3⟩, ⟨r0, r1, r2, r3⟩⟩ := HKEEP.out _ HG2.out
      clear b2
      go_wp2_with fail
      refine (HRY.out _ HG2.out).mono ?_
      rintro e w3 ⟨rfl, b3⟩
      have HG3 := Lib.hid (HG2.out.step b3)
      obtain ⟨⟨p0, p1, p2, p3⟩, ⟨q0, q1, q2, q3⟩, ⟨r0, r1, r2, r3⟩⟩ := HKEEP.out _ HG3.out
      clear b3
      go_wp2_with fail
      refine (HAW.out _ HG3.out).mono ?_
      rintro e w4 ⟨rfl, b4⟩
      have HG4 := Lib.hid (HG3.out.step b4)
      obtain ⟨⟨p0, p1, p2, p3⟩, ⟨q0, q1, q2, q3⟩, ⟨r0, r1, r2, r3⟩⟩ := HKEEP.out _ HG4.out
      clear b4
      go_wp2_with fail
      go_ret
      exact ⟨rfl, HFIN.out _ HG4.out⟩
    | true =>
      cases rz with
      | false =>
        go_wp2_with fail
        refine (HRX.out _ HG1.out).mono ?_
        rintro e w2 ⟨rfl, b2⟩
        have HG2 := Lib.hid (HG1.out.step b2)
        obtain ⟨⟨p0, p1, p2, p3⟩, ⟨q0, q1, q2, q3⟩, ⟨r0, r1, r2, r3⟩⟩ := HKEEP.out _ HG2.out
        clear b2
        go_wp2_with fail
        refine (HRY.out _ HG2.out).mono ?_
        rintro e w3 ⟨rfl, b3⟩
        have HG3 := Lib.hid (HG2.out.step b3)
        obtain ⟨⟨p0, p1, p2, p3⟩, ⟨q0, q1, q2, q3⟩, ⟨r0, r1, r2, r3⟩⟩ := HKEEP.out _ HG3.out
        clear b3
        go_wp2_with fail
        refine (HRZ.out _ HG3.out).mono ?_
        rintro e w4 ⟨rfl, b4⟩
        have HG4 := Lib.hid (HG3.out.step b4)
        obtain ⟨⟨p0, p1, p2, p3⟩, ⟨q0, q1, q2, q3⟩, ⟨r0, r1, r2, r3⟩⟩ := HKEEP.out _ HG4.out
        clear b4
        go_wp2_with fail
        refine (HAW.out _ HG4.out).mono ?_
        rintro e w5 ⟨rfl, b5⟩
        have HG5 := Lib.hid (HG4.out.step b5)
        obtain ⟨⟨p0, p1, p2, p3⟩, ⟨q0, q1, q2, q3⟩, ⟨r0, r1, r2, r3⟩⟩ := HKEEP.out _ HG5.out
        clear b5
        go_wp2_with fail
        go_ret
        exact ⟨rfl, HFIN.out _ HG5.out⟩
      | true =>
        go_wp2_with fail
        refine (HRX.out _ HG1.out).mono ?_
        rintro e w2 ⟨rfl, b2⟩
        have HG2 := Lib.hid (HG1.out.step b2)
        obtain ⟨⟨p0, p1, p2, p3⟩, ⟨q0, q1, q2, q3⟩, ⟨r0, r1, r2, r3⟩⟩ := HKEEP.out _ HG2.out
        clear b2
        go_wp2_with fail
        refine (HRY.out _ HG2.out).mono ?_
        rintro e w3 ⟨rfl, b3⟩
        have HG3 := Lib.hid (HG2.out.step b3)
        obtain ⟨⟨p0, p1, p2, p3⟩, ⟨q0, q1, q2, q3⟩, ⟨r0, r1, r2, r3⟩⟩ := HKEEP.out _ HG3.out
        clear b3
        go_wp2_with fail
        refine (HRZ.out _ HG3.out).mono ?_
        rintro e w4 ⟨rfl, b4⟩
        have HG4 := Lib.hid (HG3.out.step b4)
        obtain ⟨⟨p0, p1, p2, p3⟩, ⟨q0, q1, q2, q3⟩, ⟨r0, r1, r2, r3⟩⟩ := HKEEP.out _ HG4.out
        clear b4
        go_wp2_with fail
        have HST := Lib.hid (HKEEP.out _ HG4.out.drew)
        go_region_held3 (fun w7 => (((w7.cell? ⟨w.heap.size, 0, none⟩ = some (.int .i64 xk) ∧ w7.cell? ⟨w.heap.size, 1, none⟩ = some (.int .i64 xn) ∧ w7.cell? ⟨w.heap.size, 2, none⟩ = some (.string (S xt)) ∧ w7.cell? ⟨w.heap.size, 3, none⟩ = some (.slice ax xl.length cx))) ∧ ((w7.cell? ⟨w.heap.size + 1, 0, none⟩ = some (.int .i64 yk) ∧ w7.cell? ⟨w.heap.size + 1, 1, none⟩ = some (.int .i64 yn) ∧ w7.cell? ⟨w.heap.size + 1, 2, none⟩ = some (.string (S yt)) ∧ w7.cell? ⟨w.heap.size + 1, 3, none⟩ = some (.slice ay yl.length cy))) ∧ ((w7.cell? ⟨w.heap.size + 1 + 1, 0, none⟩ = some (.int .i64 zk) ∧ w7.cell? ⟨w.heap.size + 1 + 1, 1, none⟩ = some (.int .i64 zn) ∧ w7.cell? ⟨w.heap.size + 1 + 1, 2, none⟩ = some (.string (S zt)) ∧ w7.cell? ⟨w.heap.size + 1 + 1, 3, none⟩ = some (.slice az zl.length cz)))))
          (first | assumption | exact HST.out | exact HK7.out)
          (first | (go_at_call 18; with_reducible refine (HXY.out _ (by first | exact good_id (by assumption) | exact good_drew (by assumption) | exact good_drew2 (by assumption))).mono ?_; rintro e w7 ⟨rfl, b7⟩; have HG7 := Lib.hid b7; have HK7 := Lib.hid (HKEEP.out _ b7); clear b7) | (go_at_call 18; with_reducible refine (HYZ.out _ (by first | exact good_id (by assumption) | exact good_drew (by assumption) | exact good_drew2 (by assumption))).mono ?_; rintro e w7 ⟨rfl, b7⟩; have HG7 := Lib.hid b7; have HK7 := Lib.hid (HKEEP.out _ b7); clear b7) | (go_at_call 18; with_reducible refine (HXZ.out _ (by first | exact good_id (by assumption) | exact good_drew (by assumption) | exact good_drew2 (by assumption))).mono ?_; rintro e w7 ⟨rfl, b7⟩; have HG7 := Lib.hid b7; have HK7 := Lib.hid (HKEEP.out _ b7); clear b7))
        all_goals
          have hm1 := HMATH.out.1
          have hm2 := HMATH.out.2
          have hcs : (0 < o1 ∧ o2 < 0) ∨ (0 < o1 ∧ 0 ≤ o2 ∧ 0 ≤ o3) ∨ (o1 = 0 ∧ 0 < o2 ∧ 0 ≤ o3) ∨ (o1 = 0 ∧ o2 = 0 ∧ o3 = 0) ∨ (o1 = 0 ∧ o2 < 0 ∧ o3 ≤ 0) ∨ (o1 < 0 ∧ 0 < o2) ∨ (o1 < 0 ∧ o2 ≤ 0 ∧ o3 ≤ 0) := by omega
          clear hm1 hm2
          rcases hcs with ⟨a1, a2⟩ | ⟨a1, a2, a3⟩ | ⟨rfl, a2, a3⟩ | ⟨rfl, rfl, rfl⟩ | ⟨rfl, a2, a3⟩ | ⟨a1, a2⟩ | ⟨a1, a2, a3⟩
          all_goals
            have hnn : True := trivial
            try (have a1n : ¬ o1 ≤ 0 := by omega)
            try (have a1m : ¬ 0 ≤ o1 := by omega)
            try (have a2n : ¬ 0 < o2 := by omega)
            try (have a2m : ¬ o2 < 0 := by omega)
            try (have a1k : ¬ o1 < 0 := by omega)
            try (have a1l : ¬ 0 < o1 := by omega)
            go_wp2_with fail
            refine (HAW.out _ (by first | exact good_id (by assumption) | exact good_drew (by assumption) | exact good_drew2 (by assumption))).mono ?_
            rintro e w8 ⟨rfl, b8⟩
            have HG8 := Lib.hid (Good.step (by first | exact good_id (by assumption) | exact good_drew (by assumption) | exact good_drew2 (by assumption)) b8)
            obtain ⟨⟨p0, p1, p2, p3⟩, ⟨q0, q1, q2, q3⟩, ⟨r0, r1, r2, r3⟩⟩ := HKEEP.out _ HG8.out
            clear b8
            go_wp2_with fail
            refine (HYX.out _ HG8.out).mono ?_
            rintro e w9 ⟨rfl, b9⟩
            have HG9 := Lib.hid b9
            obtain ⟨⟨p0, p1, p2, p3⟩, ⟨q0, q1, q2, q3⟩, ⟨r0, r1, r2, r3⟩⟩ := HKEEP.out _ HG9.out
            clear b9
            go_wp2_with fail
            refine (HXX.out _ HG9.out).mono ?_
            rintro e w10 ⟨rfl, b10⟩
            have HG10 := Lib.hid b10
            clear b10
            go_wp2_with fail
            go_ret
            exact ⟨rfl, HFIN.out _ HG10.out⟩

theorem ValueRanks_door (x : V) (ax : Option Addr) (cx : Nat) (y : V) (ay : Option Addr) (cy : Nat) (z : V) (az : Option Addr) (cz : Nat) (w : World) (vx : VArg x) (hx : NumsAt w ax x.list) (vy : VArg y) (hy : NumsAt w ay y.list) (vz : VArg z) (hz : NumsAt w az z.list) (htab : Tab w) :
    Calls Tryd.prog 6 #[valC x ax cx, valC y ay cy, valC z az cz] w fun e w' => e = .returned (.bool true) ∧ Below w.heap.size w w' := ValueRanks_walk x y z vx.ok vy.ok vz.ok ax ay az cx cy cz w hx hy hz htab

end Go.Proofs.YtflmpljmgncigaaDoor.Va
