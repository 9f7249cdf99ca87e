/-
  LxGood, LxName, LxDigits.
-/
import Derived.Test.YtlmmfhbdebfgkaaGreatDoorYExPureQ
import Derived.Test.YtlmmfhbdebfgkaaGreatDoorYLxRBlankQ
import Derived.Test.YtlmmfhbdebfgkaaGreatDoorYVlPrintQ
import Derived.Test.YtlmmfhbdebfgkaaGreatDoorYVlCmpQ
import Derived.Lib.SmallJoins
namespace Go.Proofs.YtlmmfhbdebfgkaaGreatDoor.Lx
open Go.RowKit
def Good (W0 w : World) : Prop := Below W0.heap.size W0 w
theorem Good.refl (w : World) : Good w w := Below.refl _ _
theorem Good.step {W0 w w' : World} (h : Good W0 w) (b : Below w.heap.size w w') : Good W0 w' := Below.trans h (b.mono h.size)
theorem Good.drew {W0 w : World} (h : Good W0 w) : Good W0 w.drew := ⟨h.os, h.tape, h.output, h.size, h.block⟩
theorem Good.alloc {W0 w : World} (h : Good W0 w) (o : Obj) : Good W0 (w.alloc o) := Below.alloc h h.size o
theorem good_id {W0 w : World} (h : Hid (Good W0 w)) : Good W0 w := h.out
theorem good_drew {W0 w : World} (h : Hid (Good W0 w)) : Good W0 w.drew := h.out.drew
end Go.Proofs.YtlmmfhbdebfgkaaGreatDoor.Lx
namespace Go.Proofs.YtlmmfhbdebfgkaaGreatDoor.Lx
open Go.RowKit
open Va
theorem clone_any (s : ByteArray) (hs : s.size ≤ 281474976710656) (w : World) :
    Calls Tryz.prog 53 #[.string s] w fun e w' => e = .returned (.string s) ∧ Below w.heap.size w w' := by
  go_enter Tryz.func53, Tryz.ntmps53
  go_wp2_with fail
  refine (Tryz.stringslite_Clone s _ hs).mono ?_
  rintro e w' ⟨rfl, hb⟩
  have HB := Lib.hid hb
  clear hb
  go_wp2_with fail
  go_ret
  exact ⟨rfl, HB.out⟩
def tokC (k : Int) (t : List UInt8) (n a : Int) : Value := .agg #[.int .i64 k, .string (S t), .int .i64 n, .int .i64 a]
def tokO (k : Int) (t : List UInt8) (n a : Int) : Obj := .cells #[.int .i64 k, .string (S t), .int .i64 n, .int .i64 a] 79
theorem box_here (w : World) (k : Int) (t : List UInt8) (n a : Int) (w1 : World) (g : Good (w.alloc (tokO k t n a)) w1) :
    (w1.cell? ⟨w.heap.size, 0, none⟩ = some (.int .i64 k) ∧ w1.cell? ⟨w.heap.size, 1, none⟩ = some (.string (S t)) ∧ w1.cell? ⟨w.heap.size, 2, none⟩ = some (.int .i64 n) ∧ w1.cell? ⟨w.heap.size, 3, none⟩ = some (.int .i64 a)) ∧
    (w1.frozen? ⟨w.heap.size, 0, none⟩ = false ∧ w1.frozen? ⟨w.heap.size, 1, none⟩ = false ∧ w1.frozen? ⟨w.heap.size, 2, none⟩ = false ∧ w1.frozen? ⟨w.heap.size, 3, none⟩ = false) := by
  have h0 := heap_alloc_new w (tokO k t n a)
  have h := (g.block w.heap.size (lt_of_heapV h0)).trans h0
  have hf : ∀ j, w1.frozen? ⟨w.heap.size, j, none⟩ = false := fun j => by unfold World.frozen?; simp only [h]; simp [tokO]
  exact ⟨⟨(cell_of_row w1 _ 0 _ _ (0, 0) h).trans rfl, (cell_of_row w1 _ 1 _ _ (0, 0) h).trans rfl, (cell_of_row w1 _ 2 _ _ (0, 0) h).trans rfl, (cell_of_row w1 _ 3 _ _ (0, 0) h).trans rfl⟩, hf 0, hf 1, hf 2, hf 3⟩
theorem put4 {w : World} {b : Nat} {u0 u1 u2 u3 : Value} (h0 : w.cell? ⟨b, 0, none⟩ = some u0) (h1 : w.cell? ⟨b, 1, none⟩ = some u1) (h2 : w.cell? ⟨b, 2, none⟩ = some u2) (h3 : w.cell? ⟨b, 3, none⟩ = some u3) (v0 v1 v2 v3 : Value) :
    (w.setCell ⟨b, 0, none⟩ v0).cell? ⟨b, 0, none⟩ = some v0 ∧ ((w.setCell ⟨b, 0, none⟩ v0).setCell ⟨b, 1, none⟩ v1).cell? ⟨b, 1, none⟩ = some v1 ∧
    (((w.setCell ⟨b, 0, none⟩ v0).setCell ⟨b, 1, none⟩ v1).setCell ⟨b, 2, none⟩ v2).cell? ⟨b, 2, none⟩ = some v2 ∧ ((((w.setCell ⟨b, 0, none⟩ v0).setCell ⟨b, 1, none⟩ v1).setCell ⟨b, 2, none⟩ v2).setCell ⟨b, 3, none⟩ v3).cell? ⟨b, 3, none⟩ = some v3 := by
  have o : ∀ (x : World) (i j : Nat) (v : Value), i ≠ j → (x.setCell ⟨b, i, none⟩ v).cell? ⟨b, j, none⟩ = x.cell? ⟨b, j, none⟩ := fun x i j v h =>
    World.cell?_setCell_other (w := x) (a := ⟨b, i, none⟩) (b := ⟨b, j, none⟩) (v := v) (h := by intro e; injection e with _ e2 _; omega)
  refine ⟨World.cell?_setCell_same (w := w) (a := ⟨b, 0, none⟩) (v := v0) (h := h0), ?_, ?_, ?_⟩
  · exact World.cell?_setCell_same (w := _) (a := ⟨b, 1, none⟩) (v := v1) (h := (o _ 0 1 _ (by omega)).trans h1)
  · exact World.cell?_setCell_same (w := _) (a := ⟨b, 2, none⟩) (v := v2) (h := (o _ 1 2 _ (by omega)).trans ((o _ 0 2 _ (by omega)).trans h2))
  · exact World.cell?_setCell_same (w := _) (a := ⟨b, 3, none⟩) (v := v3) (h := (o _ 2 3 _ (by omega)).trans ((o _ 1 3 _ (by omega)).trans ((o _ 0 3 _ (by omega)).trans h3)))
def ansV (x : Option Tok) : Value := match x with
  | none => .tuple #[tokC 0 [] 0 0, .int .i64 0]
  | some x => .tuple #[tokC x.kind x.text x.num 0, .int .i64 (x.len : Int)]
def nameM (l : List UInt8) : Option Tok := let n := l.takeWhile wordB; if nameB n = true then some ⟨1, n, 0, n.length⟩ else none
set_option linter.unusedSimpArgs false
set_option maxRecDepth 100000 in
set_option maxHeartbeats 1600000 in
theorem name_any (s : ByteArray) (hs : s.size ≤ 100000) (w : World) :
    Calls Tryz.prog 72 #[.string s] w fun e w' => e = .returned (ansV (nameM s.data.toList)) ∧ Below w.heap.size w w' := by
  have hls := list_size s
  have hle : (s.data.toList.takeWhile wordB).length ≤ s.size := by rw [← hls]; exact takeWhile_le _ _
  have HRUN := Lib.hid (runWord_any s hs)
  have hsl : s.extract 0 (s.data.toList.takeWhile wordB).length = S (s.data.toList.takeWhile wordB) := by
    rw [S_extract, List.drop_zero, Nat.sub_zero, take_takeWhile]
  have hlz : (S (s.data.toList.takeWhile wordB)).size = (s.data.toList.takeWhile wordB).length := S_size _
  have HG0 := Lib.hid (Good.refl (w.alloc (tokO 0 [] 0 0)))
  have HBOX := Lib.hid (box_here w 0 [] 0 0)
  have HFIN := Lib.hid (fun (wr : World) (h : Good (w.alloc (tokO 0 [] 0 0)) wr) => ((Below.refl w.heap.size w).alloc (Nat.le_refl _) (tokO 0 [] 0 0)).trans (h.mono (by simp)))
  have HM := Lib.hid (show nameM s.data.toList = if nameB (s.data.toList.takeWhile wordB) = true then some ⟨1, s.data.toList.takeWhile wordB, 0, (s.data.toList.takeWhile wordB).length⟩ else none from rfl)
  have hNM := Name_any (S (s.data.toList.takeWhile wordB)) (by omega)
  have hCL := clone_any (S (s.data.toList.takeWhile wordB)) (by omega)
  rw [S_toList] at hNM
  have HNM := Lib.hid hNM
  have HCL := Lib.hid hCL
  have HSL := Lib.hid hsl
  clear hls hNM hCL hsl
  generalize hn : s.data.toList.takeWhile wordB = n at *
  clear hn
  have hli : (n.length : Int) ≤ (s.size : Int) := by omega
  have hsl2 := HSL.out
  go_enter Tryz.func72, Tryz.ntmps72
  go_wp2_with fail
  refine (HRUN.out _).mono ?_
  rintro e w1 ⟨rfl, b1⟩
  have HG1 := Lib.hid (HG0.out.step b1)
  clear b1
  go_wp2_with fail
  cases hnm : nameB n with
  | false =>
    rw [hnm] at HNM
    have HR := Lib.hid (show nameM s.data.toList = none by rw [HM.out, if_neg (by rw [hnm]; decide)])
    clear hnm
    refine (HNM.out _).mono ?_
    rintro e w2 ⟨rfl, b2⟩
    have HG2 := Lib.hid (HG1.out.step b2)
    obtain ⟨⟨c0, c1, c2, c3⟩, f0, f1, f2, f3⟩ := HBOX.out _ HG2.out
    clear b2
    go_wp2_with fail
    rw [HR.out]
    obtain ⟨d0, d1, d2, d3⟩ := put4 c0 c1 c2 c3 (.int .i64 0) (.string ⟨#[]⟩) (.int .i64 0) (.int .i64 0)
    exact bodyPost_ret (v := ansV none) (by simp [results, d0, d1, d2, d3, S, Tryz.results72, go_sem, ansV, tokC]) rfl ⟨rfl, (((((HFIN.out _ HG2.out).setCell (p := ⟨w.heap.size, 0, none⟩) (Nat.le_refl _) _).setCell (p := ⟨w.heap.size, 1, none⟩) (Nat.le_refl _) _).setCell (p := ⟨w.heap.size, 2, none⟩) (Nat.le_refl _) _).setCell (p := ⟨w.heap.size, 3, none⟩) (Nat.le_refl _) _)⟩
  | true =>
    rw [hnm] at HNM
    have HR := Lib.hid (show nameM s.data.toList = some ⟨1, n, 0, n.length⟩ by rw [HM.out, if_pos hnm])
    clear hnm
    refine (HNM.out _).mono ?_
    rintro e w2 ⟨rfl, b2⟩
    have HG2 := Lib.hid (HG1.out.step b2)
    clear b2
    go_wp2_with fail
    refine (HCL.out _).mono ?_
    rintro e w3 ⟨rfl, b3⟩
    have HG3 := Lib.hid (HG2.out.step b3)
    obtain ⟨⟨c0, c1, c2, c3⟩, f0, f1, f2, f3⟩ := HBOX.out _ HG3.out
    clear b3
    go_wp2_with fail
    rw [HR.out]
    obtain ⟨d0, d1, d2, d3⟩ := put4 c0 c1 c2 c3 (.int .i64 1) (.string (S n)) (.int .i64 0) (.int .i64 0)
    exact bodyPost_ret (v := ansV (some ⟨1, n, 0, n.length⟩)) (by simp [results, d0, d1, d2, d3, Tryz.results72, go_sem, ansV, tokC]) rfl ⟨rfl, (((((HFIN.out _ HG3.out).setCell (p := ⟨w.heap.size, 0, none⟩) (Nat.le_refl _) _).setCell (p := ⟨w.heap.size, 1, none⟩) (Nat.le_refl _) _).setCell (p := ⟨w.heap.size, 2, none⟩) (Nat.le_refl _) _).setCell (p := ⟨w.heap.size, 3, none⟩) (Nat.le_refl _) _)⟩
end Go.Proofs.YtlmmfhbdebfgkaaGreatDoor.Lx
namespace Go.Proofs.YtlmmfhbdebfgkaaGreatDoor.Lx
open Go.RowKit
open Va
theorem one_or (d : List UInt8) (h : d ≠ []) : (d.length == 1 || d.head? != some 48) = !(d.head? == some 48 && !(d == [48])) := by
  match d, h with
  | [c], _ =>
    cases hc : (c == 48) with
    | true => obtain rfl : c = 48 := by simpa using hc
              rfl
    | false => have : ([c] == [48]) = false := by simpa using hc
               have h2 : (([c] : List UInt8).head? == some 48) = false := by simpa using hc
               rw [this, h2]; rfl
  | c :: c2 :: r, _ =>
    have h1 : ((c :: c2 :: r) == [48]) = false := by simp
    have h3 : ((c :: c2 :: r).length == 1) = false := by simp
    rw [h1, h3]
    simp only [Bool.false_or, Bool.not_false, Bool.and_true]
    rfl
def ErrAt (w : World) (g : Nat) : Prop := ∃ ev, w.cell? ⟨g, 0, none⟩ = some ev ∧ (ev = .nilIface ∨ ∃ te pe, ev = .iface te pe) ∧ g < w.heap.size
theorem ErrAt.below {w w' : World} {g : Nat} (h : ErrAt w g) (b : Below w.heap.size w w') : ErrAt w' g := by
  obtain ⟨ev, h1, h2, h3⟩ := h
  exact ⟨ev, (b.cell (p := ⟨g, 0, none⟩) h3).trans h1, h2, Nat.lt_of_lt_of_le h3 b.size⟩
theorem parse_any (d : List UInt8) (hne : d ≠ []) (hd : ∀ c ∈ d, digB c = true) (hl : d.length ≤ 100000) (w : World) (he : ErrAt w 7) :
    (undig d ≤ 9223372036854775807 → Calls Tryz.prog 125 #[.string (S d), .int .i64 10, .int .i64 64] w fun e w' => e = .returned (.tuple #[.int .i64 (undig d : Int), .nilIface]) ∧ Below w.heap.size w w') ∧
    (¬ undig d ≤ 9223372036854775807 → Calls Tryz.prog 125 #[.string (S d), .int .i64 10, .int .i64 64] w fun e w' => (∃ n t p, e = .returned (.tuple #[.int .i64 n, .iface t (.pointer (some p))])) ∧ Below w.heap.size w w') := by
  have hi := intB_digs d hne hd
  have hs : (S d).size = d.length := S_size d
  refine ⟨fun h => ?_, fun h => ?_⟩
  · rw [if_pos h] at hi
    refine (Tryz.strconv_ParseInt_10_at64_ok (S d) (by omega) _ (by rw [S_toList]; exact hi) w).mono ?_
    rintro e w' ⟨rfl, hw⟩
    refine ⟨rfl, ?_⟩
    rcases hw with rfl | ⟨t, rfl⟩
    · exact Below.refl _ _
    · exact Go.Joins.below_bytesWorld _ _ _ _ (Nat.le_refl _)
  · rw [if_neg h] at hi
    obtain ⟨ev, h1, h2, _⟩ := he
    refine (Tryz.strconv_ParseInt_10_at64_range (S d) (by omega) (by rw [S_toList]; exact hi) ev w h1 h2).mono ?_
    rintro e w' ⟨N, rfl, _, _, hb⟩
    exact ⟨⟨_, _, _, rfl⟩, hb⟩
set_option linter.unusedSimpArgs false
set_option maxRecDepth 100000 in
set_option maxHeartbeats 1600000 in
theorem digits_any (s : ByteArray) (hs : s.size ≤ 100000) (hd0 : s.data.toList.takeWhile digB ≠ []) (w : World) (he : ErrAt w 7) :
    Calls Tryz.prog 74 #[.string s] w fun e w' => e = .returned (ansV (digM s.data.toList)) ∧ Below w.heap.size w w' := by
  have hls := list_size s
  have hle : (s.data.toList.takeWhile digB).length ≤ s.size := by rw [← hls]; exact takeWhile_le _ _
  have HRUN := Lib.hid (runDig_any s hs)
  have hsl : s.extract 0 (s.data.toList.takeWhile digB).length = S (s.data.toList.takeWhile digB) := by
    rw [S_extract, List.drop_zero, Nat.sub_zero, take_takeWhile]
  have hlz : (S (s.data.toList.takeWhile digB)).size = (s.data.toList.takeWhile digB).length := S_size _
  have hall := mem_takeWhile digB s.data.toList
  have hb0 := (Below.refl w.heap.size w).alloc (Nat.le_refl _) (tokO 0 [] 0 0)
  have HG0 := Lib.hid (Good.refl (w.alloc (tokO 0 [] 0 0)))
  have HBOX := Lib.hid (box_here w 0 [] 0 0)
  have HFIN := Lib.hid (fun (wr : World) (h : Good (w.alloc (tokO 0 [] 0 0)) wr) => hb0.trans (h.mono (by simp)))
  have HM := Lib.hid (show digM s.data.toList = if digsOk (s.data.toList.takeWhile digB) = true then some ⟨2, s.data.toList.takeWhile digB, undig (s.data.toList.takeWhile digB), (s.data.toList.takeWhile digB).length⟩ else none from rfl)
  have hCL := clone_any (S (s.data.toList.takeWhile digB)) (by omega)
  have hPI := fun (wr : World) (h : Good (w.alloc (tokO 0 [] 0 0)) wr) => parse_any (s.data.toList.takeWhile digB) hd0 hall (by omega) wr ((he.below hb0).below h)
  have HPI := Lib.hid hPI
  have HCL := Lib.hid hCL
  have HSL := Lib.hid hsl
  clear hls hCL hsl hPI hall he hb0
  generalize hn : s.data.toList.takeWhile digB = d at *
  clear hn
  have hli : (d.length : Int) ≤ (s.size : Int) := by omega
  have hpos : 0 < d.length := List.length_pos_iff.2 hd0
  have hposi : (0 : Int) < (d.length : Int) := by omega
  have hsl2 := HSL.out
  obtain ⟨ds, hds⟩ : ∃ ds, ds = S d := ⟨_, rfl⟩
  have HDS := Lib.hid hds
  have HLZ := Lib.hid (show ds.size = d.length by rw [hds, hlz])
  have hdz : ds.size = d.length := HLZ.out
  have hd48 : (((ds[0]'(by omega)).toNat : Int) == 48) = (d.head? == some 48) := by
    have e1 : ds[0]'(by omega) = d[0] := by
      have := getElem_list ds 0 (by omega)
      rw [← this, hds, S_toList]
      simp [List.getD, hpos]
    rw [e1, List.head?_eq_getElem?, List.getElem?_eq_getElem hpos, Bool.eq_iff_iff]
    simp only [beq_iff_eq, Option.some.injEq]
    exact ⟨fun e => UInt8.toNat_inj.1 (show d[0].toNat = 48 by omega), fun e => by rw [e]; rfl⟩
  have hone : (ds.toList == [48]) = (d == [48]) := by rw [hds, ByteArray.toList_eq, S_toList]
  have hok : digsOk d = (!(d.head? == some 48 && !(d == [48])) && decide (undig d ≤ 9223372036854775807)) := by
    rw [digsOk_eq]
    congr 1
    exact one_or d hd0
  rw [← hds] at hsl2 HCL HPI
  clear hds HSL
  have hh : (d.head? == some 48) = true ∨ (d.head? == some 48) = false := by cases (d.head? == some 48) <;> simp
  have hd1 : (d == [48]) = true ∨ (d == [48]) = false := by cases (d == [48]) <;> simp
  by_cases hu : undig d ≤ 9223372036854775807
  · have HPO := Lib.hid (fun wr (h : Good (w.alloc (tokO 0 [] 0 0)) wr) => (HPI.out wr h).1 hu)
    have hui : decide (undig d ≤ 9223372036854775807) = true := by simpa using hu
    rw [hui, Bool.and_true] at hok
    clear HPI hui
    rcases hh with hh | hh
    · rcases hd1 with hd1 | hd1
      · rw [hh] at hd48
        rw [hd1] at hone
        rw [hh, hd1] at hok
        have HR := Lib.hid (show digM s.data.toList = some ⟨2, d, undig d, d.length⟩ by rw [HM.out, if_pos (by rw [hok]; rfl)])
        clear hok hh hd1
        go_enter Tryz.func74, Tryz.ntmps74
        go_wp2_with fail
        refine (HRUN.out _).mono ?_
        rintro e w1 ⟨rfl, b1⟩
        have HG1 := Lib.hid (HG0.out.step b1)
        clear b1
        go_wp2_with fail
        refine (HPO.out _ HG1.out).mono ?_
        rintro e w2 ⟨rfl, b2⟩
        have HG2 := Lib.hid (HG1.out.step b2)
        clear b2
        go_wp2_with fail
        refine (HCL.out _).mono ?_
        rintro e w3 ⟨rfl, b3⟩
        have HG3 := Lib.hid (HG2.out.step b3)
        obtain ⟨⟨c0, c1, c2, c3⟩, f0, f1, f2, f3⟩ := HBOX.out _ HG3.out
        clear b3
        go_wp2_with fail
        rw [HR.out]
        obtain ⟨d0, d1, d2, d3⟩ := put4 c0 c1 c2 c3 (.int .i64 2) (.string ds) (.int .i64 (undig d : Int)) (.int .i64 0)
        exact bodyPost_ret (v := ansV (some ⟨2, d, undig d, d.length⟩)) (by simp [results, d0, d1, d2, d3, Tryz.results74, go_sem, ansV, tokC, HDS.out.symm, HLZ.out]) rfl ⟨rfl, (((((HFIN.out _ HG3.out).setCell (p := ⟨w.heap.size, 0, none⟩) (Nat.le_refl _) _).setCell (p := ⟨w.heap.size, 1, none⟩) (Nat.le_refl _) _).setCell (p := ⟨w.heap.size, 2, none⟩) (Nat.le_refl _) _).setCell (p := ⟨w.heap.size, 3, none⟩) (Nat.le_refl _) _)⟩
      · rw [hh] at hd48
        rw [hd1] at hone
        rw [hh, hd1] at hok
        have HR := Lib.hid (show digM s.data.toList = none by rw [HM.out, if_neg (by rw [hok]; decide)])
        clear hok hh hd1
        go_enter Tryz.func74, Tryz.ntmps74
        go_wp2_with fail
        refine (HRUN.out _).mono ?_
        rintro e w1 ⟨rfl, b1⟩
        have HG1 := Lib.hid (HG0.out.step b1)
        clear b1
        go_wp2_with fail
        refine (HPO.out _ HG1.out).mono ?_
        rintro e w2 ⟨rfl, b2⟩
        have HG2 := Lib.hid (HG1.out.step b2)
        clear b2
        obtain ⟨⟨c0, c1, c2, c3⟩, f0, f1, f2, f3⟩ := HBOX.out _ HG2.out
        go_wp2_with fail
        rw [HR.out]
        obtain ⟨d0, d1, d2, d3⟩ := put4 c0 c1 c2 c3 (.int .i64 0) (.string ⟨#[]⟩) (.int .i64 0) (.int .i64 0)
        exact bodyPost_ret (v := ansV none) (by simp [results, d0, d1, d2, d3, S, Tryz.results74, go_sem, ansV, tokC]) rfl ⟨rfl, (((((HFIN.out _ HG2.out).setCell (p := ⟨w.heap.size, 0, none⟩) (Nat.le_refl _) _).setCell (p := ⟨w.heap.size, 1, none⟩) (Nat.le_refl _) _).setCell (p := ⟨w.heap.size, 2, none⟩) (Nat.le_refl _) _).setCell (p := ⟨w.heap.size, 3, none⟩) (Nat.le_refl _) _)⟩
    · rw [hh] at hd48
      rw [hh] at hok
      have HR := Lib.hid (show digM s.data.toList = some ⟨2, d, undig d, d.length⟩ by rw [HM.out, if_pos (by rw [hok]; rfl)])
      clear hok hh hd1 hone
      go_enter Tryz.func74, Tryz.ntmps74
      go_wp2_with fail
      refine (HRUN.out _).mono ?_
      rintro e w1 ⟨rfl, b1⟩
      have HG1 := Lib.hid (HG0.out.step b1)
      clear b1
      go_wp2_with fail
      refine (HPO.out _ HG1.out).mono ?_
      rintro e w2 ⟨rfl, b2⟩
      have HG2 := Lib.hid (HG1.out.step b2)
      clear b2
      go_wp2_with fail
      refine (HCL.out _).mono ?_
      rintro e w3 ⟨rfl, b3⟩
      have HG3 := Lib.hid (HG2.out.step b3)
      obtain ⟨⟨c0, c1, c2, c3⟩, f0, f1, f2, f3⟩ := HBOX.out _ HG3.out
      clear b3
      go_wp2_with fail
      rw [HR.out]
      obtain ⟨d0, d1, d2, d3⟩ := put4 c0 c1 c2 c3 (.int .i64 2) (.string ds) (.int .i64 (undig d : Int)) (.int .i64 0)
      exact bodyPost_ret (v := ansV (some ⟨2, d, undig d, d.length⟩)) (by simp [results, d0, d1, d2, d3, Tryz.results74, go_sem, ansV, tokC, HDS.out.symm, HLZ.out]) rfl ⟨rfl, (((((HFIN.out _ HG3.out).setCell (p := ⟨w.heap.size, 0, none⟩) (Nat.le_refl _) _).setCell (p := ⟨w.heap.size, 1, none⟩) (Nat.le_refl _) _).setCell (p := ⟨w.heap.size, 2, none⟩) (Nat.le_refl _) _).setCell (p := ⟨w.heap.size, 3, none⟩) (Nat.le_refl _) _)⟩
  · have HPO := Lib.hid (fun wr (h : Good (w.alloc (tokO 0 [] 0 0)) wr) => (HPI.out wr h).2 hu)
    have hui : decide (undig d ≤ 9223372036854775807) = false := by simpa using hu
    rw [hui, Bool.and_false] at hok
    have HR := Lib.hid (show digM s.data.toList = none by rw [HM.out, if_neg (by rw [hok]; decide)])
    clear HPI hui hok hh hd1 hone hd48
    go_enter Tryz.func74, Tryz.ntmps74
    go_wp2_with fail
    refine (HRUN.out _).mono ?_
    rintro e w1 ⟨rfl, b1⟩
    have HG1 := Lib.hid (HG0.out.step b1)
    clear b1
    go_wp2_with fail
    refine (HPO.out _ HG1.out).mono ?_
    rintro e w2 ⟨⟨n2, t2, p2, rfl⟩, b2⟩
    have HG2 := Lib.hid (HG1.out.step b2)
    clear b2
    obtain ⟨⟨c0, c1, c2, c3⟩, f0, f1, f2, f3⟩ := HBOX.out _ HG2.out
    go_wp2_with fail
    rw [HR.out]
    obtain ⟨d0, d1, d2, d3⟩ := put4 c0 c1 c2 c3 (.int .i64 0) (.string ⟨#[]⟩) (.int .i64 0) (.int .i64 0)
    exact bodyPost_ret (v := ansV none) (by simp [results, d0, d1, d2, d3, S, Tryz.results74, go_sem, ansV, tokC]) rfl ⟨rfl, (((((HFIN.out _ HG2.out).setCell (p := ⟨w.heap.size, 0, none⟩) (Nat.le_refl _) _).setCell (p := ⟨w.heap.size, 1, none⟩) (Nat.le_refl _) _).setCell (p := ⟨w.heap.size, 2, none⟩) (Nat.le_refl _) _).setCell (p := ⟨w.heap.size, 3, none⟩) (Nat.le_refl _) _)⟩
end Go.Proofs.YtlmmfhbdebfgkaaGreatDoor.Lx
