/-
  LxGood, LxName, LxDigits, LxUint, LxUnesc.
-/
import Derived.Test.YtlmmfhbdebfgkaaGreatDoorWVaPureQ
import Derived.Test.YtlmmfhbdebfgkaaGreatDoorWLxBlkQ
import Derived.Test.YtlmmfhbdebfgkaaGreatDoorWVlQuoteQ
import Derived.Test.YtlmmfhbdebfgkaaGreatDoorWVlCmpQ
import Derived.Test.YtlmmfhbdebfgkaaGreatDoorWLxRTokPQ
import Derived.Test.YtlmmfhbdebfgkaaGreatDoorWLxTokQ
import Derived.Lib.SmallJoins
import Derived.Lib.ConvBytes
set_option linter.unusedVariables false
set_option linter.unusedSimpArgs false
set_option maxRecDepth 100000
set_option maxHeartbeats 8000000
namespace Go.Proofs.YtlmmfhbdebfgkaaGreatDoor.Lx
open Go.RowKit
def Good (W0 w : World) : Prop := Below W0.heap.size W0 w
theorem Good.refl (w : World) : Good w w := Below.refl _ _
theorem Good.step {W0 w w' : World} (h : Good W0 w) (b : Below w.heap.size w w') : Good W0 w' := Below.trans h (b.mono h.size)
theorem Good.drew {W0 w : World} (h : Good W0 w) : Good W0 w.drew := ⟨h.os, h.tape, h.output, h.size, h.block⟩
theorem Good.alloc {W0 w : World} (h : Good W0 w) (o : Obj) : Good W0 (w.alloc o) := Below.alloc h h.size o
theorem good_id {W0 w : World} (h : Hid (Good W0 w)) : Good W0 w := h.out
theorem good_drew {W0 w : World} (h : Hid (Good W0 w)) : Good W0 w.drew := h.out.drew
end Go.Proofs.YtlmmfhbdebfgkaaGreatDoor.Lx
namespace Go.Proofs.YtlmmfhbdebfgkaaGreatDoor.Lx
open Go.RowKit
open Va
theorem clone_any (s : ByteArray) (hs : s.size ≤ 281474976710656) (w : World) :
    Calls Tryz.prog 53 #[.string s] w fun e w' => e = .returned (.string s) ∧ Below w.heap.size w w' := by
  go_enter Tryz.func53, Tryz.ntmps53
  go_wp2_with fail
  refine (Tryz.stringslite_Clone s _ hs).mono ?_
  rintro e w' ⟨rfl, hb⟩
  have HB := Lib.hid hb
  clear hb
  go_wp2_with fail
  go_ret
  exact ⟨rfl, HB.out⟩
def tokC (k : Int) (t : List UInt8) (n a : Int) : Value := .agg #[.int .i64 k, .string (S t), .int .i64 n, .int .i64 a]
def tokO (k : Int) (t : List UInt8) (n a : Int) : Obj := .cells #[.int .i64 k, .string (S t), .int .i64 n, .int .i64 a] 79
theorem box_here (w : World) (k : Int) (t : List UInt8) (n a : Int) (w1 : World) (g : Good (w.alloc (tokO k t n a)) w1) :
    (w1.cell? ⟨w.heap.size, 0, none⟩ = some (.int .i64 k) ∧ w1.cell? ⟨w.heap.size, 1, none⟩ = some (.string (S t)) ∧ w1.cell? ⟨w.heap.size, 2, none⟩ = some (.int .i64 n) ∧ w1.cell? ⟨w.heap.size, 3, none⟩ = some (.int .i64 a)) ∧
    (w1.frozen? ⟨w.heap.size, 0, none⟩ = false ∧ w1.frozen? ⟨w.heap.size, 1, none⟩ = false ∧ w1.frozen? ⟨w.heap.size, 2, none⟩ = false ∧ w1.frozen? ⟨w.heap.size, 3, none⟩ = false) := by
  have h0 := heap_alloc_new w (tokO k t n a)
  have h := (g.block w.heap.size (lt_of_heapV h0)).trans h0
  have hf : ∀ j, w1.frozen? ⟨w.heap.size, j, none⟩ = false := fun j => by unfold World.frozen?; simp only [h]; simp [tokO]
  exact ⟨⟨(cell_of_row w1 _ 0 _ _ (0, 0) h).trans rfl, (cell_of_row w1 _ 1 _ _ (0, 0) h).trans rfl, (cell_of_row w1 _ 2 _ _ (0, 0) h).trans rfl, (cell_of_row w1 _ 3 _ _ (0, 0) h).trans rfl⟩, hf 0, hf 1, hf 2, hf 3⟩
theorem put4 {w : World} {b : Nat} {u0 u1 u2 u3 : Value} (h0 : w.cell? ⟨b, 0, none⟩ = some u0) (h1 : w.cell? ⟨b, 1, none⟩ = some u1) (h2 : w.cell? ⟨b, 2, none⟩ = some u2) (h3 : w.cell? ⟨b, 3, none⟩ = some u3) (v0 v1 v2 v3 : Value) :
    (w.setCell ⟨b, 0, none⟩ v0).cell? ⟨b, 0, none⟩ = some v0 ∧ ((w.setCell ⟨b, 0, none⟩ v0).setCell ⟨b, 1, none⟩ v1).cell? ⟨b, 1, none⟩ = some v1 ∧
    (((w.setCell ⟨b, 0, none⟩ v0).setCell ⟨b, 1, none⟩ v1).setCell ⟨b, 2, none⟩ v2).cell? ⟨b, 2, none⟩ = some v2 ∧ ((((w.setCell ⟨b, 0, none⟩ v0).setCell ⟨b, 1, none⟩ v1).setCell ⟨b, 2, none⟩ v2).setCell ⟨b, 3, none⟩ v3).cell? ⟨b, 3, none⟩ = some v3 := by
  have o : ∀ (x : World) (i j : Nat) (v : Value), i ≠ j → (x.setCell ⟨b, i, none⟩ v).cell? ⟨b, j, none⟩ = x.cell? ⟨b, j, none⟩ := fun x i j v h =>
    World.cell?_setCell_other (w := x) (a := ⟨b, i, none⟩) (b := ⟨b, j, none⟩) (v := v) (h := by intro e; injection e with _ e2 _; omega)
  refine ⟨World.cell?_setCell_same (w := w) (a := ⟨b, 0, none⟩) (v := v0) (h := h0), ?_, ?_, ?_⟩
  · exact World.cell?_setCell_same (w := _) (a := ⟨b, 1, none⟩) (v := v1) (h := (o _ 0 1 _ (by omega)).trans h1)
  · exact World.cell?_setCell_same (w := _) (a := ⟨b, 2, none⟩) (v := v2) (h := (o _ 1 2 _ (by omega)).trans ((o _ 0 2 _ (by omega)).trans h2))
  · exact World.cell?_setCell_same (w := _) (a := ⟨b, 3, none⟩) (v := v3) (h := (o _ 2 3 _ (by omega)).trans ((o _ 1 3 _ (by omega)).trans ((o _ 0 3 _ (by omega)).trans h3)))
def ansV (x : Option Tok) : Value := match x with
  | none => .tuple #[tokC 0 [] 0 0, .int .i64 0]
  | some x => .tuple #[tokC x.kind x.text x.num 0, .int .i64 (x.len : Int)]
def nameM (l : List UInt8) : Option Tok := let n := l.takeWhile wordB; if nameB n = true then some ⟨1, n, 0, n.length⟩ else none
theorem name_any (s : ByteArray) (hs : s.size ≤ 100000) (w : World) :
    Calls Tryz.prog 72 #[.string s] w fun e w' => e = .returned (ansV (nameM s.data.toList)) ∧ Below w.heap.size w w' := by
  have hls := list_size s
  have hle : (s.data.toList.takeWhile wordB).length ≤ s.size := by rw [← hls]; exact takeWhile_le _ _
  have HRUN := Lib.hid (runWord_any s hs)
  have hsl : s.extract 0 (s.data.toList.takeWhile wordB).length = S (s.data.toList.takeWhile wordB) := by
    rw [S_extract, List.drop_zero, Nat.sub_zero, take_takeWhile]
  have hlz : (S (s.data.toList.takeWhile wordB)).size = (s.data.toList.takeWhile wordB).length := S_size _
  have HG0 := Lib.hid (Good.refl (w.alloc (tokO 0 [] 0 0)))
  have HBOX := Lib.hid (box_here w 0 [] 0 0)
  have HFIN := Lib.hid (fun (wr : World) (h : Good (w.alloc (tokO 0 [] 0 0)) wr) => ((Below.refl w.heap.size w).alloc (Nat.le_refl _) (tokO 0 [] 0 0)).trans (h.mono (by simp)))
  have HM := Lib.hid (show nameM s.data.toList = if nameB (s.data.toList.takeWhile wordB) = true then some ⟨1, s.data.toList.takeWhile wordB, 0, (s.data.toList.takeWhile wordB).length⟩ else none from rfl)
  have hNM := Name_any (S (s.data.toList.takeWhile wordB)) (by omega)
  have hCL := clone_any (S (s.data.toList.takeWhile wordB)) (by omega)
  rw [S_toList] at hNM
  have HNM := Lib.hid hNM
  have HCL := Lib.hid hCL
  have HSL := Lib.hid hsl
  clear hls hNM hCL hsl
  generalize hn : s.data.toList.takeWhile wordB = n at *
  clear hn
  have hli : (n.length : Int) ≤ (s.size : Int) := by omega
  have hsl2 := HSL.out
  go_enter Tryz.func72, Tryz.ntmps72
  go_wp2_with fail
  refine (HRUN.out _).mono ?_
  rintro e w1 ⟨rfl, b1⟩
  have HG1 := Lib.hid (HG0.out.step b1)
  clear b1
  go_wp2_with fail
  cases hnm : nameB n with
  | false =>
    rw [hnm] at HNM
    have HR := Lib.hid (show nameM s.data.toList = none by rw [HM.out, if_neg (by rw [hnm]; decide)])
    clear hnm
    refine (HNM.out _).mono ?_
    rintro e w2 ⟨rfl, b2⟩
    have HG2 := Lib.hid (HG1.out.step b2)
    obtain ⟨⟨c0, c1, c2, c3⟩, f0, f1, f2, f3⟩ := HBOX.out _ HG2.out
    clear b2
    go_wp2_with fail
    rw [HR.out]
    obtain ⟨d0, d1, d2, d3⟩ := put4 c0 c1 c2 c3 (.int .i64 0) (.string ⟨#[]⟩) (.int .i64 0) (.int .i64 0)
    exact bodyPost_ret (v := ansV none) (by simp [results, d0, d1, d2, d3, S, Tryz.results72, go_sem, ansV, tokC]) rfl ⟨rfl, (((((HFIN.out _ HG2.out).setCell (p := ⟨w.heap.size, 0, none⟩) (Nat.le_refl _) _).setCell (p := ⟨w.heap.size, 1, none⟩) (Nat.le_refl _) _).setCell (p := ⟨w.heap.size, 2, none⟩) (Nat.le_refl _) _).setCell (p := ⟨w.heap.size, 3, none⟩) (Nat.le_refl _) _)⟩
  | true =>
    rw [hnm] at HNM
    have HR := Lib.hid (show nameM s.data.toList = some ⟨1, n, 0, n.length⟩ by rw [HM.out, if_pos hnm])
    clear hnm
    refine (HNM.out _).mono ?_
    rintro e w2 ⟨rfl, b2⟩
    have HG2 := Lib.hid (HG1.out.step b2)
    clear b2
    go_wp2_with fail
    refine (HCL.out _).mono ?_
    rintro e w3 ⟨rfl, b3⟩
    have HG3 := Lib.hid (HG2.out.step b3)
    obtain ⟨⟨c0, c1, c2, c3⟩, f0, f1, f2, f3⟩ := HBOX.out _ HG3.out
    clear b3
    go_wp2_with fail
    rw [HR.out]
    obtain ⟨d0, d1, d2, d3⟩ := put4 c0 c1 c2 c3 (.int .i64 1) (.string (S n)) (.int .i64 0) (.int .i64 0)
    exact bodyPost_ret (v := ansV (some ⟨1, n, 0, n.length⟩)) (by simp [results, d0, d1, d2, d3, Tryz.results72, go_sem, ansV, tokC]) rfl ⟨rfl, (((((HFIN.out _ HG3.out).setCell (p := ⟨w.heap.size, 0, none⟩) (Nat.le_refl _) _).setCell (p := ⟨w.heap.size, 1, none⟩) (Nat.le_refl _) _).setCell (p := ⟨w.heap.size, 2, none⟩) (Nat.le_refl _) _).setCell (p := ⟨w.heap.size, 3, none⟩) (Nat.le_refl _) _)⟩
end Go.Proofs.YtlmmfhbdebfgkaaGreatDoor.Lx
namespace Go.Proofs.YtlmmfhbdebfgkaaGreatDoor.Lx
open Go.RowKit
open Va
theorem one_or (d : List UInt8) (h : d ≠ []) : (d.length == 1 || d.head? != some 48) = !(d.head? == some 48 && !(d == [48])) := by
  match d, h with
  | [c], _ =>
    cases hc : (c == 48) with
    | true => obtain rfl : c = 48 := by simpa using hc
              rfl
    | false => have : ([c] == [48]) = false := by simpa using hc
               have h2 : (([c] : List UInt8).head? == some 48) = false := by simpa using hc
               rw [this, h2]; rfl
  | c :: c2 :: r, _ =>
    have h1 : ((c :: c2 :: r) == [48]) = false := by simp
    have h3 : ((c :: c2 :: r).length == 1) = false := by simp
    rw [h1, h3]
    simp only [Bool.false_or, Bool.not_false, Bool.and_true]
    rfl
def ErrAt (w : World) (g : Nat) : Prop := ∃ ev, w.cell? ⟨g, 0, none⟩ = some ev ∧ (ev = .nilIface ∨ ∃ te pe, ev = .iface te pe) ∧ g < w.heap.size
theorem ErrAt.below {w w' : World} {g : Nat} (h : ErrAt w g) (b : Below w.heap.size w w') : ErrAt w' g := by
  obtain ⟨ev, h1, h2, h3⟩ := h
  exact ⟨ev, (b.cell (p := ⟨g, 0, none⟩) h3).trans h1, h2, Nat.lt_of_lt_of_le h3 b.size⟩
theorem parse_any (d : List UInt8) (hne : d ≠ []) (hd : ∀ c ∈ d, digB c = true) (hl : d.length ≤ 100000) (w : World) (he : ErrAt w 7) :
    (undig d ≤ 9223372036854775807 → Calls Tryz.prog 125 #[.string (S d), .int .i64 10, .int .i64 64] w fun e w' => e = .returned (.tuple #[.int .i64 (undig d : Int), .nilIface]) ∧ Below w.heap.size w w') ∧
    (¬ undig d ≤ 9223372036854775807 → Calls Tryz.prog 125 #[.string (S d), .int .i64 10, .int .i64 64] w fun e w' => (∃ n t p, e = .returned (.tuple #[.int .i64 n, .iface t (.pointer (some p))])) ∧ Below w.heap.size w w') := by
  have hi := intB_digs d hne hd
  have hs : (S d).size = d.length := S_size d
  refine ⟨fun h => ?_, fun h => ?_⟩
  · rw [if_pos h] at hi
    refine (Tryz.strconv_ParseInt_10_at64_ok (S d) (by omega) _ (by rw [S_toList]; exact hi) w).mono ?_
    rintro e w' ⟨rfl, hw⟩
    refine ⟨rfl, ?_⟩
    rcases hw with rfl | ⟨t, rfl⟩
    · exact Below.refl _ _
    · exact Go.Joins.below_bytesWorld _ _ _ _ (Nat.le_refl _)
  · rw [if_neg h] at hi
    obtain ⟨ev, h1, h2, _⟩ := he
    refine (Tryz.strconv_ParseInt_10_at64_range (S d) (by omega) (by rw [S_toList]; exact hi) ev w h1 h2).mono ?_
    rintro e w' ⟨N, rfl, _, _, hb⟩
    exact ⟨⟨_, _, _, rfl⟩, hb⟩
theorem digits_any (s : ByteArray) (hs : s.size ≤ 100000) (hd0 : s.data.toList.takeWhile digB ≠ []) (w : World) (he : ErrAt w 7) :
    Calls Tryz.prog 74 #[.string s] w fun e w' => e = .returned (ansV (digM s.data.toList)) ∧ Below w.heap.size w w' := by
  have hls := list_size s
  have hle : (s.data.toList.takeWhile digB).length ≤ s.size := by rw [← hls]; exact takeWhile_le _ _
  have HRUN := Lib.hid (runDig_any s hs)
  have hsl : s.extract 0 (s.data.toList.takeWhile digB).length = S (s.data.toList.takeWhile digB) := by
    rw [S_extract, List.drop_zero, Nat.sub_zero, take_takeWhile]
  have hlz : (S (s.data.toList.takeWhile digB)).size = (s.data.toList.takeWhile digB).length := S_size _
  have hall := mem_takeWhile digB s.data.toList
  have hb0 := (Below.refl w.heap.size w).alloc (Nat.le_refl _) (tokO 0 [] 0 0)
  have HG0 := Lib.hid (Good.refl (w.alloc (tokO 0 [] 0 0)))
  have HBOX := Lib.hid (box_here w 0 [] 0 0)
  have HFIN := Lib.hid (fun (wr : World) (h : Good (w.alloc (tokO 0 [] 0 0)) wr) => hb0.trans (h.mono (by simp)))
  have HM := Lib.hid (show digM s.data.toList = if digsOk (s.data.toList.takeWhile digB) = true then some ⟨2, s.data.toList.takeWhile digB, undig (s.data.toList.takeWhile digB), (s.data.toList.takeWhile digB).length⟩ else none from rfl)
  have hCL := clone_any (S (s.data.toList.takeWhile digB)) (by omega)
  have hPI := fun (wr : World) (h : Good (w.alloc (tokO 0 [] 0 0)) wr) => parse_any (s.data.toList.takeWhile digB) hd0 hall (by omega) wr ((he.below hb0).below h)
  have HPI := Lib.hid hPI
  have HCL := Lib.hid hCL
  have HSL := Lib.hid hsl
  clear hls hCL hsl hPI hall he hb0
  generalize hn : s.data.toList.takeWhile digB = d at *
  clear hn
  have hli : (d.length : Int) ≤ (s.size : Int) := by omega
  have hpos : 0 < d.length := List.length_pos_iff.2 hd0
  have hposi : (0 : Int) < (d.length : Int) := by omega
  have hsl2 := HSL.out
  obtain ⟨ds, hds⟩ : ∃ ds, ds = S d := ⟨_, rfl⟩
  have HDS := Lib.hid hds
  have HLZ := Lib.hid (show ds.size = d.length by rw [hds, hlz])
  have hdz : ds.size = d.length := HLZ.out
  have hd48 : (((ds[0]'(by omega)).toNat : Int) == 48) = (d.head? == some 48) := by
    have e1 : ds[0]'(by omega) = d[0] := by
      have := getElem_list ds 0 (by omega)
      rw [← this, hds, S_toList]
      simp [List.getD, hpos]
    rw [e1, List.head?_eq_getElem?, List.getElem?_eq_getElem hpos, Bool.eq_iff_iff]
    simp only [beq_iff_eq, Option.some.injEq]
    exact ⟨fun e => UInt8.toNat_inj.1 (show d[0].toNat = 48 by omega), fun e => by rw [e]; rfl⟩
  have hone : (ds.toList == [48]) = (d == [48]) := by rw [hds, ByteArray.toList_eq, S_toList]
  have hok : digsOk d = (!(d.head? == some 48 && !(d == [48])) && decide (undig d ≤ 9223372036854775807)) := by
    rw [digsOk_eq]
    congr 1
    exact one_or d hd0
  rw [← hds] at hsl2 HCL HPI
  clear hds HSL
  have hh : (d.head? == some 48) = true ∨ (d.head? == some 48) = false := by cases (d.head? == some 48) <;> simp
  have hd1 : (d == [48]) = true ∨ (d == [48]) = false := by cases (d == [48]) <;> simp
  by_cases hu : undig d ≤ 9223372036854775807
  · have HPO := Lib.hid (fun wr (h : Good (w.alloc (tokO 0 [] 0 0)) wr) => (HPI.out wr h).1 hu)
    have hui : decide (undig d ≤ 9223372036854775807) = true := by simpa using hu
    rw [hui, Bool.and_true] at hok
    clear HPI hui
    rcases hh with hh | hh
    · rcases hd1 with hd1 | hd1
      · rw [hh] at hd48
        rw [hd1] at hone
        rw [hh, hd1] at hok
        have HR := Lib.hid (show digM s.data.toList = some ⟨2, d, undig d, d.length⟩ by rw [HM.out, if_pos (by rw [hok]; rfl)])
        clear hok hh hd1
        go_enter Tryz.func74, Tryz.ntmps74
        go_wp2_with fail
        refine (HRUN.out _).mono ?_
        rintro e w1 ⟨rfl, b1⟩
        have HG1 := Lib.hid (HG0.out.step b1)
        clear b1
        go_wp2_with fail
        refine (HPO.out _ HG1.out).mono ?_
        rintro e w2 ⟨rfl, b2⟩
        have HG2 := Lib.hid (HG1.out.step b2)
        clear b2
        go_wp2_with fail
        refine (HCL.out _).mono ?_
        rintro e w3 ⟨rfl, b3⟩
        have HG3 := Lib.hid (HG2.out.step b3)
        obtain ⟨⟨c0, c1, c2, c3⟩, f0, f1, f2, f3⟩ := HBOX.out _ HG3.out
        clear b3
        go_wp2_with fail
        rw [HR.out]
        obtain ⟨d0, d1, d2, d3⟩ := put4 c0 c1 c2 c3 (.int .i64 2) (.string ds) (.int .i64 (undig d : Int)) (.int .i64 0)
        exact bodyPost_ret (v := ansV (some ⟨2, d, undig d, d.length⟩)) (by simp [results, d0, d1, d2, d3, Tryz.results74, go_sem, ansV, tokC, HDS.out.symm, HLZ.out]) rfl ⟨rfl, (((((HFIN.out _ HG3.out).setCell (p := ⟨w.heap.size, 0, none⟩) (Nat.le_refl _) _).setCell (p := ⟨w.heap.size, 1, none⟩) (Nat.le_refl _) _).setCell (p := ⟨w.heap.size, 2, none⟩) (Nat.le_refl _) _).setCell (p := ⟨w.heap.size, 3, none⟩) (Nat.le_refl _) _)⟩
      · rw [hh] at hd48
        rw [hd1] at hone
        rw [hh, hd1] at hok
        have HR := Lib.hid (show digM s.data.toList = none by rw [HM.out, if_neg (by rw [hok]; decide)])
        clear hok hh hd1
        go_enter Tryz.func74, Tryz.ntmps74
        go_wp2_with fail
        refine (HRUN.out _).mono ?_
        rintro e w1 ⟨rfl, b1⟩
        have HG1 := Lib.hid (HG0.out.step b1)
        clear b1
        go_wp2_with fail
        refine (HPO.out _ HG1.out).mono ?_
        rintro e w2 ⟨rfl, b2⟩
        have HG2 := Lib.hid (HG1.out.step b2)
        clear b2
        obtain ⟨⟨c0, c1, c2, c3⟩, f0, f1, f2, f3⟩ := HBOX.out _ HG2.out
        go_wp2_with fail
        rw [HR.out]
        obtain ⟨d0, d1, d2, d3⟩ := put4 c0 c1 c2 c3 (.int .i64 0) (.string ⟨#[]⟩) (.int .i64 0) (.int .i64 0)
        exact bodyPost_ret (v := ansV none) (by simp [results, d0, d1, d2, d3, S, Tryz.results74, go_sem, ansV, tokC]) rfl ⟨rfl, (((((HFIN.out _ HG2.out).setCell (p := ⟨w.heap.size, 0, none⟩) (Nat.le_refl _) _).setCell (p := ⟨w.heap.size, 1, none⟩) (Nat.le_refl _) _).setCell (p := ⟨w.heap.size, 2, none⟩) (Nat.le_refl _) _).setCell (p := ⟨w.heap.size, 3, none⟩) (Nat.le_refl _) _)⟩
    · rw [hh] at hd48
      rw [hh] at hok
      have HR := Lib.hid (show digM s.data.toList = some ⟨2, d, undig d, d.length⟩ by rw [HM.out, if_pos (by rw [hok]; rfl)])
      clear hok hh hd1 hone
      go_enter Tryz.func74, Tryz.ntmps74
      go_wp2_with fail
      refine (HRUN.out _).mono ?_
      rintro e w1 ⟨rfl, b1⟩
      have HG1 := Lib.hid (HG0.out.step b1)
      clear b1
      go_wp2_with fail
      refine (HPO.out _ HG1.out).mono ?_
      rintro e w2 ⟨rfl, b2⟩
      have HG2 := Lib.hid (HG1.out.step b2)
      clear b2
      go_wp2_with fail
      refine (HCL.out _).mono ?_
      rintro e w3 ⟨rfl, b3⟩
      have HG3 := Lib.hid (HG2.out.step b3)
      obtain ⟨⟨c0, c1, c2, c3⟩, f0, f1, f2, f3⟩ := HBOX.out _ HG3.out
      clear b3
      go_wp2_with fail
      rw [HR.out]
      obtain ⟨d0, d1, d2, d3⟩ := put4 c0 c1 c2 c3 (.int .i64 2) (.string ds) (.int .i64 (undig d : Int)) (.int .i64 0)
      exact bodyPost_ret (v := ansV (some ⟨2, d, undig d, d.length⟩)) (by simp [results, d0, d1, d2, d3, Tryz.results74, go_sem, ansV, tokC, HDS.out.symm, HLZ.out]) rfl ⟨rfl, (((((HFIN.out _ HG3.out).setCell (p := ⟨w.heap.size, 0, none⟩) (Nat.le_refl _) _).setCell (p := ⟨w.heap.size, 1, none⟩) (Nat.le_refl _) _).setCell (p := ⟨w.heap.size, 2, none⟩) (Nat.le_refl _) _).setCell (p := ⟨w.heap.size, 3, none⟩) (Nat.le_refl _) _)⟩
  · have HPO := Lib.hid (fun wr (h : Good (w.alloc (tokO 0 [] 0 0)) wr) => (HPI.out wr h).2 hu)
    have hui : decide (undig d ≤ 9223372036854775807) = false := by simpa using hu
    rw [hui, Bool.and_false] at hok
    have HR := Lib.hid (show digM s.data.toList = none by rw [HM.out, if_neg (by rw [hok]; decide)])
    clear HPI hui hok hh hd1 hone hd48
    go_enter Tryz.func74, Tryz.ntmps74
    go_wp2_with fail
    refine (HRUN.out _).mono ?_
    rintro e w1 ⟨rfl, b1⟩
    have HG1 := Lib.hid (HG0.out.step b1)
    clear b1
    go_wp2_with fail
    refine (HPO.out _ HG1.out).mono ?_
    rintro e w2 ⟨⟨n2, t2, p2, rfl⟩, b2⟩
    have HG2 := Lib.hid (HG1.out.step b2)
    clear b2
    obtain ⟨⟨c0, c1, c2, c3⟩, f0, f1, f2, f3⟩ := HBOX.out _ HG2.out
    go_wp2_with fail
    rw [HR.out]
    obtain ⟨d0, d1, d2, d3⟩ := put4 c0 c1 c2 c3 (.int .i64 0) (.string ⟨#[]⟩) (.int .i64 0) (.int .i64 0)
    exact bodyPost_ret (v := ansV none) (by simp [results, d0, d1, d2, d3, S, Tryz.results74, go_sem, ansV, tokC]) rfl ⟨rfl, (((((HFIN.out _ HG2.out).setCell (p := ⟨w.heap.size, 0, none⟩) (Nat.le_refl _) _).setCell (p := ⟨w.heap.size, 1, none⟩) (Nat.le_refl _) _).setCell (p := ⟨w.heap.size, 2, none⟩) (Nat.le_refl _) _).setCell (p := ⟨w.heap.size, 3, none⟩) (Nat.le_refl _) _)⟩
end Go.Proofs.YtlmmfhbdebfgkaaGreatDoor.Lx
namespace Go.Proofs.YtlmmfhbdebfgkaaGreatDoor.Lx
open Go.RowKit
open Va
theorem low_bits (c : UInt8) : bits .or .u8 (c.toNat : Int) 32 = ((low c).toNat : Int) := by
  have : ∀ i : Fin 256, bits .or .u8 (i.val : Int) 32 = ((low (UInt8.ofNat i.val)).toNat : Int) := by decide +kernel
  have h := this ⟨c.toNat, c.toNat_lt⟩
  simpa using h
theorem low_any (c : UInt8) (w : World) :
    Calls Tryz.prog 229 #[.int .u8 (c.toNat : Int)] w fun e w' => e = .returned (.int .u8 ((low c).toNat : Int)) ∧ w = w' := by
  refine (Tryz.internal_strconv_lower (c.toNat : Int) w).mono ?_
  rintro e w' ⟨rfl, rfl⟩
  exact ⟨by rw [low_bits], rfl⟩
def hexF : Nat → List UInt8 → Option Nat
  | acc, [] => some acc
  | acc, c :: r => match hexD c with
    | some d => hexF (acc * 16 + d) r
    | none => none
theorem hexF_two (a b : UInt8) : hexF 0 [a, b] = hexP a b := by
  unfold hexP
  simp only [hexF]
  cases hexD a with
  | none => rfl
  | some x =>
    cases hexD b with
    | none => rfl
    | some y => simp only [Nat.zero_mul, Nat.zero_add, Nat.mul_comm]
def puV (o : Option Nat) : Value := match o with
  | some n => .tuple #[.int .u64 (n : Int), .nilIface]
  | none => .tuple #[.int .u64 0, .iface 234 (.int .i64 2)]
theorem inner_any (a b : UInt8) (w : World) :
    Calls Tryz.prog 199 #[.string (S [a, b]), .int .i64 16, .int .i64 8] w fun e w' => e = .returned (puV (hexP a b)) ∧ Below w.heap.size w w' := by
  have hcv := Lib.run_convert_string_bytes (P := Tryz.prog) w 9 67 5 (S [a, b]) (u := .string) Tryz.underlying9 Tryz.underlying67 Tryz.underlying5
  have hz : (S [a, b]).size = 2 := rfl
  have hemp : (S [a, b]).toList = [a, b] := by rw [ByteArray.toList_eq, S_toList]
  have hB : ∀ j, j < 2 → (Lib.bytesWorld w 5 (S [a, b])).cell? ⟨w.heap.size, j, none⟩ = some (.int .u8 ((([a, b] : List UInt8).getD j 0).toNat : Int)) := fun j hj => by
    have := Lib.bytesWorld_cell w 5 (S [a, b]) j (by rw [hz]; exact hj)
    rw [S_toList] at this
    exact this
  have HBEL := Lib.hid (show Below w.heap.size w (Lib.bytesWorld w 5 (S [a, b])) from Go.Joins.below_bytesWorld _ _ _ _ (Nat.le_refl _))
  obtain ⟨W1, hW1⟩ : ∃ W1, W1 = Lib.bytesWorld w 5 (S [a, b]) := ⟨_, rfl⟩
  rw [← hW1] at hcv hB HBEL
  clear hW1
  rw [← hexF_two a b]
  have hl2 : ([a, b] : List UInt8).length = 2 := rfl
  obtain ⟨t, ht⟩ : ∃ t, t = S [a, b] := ⟨_, rfl⟩
  have HT := Lib.hid ht
  rw [← ht] at hcv hz hemp ⊢
  clear ht
  generalize ([a, b] : List UInt8) = bs at *
  have hne : t.toList.isEmpty = false := by rw [hemp]; cases bs with | nil => simp at hl2 | cons => rfl
  have hne2 : (t.toList = []) = False := by rw [hemp]; cases bs with | nil => simp at hl2 | cons => simp
  have HB := Lib.hid hB
  have HL2 := Lib.hid hl2
  clear hemp hl2 hB
  have hl2n := HL2.out
  obtain ⟨o, ho⟩ : ∃ o, o = hexF 0 bs := ⟨_, rfl⟩
  have HO := Lib.hid ho
  rw [← ho]
  have hzi : t.size = 2 := hz
  clear ho hl2n
  go_enter Tryz.func199, Tryz.ntmps199
  go_wp2_with fail
  go_loop [12, 13, 101] (fun vu vn vi => ∃ (k : Nat) (a : Int), vu = .bool false ∧ vn = .int .u64 a ∧ vi = .int .i64 k ∧ k ≤ 2 ∧ 0 ≤ a ∧ a ≤ 255 ∧ Hid ((k = 0 → a = 0) ∧ (k < 2 → a ≤ 15)) ∧ Hid (hexF a.toNat (bs.drop k) = o))
    (fun _ _ vi => 2 - (intOf vi).toNat)
  case atStart => exact ⟨0, 0, rfl, rfl, rfl, by omega, by omega, by omega, Lib.hid ⟨fun _ => rfl, fun _ => by omega⟩, Lib.hid HO.out.symm⟩
  case round =>
    obtain ⟨k, a, rfl, rfl, rfl, hk, a0, a1, a2, HH⟩ := hrel
    by_cases hkn : k < 2
    · have a3 : a ≤ 15 := a2.out.2 hkn
      have AZ := Lib.hid a2.out.1
      have hc := HB.out k hkn
      have hdrop : bs.drop k = bs[k]'(by have := HL2.out; omega) :: bs.drop (k + 1) := List.drop_eq_getElem_cons (by have := HL2.out; omega)
      have hget : bs.getD k 0 = bs[k]'(by have := HL2.out; omega) := by simp [List.getD, List.getElem?_eq_getElem (show k < bs.length by have := HL2.out; omega)]
      rw [hget] at hc
      generalize bs[k]'(by have := HL2.out; omega) = c at hc hdrop
      have hc256 : (c.toNat : Int) < 256 := byte_lt c
      have HST := Lib.hid (show hexF a.toNat (c :: bs.drop (k + 1)) = o by rw [← hdrop]; exact HH.out)
      have hk1 : k + 1 = 1 ∨ k + 1 = 2 := by omega
      clear hget a1 a2 HH hdrop
      by_cases hdig : 48 ≤ c.toNat ∧ c.toNat ≤ 57
      · have hd0 : (48 : Int) ≤ (c.toNat : Int) := by omega
        have hd1 : (c.toNat : Int) ≤ 57 := by omega
        have hv : hexD c = some (c.toNat - 48) := by unfold hexD; rw [if_pos hdig]
        have HN := Lib.hid (show hexF (a * 16 + ((c.toNat : Int) - 48)).toNat (bs.drop (k + 1)) = o by
          have := HST.out
          simp only [hexF, hv] at this
          rw [← this]
          congr 1
          omega)
        clear hdig hv
        go_wp2_with fail
        go_round
        case rel => exact ⟨k + 1, a * 16 + ((c.toNat : Int) - 48), rfl, (by first | rfl | (congr 1; omega)), by go_num, by omega, by omega, by omega, Lib.hid ⟨fun h => absurd h (by omega), fun h => by have := AZ.out (by omega); omega⟩, HN⟩
        case measure => simp [intOf]; omega
      · have hndig : ¬ (48 ≤ (c.toNat : Int) ∧ (c.toNat : Int) ≤ 57) := by omega
        have HL := Lib.hid (low_any c)
        have hlw : ((low c).toNat : Int) < 256 := byte_lt (low c)
        by_cases haf : 97 ≤ (low c).toNat ∧ (low c).toNat ≤ 102
        · have hv : hexD c = some ((low c).toNat - 87) := by unfold hexD; rw [if_neg hdig, if_pos haf]
          have HN := Lib.hid (show hexF (a * 16 + (((low c).toNat : Int) - 97 + 10)).toNat (bs.drop (k + 1)) = o by
            have := HST.out
            simp only [hexF, hv] at this
            rw [← this]
            congr 1
            omega)
          have h0 : (97 : Int) ≤ ((low c).toNat : Int) := by omega
          have h1 : ((low c).toNat : Int) ≤ 102 := by omega
          have n95 : ((c.toNat : Int) == 95) = false := by
            rw [beq_eq_false_iff_ne]
            intro e
            obtain rfl : c = 95 := UInt8.toNat_inj.1 (show c.toNat = 95 by omega)
            exact absurd haf.2 (by decide)
          generalize ((low c).toNat : Int) = v at *
          clear hdig hv haf
          go_wp2_with (refine (HL.out _).mono ?_; rintro e w' ⟨rfl, rfl⟩)
          all_goals
            go_round
            case rel => exact ⟨k + 1, a * 16 + (v - 97 + 10), rfl, (by first | rfl | (congr 1; omega)), by go_num, by omega, by omega, by omega, Lib.hid ⟨fun h => absurd h (by omega), fun h => by have := AZ.out (by omega); omega⟩, HN⟩
            case measure => simp [intOf]; omega
        · have hv : hexD c = none := by unfold hexD; rw [if_neg hdig, if_neg haf]
          obtain rfl : o = none := by
            have := HST.out
            simp only [hexF, hv] at this
            exact this.symm
          clear hdig hv HST HO
          have hnaf : ¬ (97 ≤ ((low c).toNat : Int) ∧ ((low c).toNat : Int) ≤ 102) := by omega
          clear haf
          by_cases h95 : c = 95
          · subst h95
            have HL5 := Lib.hid (fun (wr : World) => show Calls Tryz.prog 229 #[.int .u8 95] wr fun e w' => e = .returned (.int .u8 127) ∧ wr = w' from low_any 95 wr)
            have hc5 : W1.cell? ⟨w.heap.size, k, none⟩ = some (.int .u8 95) := hc
            clear HL hc hnaf hlw hndig hc256
            go_wp2_with (refine (HL5.out _).mono ?_; rintro e w' ⟨rfl, rfl⟩)
            all_goals go_ret2
            all_goals exact ⟨rfl, HBEL.out⟩
          · have n95 : ((c.toNat : Int) == 95) = false := by
              rw [beq_eq_false_iff_ne]
              intro e
              exact h95 (UInt8.toNat_inj.1 (show c.toNat = 95 by omega))
            clear h95
            generalize ((low c).toNat : Int) = v at *
            go_wp2_with (refine (HL.out _).mono ?_; rintro e w' ⟨rfl, rfl⟩)
            all_goals go_ret2
            all_goals exact ⟨rfl, HBEL.out⟩
    · obtain rfl : k = 2 := by omega
      have HE := Lib.hid (show some a.toNat = o by
        have := HH.out
        rw [List.drop_eq_nil_of_le (by have := HL2.out; omega)] at this
        exact this)
      have HP := Lib.hid (show puV o = .tuple #[.int .u64 a, .nilIface] by
        rw [← HE.out]
        show (Value.tuple #[.int .u64 (a.toNat : Int), .nilIface]) = _
        rw [Int.toNat_of_nonneg a0])
      go_wp2_with fail
      go_ret2
      exact ⟨by rw [HP.out]; rfl, HBEL.out⟩
end Go.Proofs.YtlmmfhbdebfgkaaGreatDoor.Lx
namespace Go.Proofs.YtlmmfhbdebfgkaaGreatDoor.Lx
open Go.RowKit
open Va
theorem parse16_some (a b : UInt8) (n : Nat) (h : hexP a b = some n) (w : World) :
    Calls Tryz.prog 204 #[.string (S [a, b]), .int .i64 16, .int .i64 8] w fun e w' => e = .returned (.tuple #[.int .u64 (n : Int), .nilIface]) ∧ Below w.heap.size w w' := by
  have HI := Lib.hid (inner_any a b)
  rw [h] at HI
  generalize S [a, b] = t at *
  clear h
  go_enter Tryz.func204, Tryz.ntmps204
  go_wp2_with fail
  refine (HI.out _).mono ?_
  rintro e w1 ⟨rfl, b1⟩
  have B1 := Lib.hid b1
  clear b1
  unfold puV
  go_wp2_with fail
  go_ret2
  exact ⟨rfl, B1.out⟩
theorem parse16_none (a b : UInt8) (h : hexP a b = none) (w : World) (he : ErrAt w 6) :
    Calls Tryz.prog 204 #[.string (S [a, b]), .int .i64 16, .int .i64 8] w fun e w' => (∃ t p, e = .returned (.tuple #[.int .u64 0, .iface t (.pointer (some p))])) ∧ Below w.heap.size w w' := by
  have HI := Lib.hid (inner_any a b)
  rw [h] at HI
  have hz : (S [a, b]).size = 2 := rfl
  have HE := Lib.hid (fun (wr : World) (hb : Below w.heap.size w wr) => he.below hb)
  have HT := Lib.hid (fun (wr : World) (hb : Below w.heap.size w wr) => show Calls Tryz.prog 163 #[.string ⟨#[80, 97, 114, 115, 101, 85, 105, 110, 116]⟩, .string (S [a, b]), .int .i64 16, .int .i64 8, .iface 234 (.int .i64 2)] wr fun e w' => (∃ t p, e = .returned (.iface t (.pointer (some p)))) ∧ Below wr.heap.size wr w' from by
    obtain ⟨ev, h1, h2, _⟩ := he.below hb
    refine (Tryz.strconv_toError_syntax _ (S [a, b]) 16 8 ev wr (by rw [hz]; omega) h1 h2).mono ?_
    rintro e w' ⟨N, rfl, _, _, hb⟩
    exact ⟨⟨_, _, rfl⟩, hb⟩)
  generalize S [a, b] = t at *
  clear h he hz
  go_enter Tryz.func204, Tryz.ntmps204
  go_wp2_with fail
  refine (HI.out _).mono ?_
  rintro e w1 ⟨rfl, b1⟩
  have B1 := Lib.hid b1
  clear b1
  unfold puV
  go_wp2_with fail
  refine (HT.out _ B1.out).mono ?_
  rintro e w2 ⟨⟨t2, p2, rfl⟩, b2⟩
  have B2 := Lib.hid b2
  clear b2
  go_wp2_with fail
  go_ret2
  exact ⟨⟨_, _, rfl⟩, two B1.out B2.out⟩
theorem byte_ne (c d : UInt8) (h : c ≠ d) : ((c.toNat : Int) == (d.toNat : Int)) = false := by
  rw [beq_eq_false_iff_ne]
  intro e
  exact h (UInt8.toNat_inj.1 (by omega))
theorem S_get (s : ByteArray) (l : List UInt8) (h : s.data.toList = l) (k : Nat) (hk : k < s.size) (c : UInt8) (hc : l[k]? = some c) : s[k] = c := by
  have := getElem_list s k hk
  rw [← this, h]
  simp [List.getD, hc]
def unV (x : UInt8 × Nat) : Value := .tuple #[.int .u8 (x.1.toNat : Int), .int .i64 (x.2 : Int)]
theorem unescape_any (s : ByteArray) (hs : s.size ≤ 100000) (hs1 : 1 ≤ s.size) (w : World) (he : ErrAt w 6) :
    Calls Tryz.prog 164 #[.string s] w fun e w' => e = .returned (unV (unescM s.data.toList)) ∧ Below w.heap.size w w' := by
  have hls := list_size s
  obtain ⟨l, hl⟩ : ∃ l, s.data.toList = l := ⟨_, rfl⟩
  rw [hl] at hls ⊢
  have hsi : (1 : Int) ≤ (s.size : Int) := by omega
  match l, hl, hls with
  | [], _, hls => simp at hls; omega
  | [c], hl, hls =>
    have h0 : s[0] = c := S_get s _ hl 0 (by omega) c rfl
    have hz : s.size = 1 := by simpa using hls.symm
    clear hl hls
    by_cases hc : c = 92
    · subst hc
      have hR := Lib.hid (show unV (unescM [92]) = .tuple #[.int .u8 92, .int .i64 1] from rfl)
      go_enter Tryz.func164, Tryz.ntmps164
      go_wp2_with fail
      go_ret2
      exact ⟨by rw [hR.out]; rfl, Below.refl _ _⟩
    · have hcb : ((c.toNat : Int) == 92) = false := byte_ne c 92 hc
      have hcn : ((c.toNat : Int) != 92) = true := by simp only [bne, hcb, Bool.not_false]
      have hR := Lib.hid (show unV (unescM [c]) = .tuple #[.int .u8 (c.toNat : Int), .int .i64 1] from rfl)
      clear hc
      go_enter Tryz.func164, Tryz.ntmps164
      go_wp2_with fail
      go_ret2
      exact ⟨by rw [hR.out]; rfl, Below.refl _ _⟩
  | c :: d :: r, hl, hls =>
    have h0 : s[0] = c := S_get s _ hl 0 (by omega) c rfl
    have hl2 : 2 ≤ s.size := by simp at hls; omega
    have h1 : s[1]'hl2 = d := S_get s _ hl 1 hl2 d rfl
    have hz : (2 : Int) ≤ (s.size : Int) := by simp at hls; omega
    have hz2 : ¬ (s.size : Int) < 2 := by omega
    by_cases hc : c = 92
    · subst hc
      by_cases hd : d = 120
      · subst hd
        match r, hl, hls with
        | [], hl, hls =>
          have hz4 : ¬ (4 : Int) ≤ (s.size : Int) := by simp at hls; omega
          have hR := Lib.hid (show unV (unescM [92, 120]) = .tuple #[.int .u8 120, .int .i64 2] from rfl)
          clear hl hls
          go_enter Tryz.func164, Tryz.ntmps164
          go_wp2_with fail
          go_ret2
          exact ⟨by rw [hR.out]; rfl, Below.refl _ _⟩
        | [a], hl, hls =>
          have hz4 : ¬ (4 : Int) ≤ (s.size : Int) := by simp at hls; omega
          have hR := Lib.hid (show unV (unescM [92, 120, a]) = .tuple #[.int .u8 120, .int .i64 2] from rfl)
          clear hl hls
          go_enter Tryz.func164, Tryz.ntmps164
          go_wp2_with fail
          go_ret2
          exact ⟨by rw [hR.out]; rfl, Below.refl _ _⟩
        | a :: b :: r, hl, hls =>
          have hz4 : (4 : Int) ≤ (s.size : Int) := by simp at hls; omega
          have hex : s.extract 2 4 = S [a, b] := by rw [S_extract, hl]; rfl
          cases hp : hexP a b with
          | none =>
            have hR := Lib.hid (show unV (unescM (92 :: 120 :: a :: b :: r)) = .tuple #[.int .u8 120, .int .i64 2] by rw [unescM_nohex a b r hp]; rfl)
            have HP := Lib.hid (parse16_none a b hp w he)
            clear hl hls hp
            go_enter Tryz.func164, Tryz.ntmps164
            go_wp2_with fail
            refine HP.out.mono ?_
            rintro e w1 ⟨⟨t1, p1, rfl⟩, b1⟩
            have B1 := Lib.hid b1
            clear b1
            go_wp2_with fail
            go_ret2
            exact ⟨by rw [hR.out]; rfl, B1.out⟩
          | some n =>
            have hn := hexP_lt hp
            have hn8 : (n : Int) < 256 := by omega
            have hR := Lib.hid (show unV (unescM (92 :: 120 :: a :: b :: r)) = .tuple #[.int .u8 (n : Int), .int .i64 4] by
              rw [unescM_hex a b r n hp]
              show Value.tuple #[.int .u8 (((UInt8.ofNat n).toNat : Nat) : Int), .int .i64 4] = _
              rw [UInt8.toNat_ofNat_of_lt' (by simpa using hn)])
            have HP := Lib.hid (parse16_some a b n hp w)
            clear hl hls hp hn
            go_enter Tryz.func164, Tryz.ntmps164
            go_wp2_with fail
            refine HP.out.mono ?_
            rintro e w1 ⟨rfl, b1⟩
            have B1 := Lib.hid b1
            clear b1
            go_wp2_with fail
            go_ret2
            exact ⟨by rw [hR.out]; rfl, B1.out⟩
      · have hdb : ((d.toNat : Int) == 120) = false := byte_ne d 120 hd
        have hR := Lib.hid (show unV (unescM (92 :: d :: r)) = .tuple #[.int .u8 (d.toNat : Int), .int .i64 2] by rw [unescM_two d r hd]; rfl)
        clear hl hls hd
        go_enter Tryz.func164, Tryz.ntmps164
        go_wp2_with fail
        go_ret2
        exact ⟨by rw [hR.out]; rfl, Below.refl _ _⟩
    · have hcb : ((c.toNat : Int) == 92) = false := byte_ne c 92 hc
      have hcn : ((c.toNat : Int) != 92) = true := by simp only [bne, hcb, Bool.not_false]
      have hR := Lib.hid (show unV (unescM (c :: d :: r)) = .tuple #[.int .u8 (c.toNat : Int), .int .i64 1] by rw [unescM_plain c _ hc]; rfl)
      clear hl hls hc
      go_enter Tryz.func164, Tryz.ntmps164
      go_wp2_with fail
      go_ret2
      exact ⟨by rw [hR.out]; rfl, Below.refl _ _⟩
end Go.Proofs.YtlmmfhbdebfgkaaGreatDoor.Lx
