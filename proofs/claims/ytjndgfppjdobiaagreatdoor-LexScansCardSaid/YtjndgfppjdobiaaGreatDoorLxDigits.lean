/-
  The program's lexer: digits.
-/
import Derived.Test.YtjndgfppjdobiaaGreatDoorLxName
import Derived.Test.YtjndgfppjdobiaaGreatDoorLxDig
import Derived.Lib.SmallJoins
namespace Go.Proofs.YtjndgfppjdobiaaGreatDoor.Lx
open Go.RowKit
open Va

theorem one_or (d : List UInt8) (h : d ≠ []) : (d.length == 1 || d.head? != some 48) = !(d.head? == some 48 && !(d == [48])) := by
  match d, h with
  | [c], _ =>
    cases hc : (c == 48) with
    | true => obtain rfl : c = 48 := by simpa using hc
              rfl
    | false => have : ([c] == [48]) = false := by simpa using hc
               have h2 : (([c] : List UInt8).head? == some 48) = false := by simpa using hc
               rw [this, h2]; rfl
  | c :: c2 :: r, _ =>
    have h1 : ((c :: c2 :: r) == [48]) = false := by simp
    have h3 : ((c :: c2 :: r).length == 1) = false := by simp
    rw [h1, h3]
    simp only [Bool.false_or, Bool.not_false, Bool.and_true]
    rfl
/-- A variable that holds an error of the library's. -/
def ErrAt (w : World) (g : Nat) : Prop := ∃ ev, w.cell? ⟨g, 0, none⟩ = some ev ∧ (ev = .nilIface ∨ ∃ te pe, ev = .iface te pe) ∧ g < w.heap.size
theorem ErrAt.below {w w' : World} {g : Nat} (h : ErrAt w g) (b : Below w.heap.size w w') : ErrAt w' g := by
  obtain ⟨ev, h1, h2, h3⟩ := h
  exact ⟨ev, (b.cell (p := ⟨g, 0, none⟩) h3).trans h1, h2, Nat.lt_of_lt_of_le h3 b.size⟩
def IfaceP (v : Value) : Prop := ∃ t p, v = .iface t p
theorem parse_any (d : List UInt8) (hne : d ≠ []) (hd : ∀ c ∈ d, digB c = true) (hl : d.length ≤ 100000) (w : World) (he : ErrAt w 5) :
    (undig d ≤ 9223372036854775807 → Calls Tryz.prog 38 #[.string (S d), .int .i64 10, .int .i64 64] w fun e w' => e = .returned (.tuple #[.int .i64 (undig d : Int), .nilIface]) ∧ Below w.heap.size w w') ∧
    (¬ undig d ≤ 9223372036854775807 → Calls Tryz.prog 38 #[.string (S d), .int .i64 10, .int .i64 64] w fun e w' => (∃ n t p, e = .returned (.tuple #[.int .i64 n, .iface t (.pointer (some p))])) ∧ Below w.heap.size w w') := by
  have hi := intB_digs d hne hd
  have hs : (S d).size = d.length := S_size d
  refine ⟨fun h => ?_, fun h => ?_⟩
  · rw [if_pos h] at hi
    refine (Tryz.strconv_ParseInt_10_at64_ok (S d) (by omega) _ (by rw [S_toList]; exact hi) w).mono ?_
    rintro e w' ⟨rfl, hw⟩
    refine ⟨rfl, ?_⟩
    rcases hw with rfl | ⟨t, rfl⟩
    · exact Below.refl _ _
    · exact Go.Joins.below_bytesWorld _ _ _ _ (Nat.le_refl _)
  · rw [if_neg h] at hi
    obtain ⟨ev, h1, h2, _⟩ := he
    refine (Tryz.strconv_ParseInt_10_at64_range (S d) (by omega) (by rw [S_toList]; exact hi) ev w h1 h2).mono ?_
    rintro e w' ⟨N, rfl, _, _, hb⟩
    exact ⟨⟨_, _, _, rfl⟩, hb⟩

set_option linter.unusedSimpArgs false
set_option maxRecDepth 100000 in
set_option maxHeartbeats 1600000 in
theorem digits_any (s : ByteArray) (hs : s.size ≤ 100000) (hd0 : s.data.toList.takeWhile digB ≠ []) (w : World) (he : ErrAt w 5) :
    Calls Tryz.prog 18 #[.string s] w fun e w' => e = .returned (ansV (digM s.data.toList)) ∧ Below w.heap.size w w' := by
  have hls := list_size s
  have hle : (s.data.toList.takeWhile digB).length ≤ s.size := by rw [← hls]; exact takeWhile_le _ _
  have HRUN := Lib.hid (runDig_any s hs)
  have hsl : s.extract 0 (s.data.toList.takeWhile digB).length = S (s.data.toList.takeWhile digB) := by
    rw [S_extract, List.drop_zero, Nat.sub_zero, take_takeWhile]
  have hlz : (S (s.data.toList.takeWhile digB)).size = (s.data.toList.takeWhile digB).length := S_size _
  have hall := mem_takeWhile digB s.data.toList
  have hb0 := (Below.refl w.heap.size w).alloc (Nat.le_refl _) (tokO 0 [] 0 0)
  have HG0 := Lib.hid (Good.refl (w.alloc (tokO 0 [] 0 0)))
  have HBOX := Lib.hid (box_here w 0 [] 0 0)
  have HFIN := Lib.hid (fun (wr : World) (h : Good (w.alloc (tokO 0 [] 0 0)) wr) => hb0.trans (h.mono (by simp)))
  have HM := Lib.hid (show digM s.data.toList = if digsOk (s.data.toList.takeWhile digB) = true then some ⟨2, s.data.toList.takeWhile digB, undig (s.data.toList.takeWhile digB), (s.data.toList.takeWhile digB).length⟩ else none from rfl)
  have hCL := clone_any (S (s.data.toList.takeWhile digB)) (by omega)
  have hPI := fun (wr : World) (h : Good (w.alloc (tokO 0 [] 0 0)) wr) => parse_any (s.data.toList.takeWhile digB) hd0 hall (by omega) wr ((he.below hb0).below h)
  have HPI := Lib.hid hPI
  have HCL := Lib.hid hCL
  have HSL := Lib.hid hsl
  clear hls hCL hsl hPI hall he hb0
  generalize hn : s.data.toList.takeWhile digB = d at *
  clear hn
  have hli : (d.length : Int) ≤ (s.size : Int) := by omega
  have hpos : 0 < d.length := List.length_pos_iff.2 hd0
  have hposi : (0 : Int) < (d.length : Int) := by omega
  have hsl2 := HSL.out
  obtain ⟨ds, hds⟩ : ∃ ds, ds = S d := ⟨_, rfl⟩
  have HDS := Lib.hid hds
  have HLZ := Lib.hid (show ds.size = d.length by rw [hds, hlz])
  have hdz : ds.size = d.length := HLZ.out
  have hd48 : (((ds[0]'(by omega)).toNat : Int) == 48) = (d.head? == some 48) := by
    have e1 : ds[0]'(by omega) = d[0] := by
      have := getElem_list ds 0 (by omega)
      rw [← this, hds, S_toList]
      simp [List.getD, hpos]
    rw [e1, List.head?_eq_getElem?, List.getElem?_eq_getElem hpos, Bool.eq_iff_iff]
    simp only [beq_iff_eq, Option.some.injEq]
    exact ⟨fun e => UInt8.toNat_inj.1 (show d[0].toNat = 48 by omega), fun e => by rw [e]; rfl⟩
  have hone : (ds.toList == [48]) = (d == [48]) := by rw [hds, ByteArray.toList_eq, S_toList]
  have hok : digsOk d = (!(d.head? == some 48 && !(d == [48])) && decide (undig d ≤ 9223372036854775807)) := by
    rw [digsOk_eq]
    congr 1
    exact one_or d hd0
  rw [← hds] at hsl2 HCL HPI
  clear hds HSL
  have hh : (d.head? == some 48) = true ∨ (d.head? == some 48) = false := by cases (d.head? == some 48) <;> simp
  have hd1 : (d == [48]) = true ∨ (d == [48]) = false := by cases (d == [48]) <;> simp
  by_cases hu : undig d ≤ 9223372036854775807
  · have HPO := Lib.hid (fun wr (h : Good (w.alloc (tokO 0 [] 0 0)) wr) => (HPI.out wr h).1 hu)
    have hui : decide (undig d ≤ 9223372036854775807) = true := by simpa using hu
    rw [hui, Bool.and_true] at hok
    clear HPI hui
    rcases hh with hh | hh
    · rcases hd1 with hd1 | hd1
      · rw [hh] at hd48
        rw [hd1] at hone
        rw [hh, hd1] at hok
        have HR := Lib.hid (show digM s.data.toList = some ⟨2, d, undig d, d.length⟩ by rw [HM.out, if_pos (by rw [hok]; rfl)])
        clear hok hh hd1
        go_enter Tryz.func18, Tryz.ntmps18
        go_wp2_with fail
        refine (HRUN.out _).mono ?_
        rintro e w1 ⟨rfl, b1⟩
        have HG1 := Lib.hid (HG0.out.step b1)
        clear b1
        go_wp2_with fail
        refine (HPO.out _ HG1.out).mono ?_
        rintro e w2 ⟨rfl, b2⟩
        have HG2 := Lib.hid (HG1.out.step b2)
        clear b2
        go_wp2_with fail
        refine (HCL.out _).mono ?_
        rintro e w3 ⟨rfl, b3⟩
        have HG3 := Lib.hid (HG2.out.step b3)
        obtain ⟨⟨c0, c1, c2, c3⟩, f0, f1, f2, f3⟩ := HBOX.out _ HG3.out
        clear b3
        go_wp2_with fail
        rw [HR.out]
        obtain ⟨d0, d1, d2, d3⟩ := put4 c0 c1 c2 c3 (.int .i64 2) (.string ds) (.int .i64 (undig d : Int)) (.int .i64 0)
        exact bodyPost_ret (v := ansV (some ⟨2, d, undig d, d.length⟩)) (by simp [results, d0, d1, d2, d3, Tryz.results18, go_sem, ansV, tokC, HDS.out.symm, HLZ.out]) rfl ⟨rfl, (((((HFIN.out _ HG3.out).setCell (p := ⟨w.heap.size, 0, none⟩) (Nat.le_refl _) _).setCell (p := ⟨w.heap.size, 1, none⟩) (Nat.le_refl _) _).setCell (p := ⟨w.heap.size, 2, none⟩) (Nat.le_refl _) _).setCell (p := ⟨w.heap.size, 3, none⟩) (Nat.le_refl _) _)⟩
      · rw [hh] at hd48
        rw [hd1] at hone
        rw [hh, hd1] at hok
        have HR := Lib.hid (show digM s.data.toList = none by rw [HM.out, if_neg (by rw [hok]; decide)])
        clear hok hh hd1
        go_enter Tryz.func18, Tryz.ntmps18
        go_wp2_with fail
        refine (HRUN.out _).mono ?_
        rintro e w1 ⟨rfl, b1⟩
        have HG1 := Lib.hid (HG0.out.step b1)
        clear b1
        go_wp2_with fail
        refine (HPO.out _ HG1.out).mono ?_
        rintro e w2 ⟨rfl, b2⟩
        have HG2 := Lib.hid (HG1.out.step b2)
        clear b2
        obtain ⟨⟨c0, c1, c2, c3⟩, f0, f1, f2, f3⟩ := HBOX.out _ HG2.out
        go_wp2_with fail
        rw [HR.out]
        obtain ⟨d0, d1, d2, d3⟩ := put4 c0 c1 c2 c3 (.int .i64 0) (.string ⟨#[]⟩) (.int .i64 0) (.int .i64 0)
        exact bodyPost_ret (v := ansV none) (by simp [results, d0, d1, d2, d3, S, Tryz.results18, go_sem, ansV, tokC]) rfl ⟨rfl, (((((HFIN.out _ HG2.out).setCell (p := ⟨w.heap.size, 0, none⟩) (Nat.le_refl _) _).setCell (p := ⟨w.heap.size, 1, none⟩) (Nat.le_refl _) _).setCell (p := ⟨w.heap.size, 2, none⟩) (Nat.le_refl _) _).setCell (p := ⟨w.heap.size, 3, none⟩) (Nat.le_refl _) _)⟩
    · rw [hh] at hd48
      rw [hh] at hok
      have HR := Lib.hid (show digM s.data.toList = some ⟨2, d, undig d, d.length⟩ by rw [HM.out, if_pos (by rw [hok]; rfl)])
      clear hok hh hd1 hone
      go_enter Tryz.func18, Tryz.ntmps18
      go_wp2_with fail
      refine (HRUN.out _).mono ?_
      rintro e w1 ⟨rfl, b1⟩
      have HG1 := Lib.hid (HG0.out.step b1)
      clear b1
      go_wp2_with fail
      refine (HPO.out _ HG1.out).mono ?_
      rintro e w2 ⟨rfl, b2⟩
      have HG2 := Lib.hid (HG1.out.step b2)
      clear b2
      go_wp2_with fail
      refine (HCL.out _).mono ?_
      rintro e w3 ⟨rfl, b3⟩
      have HG3 := Lib.hid (HG2.out.step b3)
      obtain ⟨⟨c0, c1, c2, c3⟩, f0, f1, f2, f3⟩ := HBOX.out _ HG3.out
      clear b3
      go_wp2_with fail
      rw [HR.out]
      obtain ⟨d0, d1, d2, d3⟩ := put4 c0 c1 c2 c3 (.int .i64 2) (.string ds) (.int .i64 (undig d : Int)) (.int .i64 0)
      exact bodyPost_ret (v := ansV (some ⟨2, d, undig d, d.length⟩)) (by simp [results, d0, d1, d2, d3, Tryz.results18, go_sem, ansV, tokC, HDS.out.symm, HLZ.out]) rfl ⟨rfl, (((((HFIN.out _ HG3.out).setCell (p := ⟨w.heap.size, 0, none⟩) (Nat.le_refl _) _).setCell (p := ⟨w.heap.size, 1, none⟩) (Nat.le_refl _) _).setCell (p := ⟨w.heap.size, 2, none⟩) (Nat.le_refl _) _).setCell (p := ⟨w.heap.size, 3, none⟩) (Nat.le_refl _) _)⟩
  · have HPO := Lib.hid (fun wr (h : Good (w.alloc (tokO 0 [] 0 0)) wr) => (HPI.out wr h).2 hu)
    have hui : decide (undig d ≤ 9223372036854775807) = false := by simpa using hu
    rw [hui, Bool.and_false] at hok
    have HR := Lib.hid (show digM s.data.toList = none by rw [HM.out, if_neg (by rw [hok]; decide)])
    clear HPI hui hok hh hd1 hone hd48
    go_enter Tryz.func18, Tryz.ntmps18
    go_wp2_with fail
    refine (HRUN.out _).mono ?_
    rintro e w1 ⟨rfl, b1⟩
    have HG1 := Lib.hid (HG0.out.step b1)
    clear b1
    go_wp2_with fail
    refine (HPO.out _ HG1.out).mono ?_
    rintro e w2 ⟨⟨n2, t2, p2, rfl⟩, b2⟩
    have HG2 := Lib.hid (HG1.out.step b2)
    clear b2
    obtain ⟨⟨c0, c1, c2, c3⟩, f0, f1, f2, f3⟩ := HBOX.out _ HG2.out
    go_wp2_with fail
    rw [HR.out]
    obtain ⟨d0, d1, d2, d3⟩ := put4 c0 c1 c2 c3 (.int .i64 0) (.string ⟨#[]⟩) (.int .i64 0) (.int .i64 0)
    exact bodyPost_ret (v := ansV none) (by simp [results, d0, d1, d2, d3, S, Tryz.results18, go_sem, ansV, tokC]) rfl ⟨rfl, (((((HFIN.out _ HG2.out).setCell (p := ⟨w.heap.size, 0, none⟩) (Nat.le_refl _) _).setCell (p := ⟨w.heap.size, 1, none⟩) (Nat.le_refl _) _).setCell (p := ⟨w.heap.size, 2, none⟩) (Nat.le_refl _) _).setCell (p := ⟨w.heap.size, 3, none⟩) (Nat.le_refl _) _)⟩

end Go.Proofs.YtjndgfppjdobiaaGreatDoor.Lx
