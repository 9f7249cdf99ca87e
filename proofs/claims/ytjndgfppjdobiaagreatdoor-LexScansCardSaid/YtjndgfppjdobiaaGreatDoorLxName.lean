/-
  The program's lexer: names, symbols.
-/
import Derived.Test.YtjndgfppjdobiaaGreatDoorLxRun
import Derived.Test.YtjndgfppjdobiaaGreatDoorVlPrint
import Derived.Test.YtjndgfppjdobiaaGreatDoorVlRight
import Derived.Test.YtjndgfppjdobiaaGreatDoorLxGood
namespace Go.Proofs.YtjndgfppjdobiaaGreatDoor.Lx
open Go.RowKit
open Va

theorem clone_any (s : ByteArray) (hs : s.size ≤ 281474976710656) (w : World) :
    Calls Tryz.prog 37 #[.string s] w fun e w' => e = .returned (.string s) ∧ Below w.heap.size w w' := by
  go_enter Tryz.func37, Tryz.ntmps37
  go_wp2_with fail
  refine (Tryz.stringslite_Clone s _ hs).mono ?_
  rintro e w' ⟨rfl, hb⟩
  have HB := Lib.hid hb
  clear hb
  go_wp2_with fail
  go_ret
  exact ⟨rfl, HB.out⟩

/-- A token as a result: its four cells. -/
def tokC (k : Int) (t : List UInt8) (n a : Int) : Value := .agg #[.int .i64 k, .string (S t), .int .i64 n, .int .i64 a]
def tokO (k : Int) (t : List UInt8) (n a : Int) : Obj := .cells #[.int .i64 k, .string (S t), .int .i64 n, .int .i64 a] 32
/-- A token's box, where the call has laid it. -/
theorem box_here (w : World) (k : Int) (t : List UInt8) (n a : Int) (w1 : World) (g : Good (w.alloc (tokO k t n a)) w1) :
    (w1.cell? ⟨w.heap.size, 0, none⟩ = some (.int .i64 k) ∧ w1.cell? ⟨w.heap.size, 1, none⟩ = some (.string (S t)) ∧ w1.cell? ⟨w.heap.size, 2, none⟩ = some (.int .i64 n) ∧ w1.cell? ⟨w.heap.size, 3, none⟩ = some (.int .i64 a)) ∧
    (w1.frozen? ⟨w.heap.size, 0, none⟩ = false ∧ w1.frozen? ⟨w.heap.size, 1, none⟩ = false ∧ w1.frozen? ⟨w.heap.size, 2, none⟩ = false ∧ w1.frozen? ⟨w.heap.size, 3, none⟩ = false) := by
  have h0 := heap_alloc_new w (tokO k t n a)
  have h := (g.block w.heap.size (lt_of_heapV h0)).trans h0
  have hf : ∀ j, w1.frozen? ⟨w.heap.size, j, none⟩ = false := fun j => by unfold World.frozen?; simp only [h]; simp [tokO]
  exact ⟨⟨(cell_of_row w1 _ 0 _ _ (0, 0) h).trans rfl, (cell_of_row w1 _ 1 _ _ (0, 0) h).trans rfl, (cell_of_row w1 _ 2 _ _ (0, 0) h).trans rfl, (cell_of_row w1 _ 3 _ _ (0, 0) h).trans rfl⟩, hf 0, hf 1, hf 2, hf 3⟩

/-- Four cells that are laid anew. -/
theorem put4 {w : World} {b : Nat} {u0 u1 u2 u3 : Value} (h0 : w.cell? ⟨b, 0, none⟩ = some u0) (h1 : w.cell? ⟨b, 1, none⟩ = some u1) (h2 : w.cell? ⟨b, 2, none⟩ = some u2) (h3 : w.cell? ⟨b, 3, none⟩ = some u3) (v0 v1 v2 v3 : Value) :
    (w.setCell ⟨b, 0, none⟩ v0).cell? ⟨b, 0, none⟩ = some v0 ∧ ((w.setCell ⟨b, 0, none⟩ v0).setCell ⟨b, 1, none⟩ v1).cell? ⟨b, 1, none⟩ = some v1 ∧
    (((w.setCell ⟨b, 0, none⟩ v0).setCell ⟨b, 1, none⟩ v1).setCell ⟨b, 2, none⟩ v2).cell? ⟨b, 2, none⟩ = some v2 ∧ ((((w.setCell ⟨b, 0, none⟩ v0).setCell ⟨b, 1, none⟩ v1).setCell ⟨b, 2, none⟩ v2).setCell ⟨b, 3, none⟩ v3).cell? ⟨b, 3, none⟩ = some v3 := by
  have o : ∀ (x : World) (i j : Nat) (v : Value), i ≠ j → (x.setCell ⟨b, i, none⟩ v).cell? ⟨b, j, none⟩ = x.cell? ⟨b, j, none⟩ := fun x i j v h =>
    World.cell?_setCell_other (w := x) (a := ⟨b, i, none⟩) (b := ⟨b, j, none⟩) (v := v) (h := by intro e; injection e with _ e2 _; omega)
  refine ⟨World.cell?_setCell_same (w := w) (a := ⟨b, 0, none⟩) (v := v0) (h := h0), ?_, ?_, ?_⟩
  · exact World.cell?_setCell_same (w := _) (a := ⟨b, 1, none⟩) (v := v1) (h := (o _ 0 1 _ (by omega)).trans h1)
  · exact World.cell?_setCell_same (w := _) (a := ⟨b, 2, none⟩) (v := v2) (h := (o _ 1 2 _ (by omega)).trans ((o _ 0 2 _ (by omega)).trans h2))
  · exact World.cell?_setCell_same (w := _) (a := ⟨b, 3, none⟩) (v := v3) (h := (o _ 2 3 _ (by omega)).trans ((o _ 1 3 _ (by omega)).trans ((o _ 0 3 _ (by omega)).trans h3)))
/-- The answer of a reader of tokens: the token without its place, and how many bytes it has. -/
def ansV (x : Option Tok) : Value := match x with
  | none => .tuple #[tokC 0 [] 0 0, .int .i64 0]
  | some x => .tuple #[tokC x.kind x.text x.num 0, .int .i64 (x.len : Int)]

/-- A name at the beginning. -/
def nameM (l : List UInt8) : Option Tok := let n := l.takeWhile wordB; if nameB n = true then some ⟨1, n, 0, n.length⟩ else none

set_option linter.unusedSimpArgs false
set_option maxRecDepth 100000 in
set_option maxHeartbeats 1600000 in
theorem name_any (s : ByteArray) (hs : s.size ≤ 100000) (w : World) :
    Calls Tryz.prog 16 #[.string s] w fun e w' => e = .returned (ansV (nameM s.data.toList)) ∧ Below w.heap.size w w' := by
  have hls := list_size s
  have hle : (s.data.toList.takeWhile wordB).length ≤ s.size := by rw [← hls]; exact takeWhile_le _ _
  have HRUN := Lib.hid (runWord_any s hs)
  have hsl : s.extract 0 (s.data.toList.takeWhile wordB).length = S (s.data.toList.takeWhile wordB) := by
    rw [S_extract, List.drop_zero, Nat.sub_zero, take_takeWhile]
  have hlz : (S (s.data.toList.takeWhile wordB)).size = (s.data.toList.takeWhile wordB).length := S_size _
  have HG0 := Lib.hid (Good.refl (w.alloc (tokO 0 [] 0 0)))
  have HBOX := Lib.hid (box_here w 0 [] 0 0)
  have HFIN := Lib.hid (fun (wr : World) (h : Good (w.alloc (tokO 0 [] 0 0)) wr) => ((Below.refl w.heap.size w).alloc (Nat.le_refl _) (tokO 0 [] 0 0)).trans (h.mono (by simp)))
  have HM := Lib.hid (show nameM s.data.toList = if nameB (s.data.toList.takeWhile wordB) = true then some ⟨1, s.data.toList.takeWhile wordB, 0, (s.data.toList.takeWhile wordB).length⟩ else none from rfl)
  have hNM := Name_any (S (s.data.toList.takeWhile wordB)) (by omega)
  have hCL := clone_any (S (s.data.toList.takeWhile wordB)) (by omega)
  rw [S_toList] at hNM
  have HNM := Lib.hid hNM
  have HCL := Lib.hid hCL
  have HSL := Lib.hid hsl
  clear hls hNM hCL hsl
  generalize hn : s.data.toList.takeWhile wordB = n at *
  clear hn
  have hli : (n.length : Int) ≤ (s.size : Int) := by omega
  have hsl2 := HSL.out
  go_enter Tryz.func16, Tryz.ntmps16
  go_wp2_with fail
  refine (HRUN.out _).mono ?_
  rintro e w1 ⟨rfl, b1⟩
  have HG1 := Lib.hid (HG0.out.step b1)
  clear b1
  go_wp2_with fail
  cases hnm : nameB n with
  | false =>
    rw [hnm] at HNM
    have HR := Lib.hid (show nameM s.data.toList = none by rw [HM.out, if_neg (by rw [hnm]; decide)])
    clear hnm
    refine (HNM.out _).mono ?_
    rintro e w2 ⟨rfl, b2⟩
    have HG2 := Lib.hid (HG1.out.step b2)
    obtain ⟨⟨c0, c1, c2, c3⟩, f0, f1, f2, f3⟩ := HBOX.out _ HG2.out
    clear b2
    go_wp2_with fail
    rw [HR.out]
    obtain ⟨d0, d1, d2, d3⟩ := put4 c0 c1 c2 c3 (.int .i64 0) (.string ⟨#[]⟩) (.int .i64 0) (.int .i64 0)
    exact bodyPost_ret (v := ansV none) (by simp [results, d0, d1, d2, d3, S, Tryz.results16, go_sem, ansV, tokC]) rfl ⟨rfl, (((((HFIN.out _ HG2.out).setCell (p := ⟨w.heap.size, 0, none⟩) (Nat.le_refl _) _).setCell (p := ⟨w.heap.size, 1, none⟩) (Nat.le_refl _) _).setCell (p := ⟨w.heap.size, 2, none⟩) (Nat.le_refl _) _).setCell (p := ⟨w.heap.size, 3, none⟩) (Nat.le_refl _) _)⟩
  | true =>
    rw [hnm] at HNM
    have HR := Lib.hid (show nameM s.data.toList = some ⟨1, n, 0, n.length⟩ by rw [HM.out, if_pos hnm])
    clear hnm
    refine (HNM.out _).mono ?_
    rintro e w2 ⟨rfl, b2⟩
    have HG2 := Lib.hid (HG1.out.step b2)
    clear b2
    go_wp2_with fail
    refine (HCL.out _).mono ?_
    rintro e w3 ⟨rfl, b3⟩
    have HG3 := Lib.hid (HG2.out.step b3)
    obtain ⟨⟨c0, c1, c2, c3⟩, f0, f1, f2, f3⟩ := HBOX.out _ HG3.out
    clear b3
    go_wp2_with fail
    rw [HR.out]
    obtain ⟨d0, d1, d2, d3⟩ := put4 c0 c1 c2 c3 (.int .i64 1) (.string (S n)) (.int .i64 0) (.int .i64 0)
    exact bodyPost_ret (v := ansV (some ⟨1, n, 0, n.length⟩)) (by simp [results, d0, d1, d2, d3, Tryz.results16, go_sem, ansV, tokC]) rfl ⟨rfl, (((((HFIN.out _ HG3.out).setCell (p := ⟨w.heap.size, 0, none⟩) (Nat.le_refl _) _).setCell (p := ⟨w.heap.size, 1, none⟩) (Nat.le_refl _) _).setCell (p := ⟨w.heap.size, 2, none⟩) (Nat.le_refl _) _).setCell (p := ⟨w.heap.size, 3, none⟩) (Nat.le_refl _) _)⟩

end Go.Proofs.YtjndgfppjdobiaaGreatDoor.Lx
