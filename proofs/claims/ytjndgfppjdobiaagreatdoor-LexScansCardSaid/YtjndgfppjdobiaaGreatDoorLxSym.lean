/-
  The program's lexer: symbols.
-/
import Derived.Test.YtjndgfppjdobiaaGreatDoorLxName
namespace Go.Proofs.YtjndgfppjdobiaaGreatDoor.Lx
open Go.RowKit
open Va

theorem alloc_cell (X : World) (o : Obj) (b j : Nat) (h : b < X.heap.size) : (X.alloc o).cell? ⟨b, j, none⟩ = X.cell? ⟨b, j, none⟩ := by
  unfold World.cell?
  simp only [Below.heap_alloc X o b h]
def symM (l : List UInt8) : Option Tok := match nameM l with
  | none => none
  | some x => some ⟨4, x.text, 0, x.len + 1⟩
theorem nameM_cases (l : List UInt8) : nameM l = none ∨ ∃ n, nameM l = some ⟨1, n, 0, n.length⟩ ∧ 1 ≤ n.length ∧ n.length ≤ l.length := by
  unfold nameM
  by_cases h : nameB (l.takeWhile wordB) = true
  · right
    refine ⟨l.takeWhile wordB, by simp only [h, if_true], ?_, takeWhile_le _ _⟩
    have := (nameB_ne h).1
    exact List.length_pos_iff.2 this
  · left
    simp only [if_neg h]

set_option linter.unusedSimpArgs false
set_option maxRecDepth 100000 in
set_option maxHeartbeats 1600000 in
theorem symbol_any (s : ByteArray) (hs : s.size ≤ 100000) (hs1 : 1 ≤ s.size) (w : World) :
    Calls Tryz.prog 20 #[.string s] w fun e w' => e = .returned (ansV (symM (s.data.toList.drop 1))) ∧ Below w.heap.size w w' := by
  have hls := list_size s
  have hex : (s.extract 1 s.size).data.toList = s.data.toList.drop 1 := by
    rw [S_extract, S_toList, List.take_of_length_le (by rw [List.length_drop, hls]; exact Nat.le_refl _)]
  have hNM := name_any (s.extract 1 s.size) (by rw [ByteArray.size_extract]; omega)
  rw [hex] at hNM
  have HNM := Lib.hid hNM
  have HG0 := Lib.hid (Good.refl (w.alloc (tokO 0 [] 0 0)))
  have HBOX := Lib.hid (box_here w 0 [] 0 0)
  have HFIN := Lib.hid (fun (wr : World) (h : Good (w.alloc (tokO 0 [] 0 0)) wr) => ((Below.refl w.heap.size w).alloc (Nat.le_refl _) (tokO 0 [] 0 0)).trans (h.mono (by simp)))
  have hsi : (1 : Int) ≤ (s.size : Int) := by omega
  have hll : (s.data.toList.drop 1).length ≤ s.size := by rw [List.length_drop, hls]; omega
  have hSY : symM (s.data.toList.drop 1) = match nameM (s.data.toList.drop 1) with
    | none => none
    | some x => some ⟨4, x.text, 0, x.len + 1⟩ := rfl
  have hcs := nameM_cases (s.data.toList.drop 1)
  generalize s.data.toList.drop 1 = l at *
  clear hls hex hNM
  rcases hcs with hn | ⟨n, hn, hn1, hn2⟩
  · rw [hn] at HNM hSY
    have HSY := Lib.hid hSY
    clear hSY hn
    go_enter Tryz.func20, Tryz.ntmps20
    go_wp2_with fail
    refine (HNM.out _).mono ?_
    rintro e w1 ⟨rfl, b1⟩
    have HG1 := Lib.hid (HG0.out.step b1)
    have hlt : w.heap.size < w1.heap.size := by have := b1.size; simp at this; omega
    obtain ⟨⟨c0, c1, c2, c3⟩, f0, f1, f2, f3⟩ := HBOX.out _ HG1.out
    clear b1
    unfold ansV tokC
    go_wp2_with fail
    rw [HSY.out]
    obtain ⟨d0, d1, d2, d3⟩ := put4 c0 c1 c2 c3 (.int .i64 0) (.string ⟨#[]⟩) (.int .i64 0) (.int .i64 0)
    have hX : ∀ (o : Obj) (j : Nat), (((((w1.setCell ⟨w.heap.size, 0, none⟩ (.int .i64 0)).setCell ⟨w.heap.size, 1, none⟩ (.string ⟨#[]⟩)).setCell ⟨w.heap.size, 2, none⟩ (.int .i64 0)).setCell ⟨w.heap.size, 3, none⟩ (.int .i64 0)).alloc o).cell? ⟨w.heap.size, j, none⟩ = ((((w1.setCell ⟨w.heap.size, 0, none⟩ (.int .i64 0)).setCell ⟨w.heap.size, 1, none⟩ (.string ⟨#[]⟩)).setCell ⟨w.heap.size, 2, none⟩ (.int .i64 0)).setCell ⟨w.heap.size, 3, none⟩ (.int .i64 0)).cell? ⟨w.heap.size, j, none⟩ := fun o j => alloc_cell _ o _ j (by simp [World.setCell]; exact hlt)
    exact bodyPost_ret (v := ansV none) (by simp [results, hX, d0, d1, d2, d3, S, Tryz.results20, go_sem, ansV, tokC]) rfl ⟨rfl, (((((HFIN.out _ HG1.out).setCell (p := ⟨w.heap.size, 0, none⟩) (Nat.le_refl _) _).setCell (p := ⟨w.heap.size, 1, none⟩) (Nat.le_refl _) _).setCell (p := ⟨w.heap.size, 2, none⟩) (Nat.le_refl _) _).setCell (p := ⟨w.heap.size, 3, none⟩) (Nat.le_refl _) _).alloc (by simp [World.setCell]; omega) _⟩
  · rw [hn] at HNM hSY
    have HSY := Lib.hid hSY
    have hni : ((n.length : Int) == 0) = false := by rw [beq_eq_false_iff_ne]; omega
    have hnn : (n.length == 0) = false := by rw [beq_eq_false_iff_ne]; omega
    have hnl : (n.length : Int) ≤ 100000 := by omega
    have hn1i : (1 : Int) ≤ (n.length : Int) := by omega
    clear hSY hn
    go_enter Tryz.func20, Tryz.ntmps20
    go_wp2_with fail
    refine (HNM.out _).mono ?_
    rintro e w1 ⟨rfl, b1⟩
    have HG1 := Lib.hid (HG0.out.step b1)
    have hlt : w.heap.size < w1.heap.size := by have := b1.size; simp at this; omega
    obtain ⟨⟨c0, c1, c2, c3⟩, f0, f1, f2, f3⟩ := HBOX.out _ HG1.out
    clear b1
    unfold ansV tokC
    go_wp2_with fail
    rw [HSY.out]
    obtain ⟨d0, d1, d2, d3⟩ := put4 c0 c1 c2 c3 (.int .i64 4) (.string (S n)) (.int .i64 0) (.int .i64 0)
    have hX : ∀ (o : Obj) (j : Nat), (((((w1.setCell ⟨w.heap.size, 0, none⟩ (.int .i64 4)).setCell ⟨w.heap.size, 1, none⟩ (.string (S n))).setCell ⟨w.heap.size, 2, none⟩ (.int .i64 0)).setCell ⟨w.heap.size, 3, none⟩ (.int .i64 0)).alloc o).cell? ⟨w.heap.size, j, none⟩ = ((((w1.setCell ⟨w.heap.size, 0, none⟩ (.int .i64 4)).setCell ⟨w.heap.size, 1, none⟩ (.string (S n))).setCell ⟨w.heap.size, 2, none⟩ (.int .i64 0)).setCell ⟨w.heap.size, 3, none⟩ (.int .i64 0)).cell? ⟨w.heap.size, j, none⟩ := fun o j => alloc_cell _ o _ j (by simp [World.setCell]; exact hlt)
    exact bodyPost_ret (v := ansV (some ⟨4, n, 0, n.length + 1⟩)) (by simp [results, hX, d0, d1, d2, d3, Tryz.results20, go_sem, ansV, tokC, Int.add_comm]) rfl ⟨rfl, (((((HFIN.out _ HG1.out).setCell (p := ⟨w.heap.size, 0, none⟩) (Nat.le_refl _) _).setCell (p := ⟨w.heap.size, 1, none⟩) (Nat.le_refl _) _).setCell (p := ⟨w.heap.size, 2, none⟩) (Nat.le_refl _) _).setCell (p := ⟨w.heap.size, 3, none⟩) (Nat.le_refl _) _).alloc (by simp [World.setCell]; omega) _⟩

end Go.Proofs.YtjndgfppjdobiaaGreatDoor.Lx
