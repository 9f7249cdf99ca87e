/-
  The chapter's examples.
-/
import Derived.Test.YtkdhchdhgmaolaaZCdPut
import Derived.Test.YtkdhchdhgmaolaaZCdGetV
namespace Go.Proofs.Ytkdhchdhgmaolaa.Cd
open Go.RowKit
open Pk Va
set_option linter.unusedVariables false
set_option linter.unusedSimpArgs false

theorem aw_1 : putR (valB ⟨1, -1, [], []⟩) (rightB ⟨1, -1, [], []⟩) = .tuple #[.string ⟨#[1, 1]⟩, .int .i64 0] := by kernel_rfl
theorem aw_2 : putR (valB ⟨5, 0, [], [1, 2]⟩) (rightB ⟨5, 0, [], [1, 2]⟩) = .tuple #[.string ⟨#[5, 2, 2, 4]⟩, .int .i64 0] := by kernel_rfl
theorem aw_3 : getV [5, 2, 2, 4] = (⟨5, 0, [], [1, 2]⟩, 0) := by kernel_rfl
theorem two_nums (w : World) : NumsAt (w.alloc (.cells #[.int .i64 1, .int .i64 2] 2)) (some ⟨w.heap.size, 0, none⟩) [1, 2] := fun i hi => by
  have hb := heap_alloc_new w (.cells #[.int .i64 1, .int .i64 2] 2)
  have h2 : i = 0 ∨ i = 1 := by simp at hi; omega
  rcases h2 with rfl | rfl
  · exact ⟨w.heap.size, 0, rfl, cell_of_row _ _ 0 _ _ (0, 0) hb, by simp⟩
  · exact ⟨w.heap.size, 0, rfl, cell_of_row _ _ 1 _ _ (0, 0) hb, by simp⟩
theorem vin_lit (k n : Int) (l : List Int) (h0 : Num64 n) (h1 : ∀ x ∈ l, Num64 x) (h2 : l.length ≤ 9223372036854775807) : VIn64 ⟨k, n, [], l⟩ := ⟨⟨by simp, h2⟩, h0, h1⟩

set_option maxRecDepth 100000 in
set_option maxHeartbeats 4000000 in
theorem awake_any (w : World) : Calls Try.prog 7 #[] w fun e w' => e = .returned (.bool true) ∧ Below w.heap.size w w' := by
  have H1 := Lib.hid (PutValue_any ⟨1, -1, [], []⟩ (vin_lit 1 (-1) [] ⟨by omega, by omega⟩ (fun x hx => by cases hx) (by simp)) none 0 w (fun i hi => absurd hi (by simp)))
  rw [aw_1] at H1
  have H2 := Lib.hid (fun W => PutValue_any ⟨5, 0, [], [1, 2]⟩ (vin_lit 5 0 [1, 2] ⟨by omega, by omega⟩ (fun x hx => by
    simp at hx
    rcases hx with rfl | rfl <;> exact ⟨by omega, by omega⟩) (by simp)) (some ⟨W.heap.size, 0, none⟩) 2 _ (two_nums W))
  rw [aw_2] at H2
  have H3 := Lib.hid (fun W => GetValue_any [5, 2, 2, 4] (by simp) W)
  rw [aw_3] at H3
  unfold valC at H3
  simp only at H1 H2 H3
  have s0 : (⟨#[]⟩ : ByteArray) = S [] := rfl
  have s1 : S [5, 2, 2, 4] = ⟨#[5, 2, 2, 4]⟩ := rfl
  rw [s1] at H3
  rw [← s0] at H1 H2 H3
  clear s0 s1
  go_enter Try.func7, Try.ntmps7
  go_wp2_with fail
  refine H1.out.mono ?_
  rintro e w1 ⟨rfl, b1⟩
  have B1 := Lib.hid b1
  clear b1
  go_wp2_with fail
  refine (H2.out w1).mono ?_
  rintro e w2 ⟨rfl, b2⟩
  have B2 := Lib.hid (B1.out.trans ((((Below.refl w1.heap.size w1).alloc (Nat.le_refl _) _).trans (b2.mono (by simp))).mono B1.out.size))
  clear b2
  go_wp2_with fail
  refine (H3.out w2).mono ?_
  rintro e w3 ⟨q, cap, rfl, b3, hn3, hf3⟩
  have B3 := Lib.hid (B2.out.trans (b3.mono B2.out.size))
  clear b3 hn3 hf3
  go_wp2_with fail
  go_ret
  exact ⟨rfl, B3.out.alloc B3.out.size _⟩

end Go.Proofs.Ytkdhchdhgmaolaa.Cd
