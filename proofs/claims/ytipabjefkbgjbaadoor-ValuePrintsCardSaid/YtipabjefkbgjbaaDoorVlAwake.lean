/-
  The laws of values: the chapter's examples; what a law keeps while it calls.
-/
import Derived.Test.YtipabjefkbgjbaaDoorVlKey
import Derived.Test.YtipabjefkbgjbaaDoorVlRight
namespace Go.Proofs.YtipabjefkbgjbaaDoor.Va
open Go.RowKit

/-- What was there at first is still there. -/
def Good (W0 w : World) : Prop := Below W0.heap.size W0 w
theorem Good.refl (w : World) : Good w w := Below.refl _ _
theorem Good.step {W0 w w' : World} (h : Good W0 w) (b : Below w.heap.size w w') : Good W0 w' := Below.trans h (b.mono h.size)
theorem Good.drew {W0 w : World} (h : Good W0 w) : Good W0 w.drew := ⟨h.os, h.tape, h.output, h.size, h.block⟩
theorem Good.alloc {W0 w : World} (h : Good W0 w) (o : Obj) : Good W0 (w.alloc o) := Below.alloc h h.size o
theorem good_id {W0 w : World} (h : Hid (Good W0 w)) : Good W0 w := h.out
theorem good_drew {W0 w : World} (h : Hid (Good W0 w)) : Good W0 w.drew := h.out.drew
theorem good_drew2 {W0 w : World} (h : Hid (Good W0 w)) : Good W0 w.drew.drew := h.out.drew.drew

theorem vals_two (w : World) (A B : Nat) (hA : w.heap.size = A) (hB : A + 1 = B) : ValsAt ((w.alloc (.cells #[.int .i64 2, .int .i64 3] 2)).alloc (.cells #[.int .i64 1, .int .i64 1, .string ⟨#[]⟩, .slice none 0 0, .int .i64 5, .int .i64 0, .string ⟨#[]⟩, .slice (some ⟨A, 0, none⟩) 2 2] 26)) (some ⟨B, 0, none⟩) [⟨1, 1, [], []⟩, ⟨5, 0, [], [2, 3]⟩] := by
  subst hA
  subst hB
  have h1 := heap_alloc_new (w.alloc (.cells #[.int .i64 2, .int .i64 3] 2)) (.cells #[.int .i64 1, .int .i64 1, .string ⟨#[]⟩, .slice none 0 0, .int .i64 5, .int .i64 0, .string ⟨#[]⟩, .slice (some ⟨w.heap.size, 0, none⟩) 2 2] 26)
  rw [show (w.alloc (.cells #[.int .i64 2, .int .i64 3] 2)).heap.size = w.heap.size + 1 by simp] at h1
  have h0 : ((w.alloc (.cells #[.int .i64 2, .int .i64 3] 2)).alloc (.cells #[.int .i64 1, .int .i64 1, .string ⟨#[]⟩, .slice none 0 0, .int .i64 5, .int .i64 0, .string ⟨#[]⟩, .slice (some ⟨w.heap.size, 0, none⟩) 2 2] 26)).heap[w.heap.size]? = some (.cells #[.int .i64 2, .int .i64 3] 2 (0, 0)) := by
    rw [Below.heap_alloc _ _ _ (by simp)]; exact heap_alloc_new w _
  have c1 : ∀ j, ((w.alloc (.cells #[.int .i64 2, .int .i64 3] 2)).alloc (.cells #[.int .i64 1, .int .i64 1, .string ⟨#[]⟩, .slice none 0 0, .int .i64 5, .int .i64 0, .string ⟨#[]⟩, .slice (some ⟨w.heap.size, 0, none⟩) 2 2] 26)).cell? ⟨w.heap.size + 1, j, none⟩ = #[.int .i64 1, .int .i64 1, .string ⟨#[]⟩, .slice none 0 0, .int .i64 5, .int .i64 0, .string ⟨#[]⟩, .slice (some ⟨w.heap.size, 0, none⟩) 2 2][j]? := fun j => cell_of_row _ _ j _ _ (0, 0) h1
  have c0 : ∀ j, ((w.alloc (.cells #[.int .i64 2, .int .i64 3] 2)).alloc (.cells #[.int .i64 1, .int .i64 1, .string ⟨#[]⟩, .slice none 0 0, .int .i64 5, .int .i64 0, .string ⟨#[]⟩, .slice (some ⟨w.heap.size, 0, none⟩) 2 2] 26)).cell? ⟨w.heap.size, j, none⟩ = #[.int .i64 2, .int .i64 3][j]? := fun j => cell_of_row _ _ j _ _ (0, 0) h0
  intro i hi
  refine ⟨w.heap.size + 1, 0, rfl, ?_, by simp⟩
  match i, hi with
  | 0, _ => exact ⟨none, 0, c1 0, c1 1, c1 2, c1 3, fun j hj => absurd hj (by simp)⟩
  | 1, _ =>
    refine ⟨some ⟨w.heap.size, 0, none⟩, 2, c1 4, c1 5, c1 6, c1 7, fun j hj => ⟨w.heap.size, 0, rfl, ?_, by simp; omega⟩⟩
    have hj2 : j < 2 := hj
    match j, hj2 with
    | 0, _ => exact c0 0
    | 1, _ => exact c0 1

theorem key_two : S (keyT [⟨1, 1, [], []⟩, ⟨5, 0, [], [2, 3]⟩]) = ⟨#[49, 44, 91, 50, 44, 32, 51, 93]⟩ := by
  have d1 : digs 1 = [49] := by rw [digs]; rfl
  have d2 : digs 2 = [50] := by rw [digs]; rfl
  have d3 : digs 3 = [51] := by rw [digs]; rfl
  simp [keyT, printV, decZ, numsT, d1, d2, d3, S]

set_option maxRecDepth 100000 in
set_option maxHeartbeats 1600000 in
theorem awake_any (w : World) (htab : Tab w) :
    Calls Tryd.prog 7 #[] w fun e w' => e = .returned (.bool true) ∧ Below w.heap.size w w' := by
  have hp : Calls Tryd.prog 9 #[.agg #[.int .i64 3, .int .i64 0, .string ⟨#[97, 34, 98, 10]⟩, .slice none 0 0]] w fun e w' => e = .returned (.string ⟨#[34, 97, 92, 34, 98, 92, 120, 48, 97, 34]⟩) ∧ Below w.heap.size w w' :=
    Print_any ⟨3, 0, [97, 34, 98, 10], []⟩ ⟨by decide, by decide, by decide, by simp⟩ rfl none 0 w (NumsAt_nil _ _) htab
  have hk : ∀ (wr : World) (A B : Nat), Tab wr → wr.heap.size = A → A + 1 = B → Calls Tryd.prog 13 #[.slice (some ⟨B, 0, none⟩) 2 2] ((wr.alloc (.cells #[.int .i64 2, .int .i64 3] 2)).alloc (.cells #[.int .i64 1, .int .i64 1, .string ⟨#[]⟩, .slice none 0 0, .int .i64 5, .int .i64 0, .string ⟨#[]⟩, .slice (some ⟨A, 0, none⟩) 2 2] 26)) fun e w' => e = .returned (.string ⟨#[49, 44, 91, 50, 44, 32, 51, 93]⟩) ∧ Below wr.heap.size wr w' := fun wr A B ht hA hB => by
    have hb := ((Below.refl wr.heap.size wr).alloc (Nat.le_refl _) (.cells #[.int .i64 2, .int .i64 3] 2)).alloc (by simp) (.cells #[.int .i64 1, .int .i64 1, .string ⟨#[]⟩, .slice none 0 0, .int .i64 5, .int .i64 0, .string ⟨#[]⟩, .slice (some ⟨A, 0, none⟩) 2 2] 26)
    refine (Key_any [⟨1, 1, [], []⟩, ⟨5, 0, [], [2, 3]⟩] (by simp) (fun v hv => ?_) (some ⟨B, 0, none⟩) 2 _ (vals_two wr A B hA hB) (ht.below hb)).mono ?_
    · simp only [List.mem_cons, List.not_mem_nil, or_false] at hv
      rcases hv with rfl | rfl
      · exact ⟨⟨by decide, by decide, by decide, by simp⟩, rfl⟩
      · exact ⟨⟨by decide, by decide, by decide, by simp⟩, rfl⟩
    · rintro e w' ⟨rfl, b⟩
      exact ⟨by rw [key_two], hb.trans (b.mono (by simp; omega))⟩
  have h1 : ∀ wr : World, Calls Tryd.prog 19 #[.agg #[.int .i64 2, .int .i64 1, .string ⟨#[]⟩, .slice none 0 0]] wr fun e w' => e = .returned (.bool true) ∧ Below wr.heap.size wr w' := fun wr => Right_any ⟨2, 1, [], []⟩ ⟨by simp, by simp⟩ none 0 wr (NumsAt_nil _ _)
  have h2 : ∀ wr : World, Calls Tryd.prog 19 #[.agg #[.int .i64 2, .int .i64 2, .string ⟨#[]⟩, .slice none 0 0]] wr fun e w' => e = .returned (.bool false) ∧ Below wr.heap.size wr w' := fun wr => Right_any ⟨2, 2, [], []⟩ ⟨by simp, by simp⟩ none 0 wr (NumsAt_nil _ _)
  have HP := Lib.hid hp
  have HK := Lib.hid hk
  have HH1 := Lib.hid h1
  have HH2 := Lib.hid h2
  have HT := Lib.hid htab
  have e1 : ((⟨#[34, 97, 92, 34, 98, 92, 120, 48, 97, 34]⟩ : ByteArray).toList == (⟨#[34, 97, 92, 34, 98, 92, 120, 48, 97, 34]⟩ : ByteArray).toList) = true := by simp
  have e2 : ((⟨#[49, 44, 91, 50, 44, 32, 51, 93]⟩ : ByteArray).toList == (⟨#[49, 44, 91, 50, 44, 32, 51, 93]⟩ : ByteArray).toList) = true := by simp
  clear hp hk h1 h2 htab
  go_enter Tryd.func7, Tryd.ntmps7
  go_wp2_with fail
  refine HP.out.mono ?_
  rintro e w1 ⟨rfl, b1⟩
  have HB1 := Lib.hid b1
  clear b1
  go_wp2_with fail
  refine (HK.out w1 _ _ (HT.out.below HB1.out) rfl rfl).mono ?_
  rintro e w2 ⟨rfl, b2⟩
  have HB2 := Lib.hid (HB1.out.trans (b2.mono HB1.out.size))
  clear b2
  go_wp2_with fail
  refine (HH1.out _).mono ?_
  rintro e w3 ⟨rfl, b3⟩
  have HB3 := Lib.hid (HB2.out.trans (b3.mono HB2.out.size))
  clear b3
  go_wp2_with fail
  refine (HH2.out _).mono ?_
  rintro e w4 ⟨rfl, b4⟩
  have HB4 := Lib.hid (HB3.out.trans (b4.mono HB3.out.size))
  clear b4
  go_wp2_with fail
  go_ret
  exact ⟨rfl, HB4.out⟩

end Go.Proofs.YtipabjefkbgjbaaDoor.Va
