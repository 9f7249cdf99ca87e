/-
  Len and Room of a box.
-/
import Derived.Test.YtfkmpegbidojoaaMdChan
import Derived.Test.YtfkmpegbidojoaaMdTake
namespace Go.Proofs.Ytfkmpegbidojoaa.Md
open Go.RowKit
open Va
set_option linter.unusedVariables false
set_option linter.unusedSimpArgs false

set_option maxRecDepth 100000 in
theorem len_any {lo b c cap : Nat} {w : World} {l : List MailP} (h : BoxAt lo w b c cap l) :
    Calls Try.prog 17 #[.pointer (some ⟨b, 0, none⟩)] w fun e w' => e = .returned (.int .i64 l.length) ∧ w = w' := by
  have c0 := h.c0
  obtain ⟨buf, s, r, hc, hs, _⟩ := h.chan
  have hl := fun ty => Conc.run_len_chan (P := Try.prog) 66 ty Try.underlying66 hc
  rw [hs] at hl
  clear hs hc h
  go_enter Try.func17, Try.ntmps17
  go_wp2_with fail
  go_ret
  simp
theorem len_nil (w : World) : Calls Try.prog 17 #[.pointer none] w fun e w' => e = .returned (.int .i64 0) ∧ w = w' := by
  go_enter Try.func17, Try.ntmps17
  go_wp2_with fail
  go_ret
  simp
theorem room_nil (w : World) : Calls Try.prog 18 #[.pointer none] w fun e w' => e = .returned (.int .i64 0) ∧ w = w' := by
  go_enter Try.func18, Try.ntmps18
  go_wp2_with fail
  go_ret
  simp
set_option maxRecDepth 100000 in
theorem room_any {lo b c cap : Nat} {w : World} {l : List MailP} (h : BoxAt lo w b c cap l) :
    Calls Try.prog 18 #[.pointer (some ⟨b, 0, none⟩)] w fun e w' => e = .returned (.int .i64 ((cap - l.length : Nat) : Int)) ∧ Below w.heap.size w w' := by
  have c0 : w.drew.cell? ⟨b, 0, none⟩ = some (.chan (some c)) := h.c0
  obtain ⟨buf, s, r, hc, hs, _⟩ := h.chan
  have hc' : w.drew.heap[c]? = some (.chan cap buf false s r false) := hc
  have HL := Lib.hid (fun w7 (h7 : w7.heap[c]? = some (.chan cap buf false s r false)) ty => show (Builtin.len_ #[66] ty #[.chan (some c)]).run Try.prog w7 = .ok (.int .i64 l.length) w7 by rw [← hs]; exact Conc.run_len_chan (P := Try.prog) 66 ty Try.underlying66 h7)
  have HP := Lib.hid (fun w7 (h7 : w7.heap[c]? = some (.chan cap buf false s r false)) ty => show (Builtin.cap_ #[66] ty #[.chan (some c)]).run Try.prog w7 = .ok (.int .i64 cap) w7 from Conc.run_cap_chan (P := Try.prog) 66 ty Try.underlying66 h7)
  have HST := Lib.hid (And.intro c0 hc')
  have hr := h.room
  have hm := h.cap_le
  have HB : Hid (Below w.heap.size w w.drew) := Lib.hid ⟨rfl, rfl, rfl, Nat.le_refl _, fun _ _ => rfl⟩
  clear hs hc h hc' c0
  go_enter Try.func18, Try.ntmps18
  go_wp2_with fail
  refine wp_region_held_drew (S := fun w7 => w7.cell? ⟨b, 0, none⟩ = some (.chan (some c)) ∧ w7.heap[c]? = some (.chan cap buf false s r false)) (by kernel_rfl) (by exact HST.out) (fun hHeld => ?_)
  refine takeW (v := ?_) 0 (by decide +kernel) (by decide +kernel) (by kernel_rfl) (by simp only [List.getElem?_toArray, List.getElem?_cons_succ, List.getElem?_cons_zero]; rfl) (by rfl) (by exact fun _ _ _ h => h) (by exact hHeld) ?_ ?_
  rotate_left 1
  focus (intro w8 hSw; (try dsimp only at hSw); obtain ⟨s80, s81⟩ := hSw; have hl := HL.out w8 s81; have hp := HP.out w8 s81; go_simp; (try with_reducible rfl); done)
  try simp only [Act.put, List.setIfInBounds_toArray, List.set_cons_zero, List.set_cons_succ]
  refine takeW (v := ?_) 1 (by decide +kernel) (by decide +kernel) (by kernel_rfl) (by simp only [List.getElem?_toArray, List.getElem?_cons_succ, List.getElem?_cons_zero]; rfl) (by rfl) (by exact fun _ _ _ h => h) (by exact hHeld) ?_ ?_
  rotate_left 1
  focus (intro w8 hSw; (try dsimp only at hSw); obtain ⟨s80, s81⟩ := hSw; have hl := HL.out w8 s81; have hp := HP.out w8 s81; go_simp; (try with_reducible rfl); done)
  try simp only [Act.put, List.setIfInBounds_toArray, List.set_cons_zero, List.set_cons_succ]
  refine takeW (v := ?_) 2 (by decide +kernel) (by decide +kernel) (by kernel_rfl) (by simp only [List.getElem?_toArray, List.getElem?_cons_succ, List.getElem?_cons_zero]; rfl) (by rfl) (by exact fun _ _ _ h => h) (by exact hHeld) ?_ ?_
  rotate_left 1
  focus (intro w8 hSw; (try dsimp only at hSw); obtain ⟨s80, s81⟩ := hSw; have hl := HL.out w8 s81; have hp := HP.out w8 s81; go_simp; (try with_reducible rfl); done)
  try simp only [Act.put, List.setIfInBounds_toArray, List.set_cons_zero, List.set_cons_succ]
  refine takeW (v := ?_) 3 (by decide +kernel) (by decide +kernel) (by kernel_rfl) (by simp only [List.getElem?_toArray, List.getElem?_cons_succ, List.getElem?_cons_zero]; rfl) (by rfl) (by exact fun _ _ _ h => h) (by exact hHeld) ?_ ?_
  rotate_left 1
  focus (intro w8 hSw; (try dsimp only at hSw); obtain ⟨s80, s81⟩ := hSw; have hl := HL.out w8 s81; have hp := HP.out w8 s81; go_simp; (try with_reducible rfl); done)
  try simp only [Act.put, List.setIfInBounds_toArray, List.set_cons_zero, List.set_cons_succ]
  refine takeW (v := ?_) 4 (by decide +kernel) (by decide +kernel) (by kernel_rfl) (by simp only [List.getElem?_toArray, List.getElem?_cons_succ, List.getElem?_cons_zero]; rfl) (by rfl) (by exact fun _ _ _ h => h) (by exact hHeld) ?_ ?_
  rotate_left 1
  focus (intro w8 hSw; (try dsimp only at hSw); obtain ⟨s80, s81⟩ := hSw; have hl := HL.out w8 s81; have hp := HP.out w8 s81; go_simp; (try with_reducible rfl); done)
  try simp only [Act.put, List.setIfInBounds_toArray, List.set_cons_zero, List.set_cons_succ]
  refine takeW (v := ?_) 5 (by decide +kernel) (by decide +kernel) (by kernel_rfl) (by simp only [List.getElem?_toArray, List.getElem?_cons_succ, List.getElem?_cons_zero]; rfl) (by rfl) (by exact fun _ _ _ h => h) (by exact hHeld) ?_ ?_
  rotate_left 1
  focus (intro w8 hSw; (try dsimp only at hSw); obtain ⟨s80, s81⟩ := hSw; have hl := HL.out w8 s81; have hp := HP.out w8 s81; go_simp; (try with_reducible rfl); done)
  try simp only [Act.put, List.setIfInBounds_toArray, List.set_cons_zero, List.set_cons_succ]
  refine takeW (v := ?_) 6 (by decide +kernel) (by decide +kernel) (by kernel_rfl) (by simp only [List.getElem?_toArray, List.getElem?_cons_succ, List.getElem?_cons_zero]; rfl) (by rfl) (by exact fun _ _ _ h => h) (by exact hHeld) ?_ ?_
  rotate_left 1
  focus (intro w8 hSw; (try dsimp only at hSw); obtain ⟨s80, s81⟩ := hSw; have hl := HL.out w8 s81; have hp := HP.out w8 s81; go_simp; (try with_reducible rfl); done)
  try simp only [Act.put, List.setIfInBounds_toArray, List.set_cons_zero, List.set_cons_succ]
  refine takeW (v := ?_) 7 (by decide +kernel) (by decide +kernel) (by kernel_rfl) (by simp only [List.getElem?_toArray, List.getElem?_cons_succ, List.getElem?_cons_zero]; rfl) (by rfl) (by exact fun _ _ _ h => h) (by exact hHeld) ?_ ?_
  rotate_left 1
  focus (intro w8 hSw; (try dsimp only at hSw); obtain ⟨s80, s81⟩ := hSw; have hl := HL.out w8 s81; have hp := HP.out w8 s81; go_simp; (try with_reducible rfl); done)
  try simp only [Act.put, List.setIfInBounds_toArray, List.set_cons_zero, List.set_cons_succ]
  refine takeW (v := ?_) 8 (by decide +kernel) (by decide +kernel) (by kernel_rfl) (by simp only [List.getElem?_toArray, List.getElem?_cons_succ, List.getElem?_cons_zero]; rfl) (by rfl) (by exact fun _ _ _ h => h) (by exact hHeld) ?_ ?_
  rotate_left 1
  focus (intro w8 hSw; (try dsimp only at hSw); obtain ⟨s80, s81⟩ := hSw; have hl := HL.out w8 s81; have hp := HP.out w8 s81; go_simp; (try with_reducible rfl); done)
  try simp only [Act.put, List.setIfInBounds_toArray, List.set_cons_zero, List.set_cons_succ]
  refine takeW (v := ?_) 9 (by decide +kernel) (by decide +kernel) (by kernel_rfl) (by simp only [List.getElem?_toArray, List.getElem?_cons_succ, List.getElem?_cons_zero]; rfl) (by rfl) (by exact fun _ _ _ h => h) (by exact hHeld) ?_ ?_
  rotate_left 1
  focus (intro w8 hSw; (try dsimp only at hSw); obtain ⟨s80, s81⟩ := hSw; have hl := HL.out w8 s81; have hp := HP.out w8 s81; go_simp; (try with_reducible rfl); done)
  try simp only [Act.put, List.setIfInBounds_toArray, List.set_cons_zero, List.set_cons_succ]
  refine takeW (v := ?_) 10 (by decide +kernel) (by decide +kernel) (by kernel_rfl) (by simp only [List.getElem?_toArray, List.getElem?_cons_succ, List.getElem?_cons_zero]; rfl) (by rfl) (by exact fun _ _ _ h => h) (by exact hHeld) ?_ ?_
  rotate_left 1
  focus (intro w8 hSw; (try dsimp only at hSw); obtain ⟨s80, s81⟩ := hSw; have hl := HL.out w8 s81; have hp := HP.out w8 s81; go_simp; (try with_reducible rfl); done)
  try simp only [Act.put, List.setIfInBounds_toArray, List.set_cons_zero, List.set_cons_succ]
  refine takeW (v := ?_) 11 (by decide +kernel) (by decide +kernel) (by kernel_rfl) (by simp only [List.getElem?_toArray, List.getElem?_cons_succ, List.getElem?_cons_zero]; rfl) (by rfl) (by exact fun _ _ _ h => h) (by exact hHeld) ?_ ?_
  rotate_left 1
  focus (intro w8 hSw; (try dsimp only at hSw); obtain ⟨s80, s81⟩ := hSw; have hl := HL.out w8 s81; have hp := HP.out w8 s81; go_simp; (try with_reducible rfl); done)
  try simp only [Act.put, List.setIfInBounds_toArray, List.set_cons_zero, List.set_cons_succ]
  refine wpAnyH_done (by decide +kernel) ?_ _
  go_wp2_with fail
  go_ret
  have hwr : IntKind.i64.wrap ((cap : Int) - (l.length : Int)) = ((cap - l.length : Nat) : Int) := by rw [IntKind.wrap_i64]; omega
  exact ⟨by rw [hwr]; rfl, HB.out⟩

end Go.Proofs.Ytfkmpegbidojoaa.Md
