import Derived.Test.YtfmcbccmijcdgaaBkRead
namespace Go.Proofs.Ytfmcbccmijcdgaa.Bk
open Go.RowKit
set_option maxRecDepth 100000 in
set_option maxHeartbeats 1600000 in
/-- Read where the device refuses it. -/
theorem read_by (p : Value) (i : Int) (r : Nat) (w : World)
    (href : ∀ W, Below w.heap.size w W → Calls Try.prog 28 #[p, .int .i64 i] W fun e w' => e = .returned (.int .i64 (r : Nat)) ∧ W = w')
    (hp : ∃ a, p = .pointer a) (hr : r ≠ 0) :
    Calls Try.prog 7 #[p, .int .i64 i] w fun e w' => e = .returned (.tuple #[.string ⟨#[]⟩, .int .i64 (r : Nat)]) ∧ Below w.heap.size w w' := by
  obtain ⟨a, rfl⟩ := hp
  have hne1 : ((r : Int) == 0) = false := by simpa using hr
  have HREF := Lib.hid href
  clear href
  go_enter Try.func7, Try.ntmps7
  go_wp2_with fail
  have hb3 : Below w.heap.size w (((w.alloc (.cells #[.int .i64 i] 3)).alloc (.cells #[.string ⟨#[]⟩] 9)).alloc (.cells #[.int .i64 0] 33)) :=
    ((((Below.refl _ w).alloc (Nat.le_refl _) _).alloc (by simp) _).alloc (by simp <;> omega) _)
  refine (HREF.out _ hb3).mono ?_
  rintro e w1 ⟨rfl, rfl⟩
  go_wp2_with fail
  refine bodyPost_ret (v := .tuple #[.string ⟨#[]⟩, .int .i64 (r : Int)]) ?_ rfl ⟨rfl, ((((Below.refl _ w).alloc (Nat.le_refl _) _).alloc (by simp) _).alloc (by simp <;> omega) _)⟩
  simp [results, Try.f7, go_sem]
theorem read_no {w : World} {D R : Nat} {pv : Value} {d : Dev} (h : DevAt w D R pv d) (i : Int) (hr : refE d i ≠ 0) :
    Calls Try.prog 7 #[.pointer (some ⟨D, 0, none⟩), .int .i64 i] w fun e w' => e = .returned (.tuple #[.string ⟨#[]⟩, .int .i64 (refE d i : Nat)]) ∧ Below w.heap.size w w' :=
  read_by _ i (refE d i) w (fun W hW => refuses_any (h.later (Onl.of_below hW []) (by simp)) i) ⟨_, rfl⟩ hr
theorem read_nil (i : Int) (w : World) :
    Calls Try.prog 7 #[.pointer none, .int .i64 i] w fun e w' => e = .returned (.tuple #[.string ⟨#[]⟩, .int .i64 1]) ∧ Below w.heap.size w w' :=
  read_by _ i 1 w (fun W hW => refuses_nil i W) ⟨_, rfl⟩ (by decide)
theorem flush_nil (w : World) :
    Calls Try.prog 9 #[.pointer none] w fun e w' => e = .returned (.int .i64 1) ∧ w = w' := by
  go_enter Try.func9, Try.ntmps9
  go_wp2_with fail
  refine (dead_nil _).mono ?_
  rintro e w1 ⟨rfl, rfl⟩
  go_wp2_with fail
  go_ret
  exact ⟨rfl, rfl⟩
theorem lasting_nil (w : World) :
    Calls Try.prog 24 #[.pointer none] w fun e w' => e = .returned (.string ⟨#[]⟩) ∧ w = w' := by
  go_enter Try.func24, Try.ntmps24
  go_wp2_with fail
  go_ret
  exact ⟨rfl, rfl⟩
theorem fill_nil (s : ByteArray) (w : World) :
    Calls Try.prog 17 #[.pointer none, .string s] w fun e w' => e = .returned (.tuple #[]) ∧ Below w.heap.size w w' := by
  go_enter Try.func17, Try.ntmps17
  go_wp2_with fail
  (try simp only [Exit.inBlock, Exit.then])
  refine bodyPost_ret (results_none rfl _ _ _) rfl ?_
  exact ⟨rfl, Below.refl _ _⟩
end Go.Proofs.Ytfmcbccmijcdgaa.Bk
