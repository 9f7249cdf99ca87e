/-
  The walk over package block's New.
-/
import Derived.Test.YtfmcbccmijcdgaaBkSmall
namespace Go.Proofs.Ytfmcbccmijcdgaa.Bk
open Go.RowKit

theorem make_durs (w : World) (n : Nat) (hn : n ≤ 4096) : ∃ w2 : World,
    (Instr.makeSlice 54 (.int .i64 (n : Int)) (.int .i64 (n : Int))).run Try.prog w = .ok (.slice (some ⟨w.heap.size, 0, none⟩) n n) w2 ∧
    w2.heap[w.heap.size]? = some (.cells (durC (List.replicate n Z64)).toArray 66 (0, 0)) ∧ Below w.heap.size w w2 ∧ w2.heap.size = w.heap.size + 1 := by
  obtain ⟨i0, hi, hz0, hz1, hz2⟩ := info_parts info_sec
  have hr := run_make (P := Try.prog) w 54 66 i0 (.agg (secC Z64).toArray) Try.underlying54 hi hz0 .i64 .i64 n n (by omega) (Int.le_refl _) (by rw [hz2]; omega) (by omega)
  simp only [Int.toNat_natCast] at hr
  refine ⟨_, hr, ?_, (Below.refl _ _).alloc (Nat.le_refl _) _, by simp⟩
  rw [heap_alloc_new, durC_rep, hz1]
  rfl

/-- How many sectors New makes. -/
def newN (n : Int) : Nat := if n < 0 then 0 else if 4096 < n then 4096 else n.toNat
def newD (n : Nat) : Dev := ⟨List.replicate n Z64, [], 0, 0, 0, 0, false⟩
theorem newN_le (n : Int) : newN n ≤ 4096 := by unfold newN; split <;> (try split) <;> omega
theorem newD_ok (n : Nat) (h : n ≤ 4096) : DevOk (newD n) :=
  ⟨(fun x hx => by rw [List.eq_of_mem_replicate hx]; exact Z64_length), (fun x hx => by simp [newD] at hx), (by simpa [newD] using h), (by simp [newD]), (by simp [newD])⟩

set_option maxRecDepth 100000 in
theorem new_any (n : Int) (w : World) :
    Calls Try.prog 5 #[.int .i64 n] w fun e w' =>
      e = .returned (.pointer (some ⟨w.heap.size + 1, 0, none⟩)) ∧ DevAt w' (w.heap.size + 1) w.heap.size (.slice none 0 0) (newD (newN n)) ∧ Below w.heap.size w w' := by
  have hle := newN_le n
  have hmm : min (max n 0) 4096 = (newN n : Int) := by unfold newN; split <;> (try split) <;> omega
  obtain ⟨w2, hmk, hrow, hbel, hsz⟩ := make_durs w (newN n) hle
  have hok := newD_ok (newN n) hle
  generalize newN n = N at *
  have hdev : DevAt (w2.alloc (.cells #[.slice (some ⟨w.heap.size, 0, none⟩) N N, .slice none 0 0, .int .i64 0, .int .u64 0, .int .i64 0, .int .i64 0, .bool false] 59)) (w.heap.size + 1) w.heap.size (.slice none 0 0) (newD N) := by
    refine ⟨?_, ?_, ?_, by omega, by simp [Value.ownBlock], by simp [Value.ownBlock], hok⟩
    · have := heap_alloc_new w2 (.cells #[.slice (some ⟨w.heap.size, 0, none⟩) N N, .slice none 0 0, .int .i64 0, .int .u64 0, .int .i64 0, .int .i64 0, .bool false] 59)
      rw [hsz] at this
      rw [this]
      simp [devC, newD]
    · rw [Below.heap_alloc _ _ _ (by omega)]
      exact hrow
    · exact World.ownsRow_nil _ _ _ _
  have HD := Lib.hid hdev
  have HB := Lib.hid (hbel.alloc hbel.size (.cells #[.slice (some ⟨w.heap.size, 0, none⟩) N N, .slice none 0 0, .int .i64 0, .int .u64 0, .int .i64 0, .int .i64 0, .bool false] 59))
  have HSZ := Lib.hid hsz
  clear hdev hbel hrow hok
  go_enter Try.func5, Try.ntmps5
  go_wp2_with fail
  go_ret
  exact ⟨by rw [← HSZ.out]; rfl, HD.out, HB.out⟩

end Go.Proofs.Ytfmcbccmijcdgaa.Bk
