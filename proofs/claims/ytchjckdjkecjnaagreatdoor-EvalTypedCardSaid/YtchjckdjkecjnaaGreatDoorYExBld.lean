/- ZExBld -/
import Derived.Test.YtchjckdjkecjnaaGreatDoorYTzC
import Derived.Lib.Builder
import Derived.Lib.FrozenHead
import Derived.Lib.AppendStr
import Derived.OwnWalk
namespace Go.Proofs.YtchjckdjkecjnaaGreatDoor.Ex
open Go.RowKit
open Lx
def WrB (w : World) (b : Nat) (p v : Value) (o d : Int) : Prop := w.heap[b]? = some (.cells #[p, v, .int .i64 o, .int .i64 d] 101 (0, 0))
section
variable {w w' : World} {b : Nat} {p v : Value} {o d : Int}
theorem WrB.c0 (h : WrB w b p v o d) : w.cell? ⟨b, 0, none⟩ = some p := cell_of_row w b 0 _ _ (0, 0) h
theorem WrB.c1 (h : WrB w b p v o d) : w.cell? ⟨b, 1, none⟩ = some v := cell_of_row w b 1 _ _ (0, 0) h
theorem WrB.c2 (h : WrB w b p v o d) : w.cell? ⟨b, 2, none⟩ = some (.int .i64 o) := cell_of_row w b 2 _ _ (0, 0) h
theorem WrB.c3 (h : WrB w b p v o d) : w.cell? ⟨b, 3, none⟩ = some (.int .i64 d) := cell_of_row w b 3 _ _ (0, 0) h
theorem WrB.fz (h : WrB w b p v o d) (j : Nat) : w.frozen? ⟨b, j, none⟩ = false := frozen_of_row w b j _ _ h
theorem WrB.lt (h : WrB w b p v o d) : b < w.heap.size := World.block_lt_of_cell? w _ h.c0
theorem WrB.shape (h : WrB w b p v o d) : w.shape? b = some (101, 4) := by simp [World.shape?, show w.heap[b]? = _ from h]
theorem WrB.set0 (h : WrB w b p v o d) (x : Value) : WrB (w.setCell ⟨b, 0, none⟩ x) b x v o d := heap_setCell_same w b 0 _ _ _ h
theorem WrB.set1 (h : WrB w b p v o d) (x : Value) : WrB (w.setCell ⟨b, 1, none⟩ x) b p x o d := heap_setCell_same w b 1 _ _ _ h
end
theorem wr_info : (Tryz.prog.info? 99).map (·.size) = some 2 := by kernel_rfl
theorem wr_lies : liesAt Tryz.prog Tryz.prog.depth 101 (4 / Tryz.prog.cellsOf 101) 0 99 1 = true := by kernel_rfl
set_option maxRecDepth 100000 in
set_option maxHeartbeats 2000000 in
theorem wcheck_fresh (b : Nat) (w : World) (v : Value) (o d : Int) (h : WrB w b (.pointer none) v o d) :
    Calls Tryz.prog 102 #[.pointer (some ⟨b, 0, none⟩)] w fun e w' => e = .returned (.tuple #[]) ∧ w' = w.setCell ⟨b, 0, none⟩ (.pointer (some ⟨b, 0, none⟩)) := by
  obtain ⟨j, hj, hjs⟩ := Option.map_eq_some_iff.1 wr_info
  have h0 := h.c0
  have hsh := h.shape
  have hfz := h.fz 0
  go_enter Tryz.func102, Tryz.ntmps102
  go_wp2
  rw [Lib.run_to_unsafe w ⟨b, 0, none⟩ Tryz.underlying96 Tryz.underlying183 hj (by rw [hjs]; decide) hsh (show 0 < 4 by decide)]
  simp only [Result.andThen]
  rw [Oper.upon_value]
  go_wp2
  rw [run_callFunc_extern Tryz.func123 (by kernel_rfl) (by kernel_rfl) (by kernel_rfl) (e := Extern.AbiNoEscape.same) (by kernel_rfl)]
  rw [Lib.run_noEscape]
  simp only [Result.andThen]
  rw [Oper.upon_value]
  go_wp2
  rw [Lib.run_from_unsafe w ⟨b, 0, none⟩ Tryz.underlying183 Tryz.underlying96 hj hsh wr_lies]
  simp only [Result.andThen]
  rw [Oper.upon_value]
  go_wp2
  go_end0
  exact ⟨rfl, rfl⟩
set_option maxRecDepth 100000 in
set_option maxHeartbeats 2000000 in
theorem wcheck_used (b : Nat) (w : World) (v : Value) (o d : Int) (h : WrB w b (.pointer (some ⟨b, 0, none⟩)) v o d) :
    Calls Tryz.prog 102 #[.pointer (some ⟨b, 0, none⟩)] w fun e w' => e = .returned (.tuple #[]) ∧ w = w' := by
  obtain ⟨j, hj, hjs⟩ := Option.map_eq_some_iff.1 wr_info
  have h0 := h.c0
  have hne := fun w1 => Lib.run_neq_ptr_same (P := Tryz.prog) (tp := 96) (te := 99) (w := w1) ⟨b, 0, none⟩ Tryz.underlying96 hj
  clear h
  go_enter Tryz.func102, Tryz.ntmps102
  go_wp2
  go_end0
  exact ⟨rfl, rfl⟩
theorem wpList_apx {P : Program} {ops : Array Oper} {rest : List Oper} {o : Oper} {a : Act} {w : World} {Q : Exit → Act → World → Prop} (hgd : o.guard = none) (s x : Operand) (t u : TypeId)
    (ho : o.op = .call { callee := .builtin .append, args := #[s, x], argTypes := #[t, u] }) {v vx : Value} (hs : a.eval s = v) (hx : a.eval x = vx) (v' : Value) (w' : World)
    (hr : (Builtin.append_ #[t, u] o.type #[v, vx]).run P w = .ok v' w') (h : wpList P ops Q rest (a.put o.dst v') w') : wpList P ops Q (o :: rest) a w := by
  refine wpList_plain hgd fun K hK => ?_
  unfold Oper.wp execOp
  simp only [ho, resolve, invoke, builtin, Sem.run_bind, Sem.run_pure, Result.andThen_ok, List.map_toArray, List.map_cons, List.map_nil, hs, hx, hr]
  exact hK _ _ h
structure Wr (w : World) (b : Nat) (l : List UInt8) (o d : Int) : Prop where
  has : ∃ p v, WrB w b p v o d ∧ (p = .pointer none ∨ p = .pointer (some ⟨b, 0, none⟩)) ∧ w.ownsRow (b + 1) 5 1 v l.length (Lib.byteCells l)
theorem info_u8 : (Tryz.prog.info? 5).map (fun i => (i.zero, i.size, i.bytes)) = some (some (.int .u8 0), 1, 1) := by kernel_rfl
theorem wcheck_any (b : Nat) (w : World) (p v : Value) (o d : Int) (h : WrB w b p v o d) (hp : p = .pointer none ∨ p = .pointer (some ⟨b, 0, none⟩)) :
    Calls Tryz.prog 102 #[.pointer (some ⟨b, 0, none⟩)] w fun e w' => e = .returned (.tuple #[]) ∧ WrB w' b (.pointer (some ⟨b, 0, none⟩)) v o d ∧ Only b w w' ∧ w'.heap.size = w.heap.size := by
  rcases hp with rfl | rfl
  · refine (wcheck_fresh b w v o d h).mono ?_
    rintro e w' ⟨rfl, rfl⟩
    exact ⟨rfl, h.set0 _, Only.set b w 0 _, by simp⟩
  · refine (wcheck_used b w v o d h).mono ?_
    rintro e w' ⟨rfl, rfl⟩
    exact ⟨rfl, h, Only.refl _ _, rfl⟩
end Go.Proofs.YtchjckdjkecjnaaGreatDoor.Ex
