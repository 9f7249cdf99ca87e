/- ZTzO -/
import Derived.Test.YtchjckdjkecjnaaGreatDoorYTzY
import Derived.Deep.Upon
namespace Go.Proofs.YtchjckdjkecjnaaGreatDoor.Ev
open Go.RowKit
open Ex Lx Va Ty
set_option linter.unusedVariables false
set_option linter.unusedSimpArgs false
end Go.Proofs.YtchjckdjkecjnaaGreatDoor.Ev
namespace Go.Proofs.YtchjckdjkecjnaaGreatDoor.Ev
open Go.RowKit
open Ex Lx Va Ty
set_option linter.unusedVariables false
set_option linter.unusedSimpArgs false
end Go.Proofs.YtchjckdjkecjnaaGreatDoor.Ev
namespace Go.Proofs.YtchjckdjkecjnaaGreatDoor.Ev
open Go.RowKit
open Ex Lx Va Ty
set_option linter.unusedVariables false
set_option linter.unusedSimpArgs false
def Cpy (ok : Nat → Prop) (B : Nat) (w : World) (a : Option Addr) (c : Nat) (vs : List V) : Prop := vs = [] ∨ ∃ G, a = some ⟨G, 0, none⟩ ∧ B ≤ G ∧ vs.length ≤ c ∧ VRow ok w G c vs
theorem Cpy.vs {ok : Nat → Prop} {B : Nat} {w : World} {a : Option Addr} {c : Nat} {vs : List V} (h : Cpy ok B w a c vs) : VsAt ok w a vs := by
  rcases h with rfl | ⟨G, rfl, _, _, hr⟩
  · exact fun i hi => absurd hi (by simp)
  · exact hr.at_
def EC (w : World) (H : Nat) (a b c d : Value) : Prop := w.heap[H]? = some (.cells #[a, b, c, d] 48 (0, 0))
section
variable {w w' : World} {H B : Nat} {a b c d : Value}
theorem EC.c0 (h : EC w H a b c d) : w.cell? ⟨H, 0, none⟩ = some a := cell_of_row w H 0 _ _ (0, 0) h
theorem EC.c1 (h : EC w H a b c d) : w.cell? ⟨H, 1, none⟩ = some b := cell_of_row w H 1 _ _ (0, 0) h
theorem EC.c2 (h : EC w H a b c d) : w.cell? ⟨H, 2, none⟩ = some c := cell_of_row w H 2 _ _ (0, 0) h
theorem EC.c3 (h : EC w H a b c d) : w.cell? ⟨H, 3, none⟩ = some d := cell_of_row w H 3 _ _ (0, 0) h
theorem EC.fz (h : EC w H a b c d) (j : Nat) : w.frozen? ⟨H, j, none⟩ = false := frozen_of_row w H j _ _ h
theorem EC.lt (h : EC w H a b c d) : H < w.heap.size := World.block_lt_of_cell? w _ h.c0
theorem EC.at_ (h : EC w H a b c d) (k : Below B w w') (hl : H < B) : EC w' H a b c d := (k.block H hl).trans h
end
theorem bx_othE {w : World} {H : Nat} {a b c d : Value} (h : Bx w H a b c d) (H' j : Nat) (v : Value) (hn : H' ≠ H) : Bx (w.setCell ⟨H', j, none⟩ v) H a b c d := (heap_setCell_other w ⟨H', j, none⟩ H v (fun e => hn (by simpa using e.symm))).trans h
end Go.Proofs.YtchjckdjkecjnaaGreatDoor.Ev
