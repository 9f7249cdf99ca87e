/-
  The lexer's laws begin with the chapter's examples.
-/
import Derived.Test.YtjndgfppjdobiaaGreatDoorLxToks
namespace Go.Proofs.YtjndgfppjdobiaaGreatDoor.Lx
open Go.RowKit
open Va

def exTs : List TA := [⟨1, [97], 0, 0⟩, ⟨5, [45, 62], 0, 1⟩, ⟨1, [98], 0, 3⟩, ⟨0, [], 0, 9⟩]
theorem ex1 : scanM [97, 45, 62, 98, 32, 47, 47, 32, 99] 0 = (exTs, none) := by kernel_rfl
theorem ex2 : scanM [48, 49] 0 = ([], some 0) := by kernel_rfl
theorem ex3 : scanM [34, 92, 113, 34] 0 = ([], some 0) := by kernel_rfl
theorem ex4 : scanM [39] 0 = ([], some 0) := by kernel_rfl

set_option linter.unusedSimpArgs false
set_option maxRecDepth 100000 in
set_option maxHeartbeats 3200000 in
theorem awake_any (w : World) (hL : Laid w) :
    Calls Tryz.prog 4 #[] w fun e w' => e = .returned (.bool true) ∧ Below w.heap.size w w' := by
  have H1 := Lib.hid (scan_ok ⟨#[97, 45, 62, 98, 32, 47, 47, 32, 99]⟩ (by decide) w hL exTs ex1)
  have H2 := Lib.hid (fun (wr : World) (hb : Below w.heap.size w wr) => scan_err ⟨#[48, 49]⟩ (by decide) wr (hL.below hb) [] 0 ex2)
  have H3 := Lib.hid (fun (wr : World) (hb : Below w.heap.size w wr) => scan_err ⟨#[34, 92, 113, 34]⟩ (by decide) wr (hL.below hb) [] 0 ex3)
  have H4 := Lib.hid (fun (wr : World) (hb : Below w.heap.size w wr) => scan_err ⟨#[39]⟩ (by decide) wr (hL.below hb) [] 0 ex4)
  clear hL
  go_enter Tryz.func4, Tryz.ntmps4
  go_wp2_with fail
  refine H1.out.mono ?_
  rintro e w1 ⟨⟨g, cap, rfl, _, hta⟩, b1⟩
  have HT1 := Lib.hid hta
  have B1 := Lib.hid b1
  clear hta b1
  have hlen : exTs.length = 4 := rfl
  go_wp2_with fail
  refine (H2.out _ B1.out).mono ?_
  rintro e w2 ⟨rfl, b2⟩
  have HT2 := Lib.hid (HT1.out.below b2)
  have B2 := Lib.hid (B1.out.trans (b2.mono B1.out.size))
  clear b2
  go_wp2_with fail
  refine (H3.out _ B2.out).mono ?_
  rintro e w3 ⟨rfl, b3⟩
  have HT3 := Lib.hid (HT2.out.below b3)
  have B3 := Lib.hid (B2.out.trans (b3.mono B2.out.size))
  clear b3
  go_wp2_with fail
  refine (H4.out _ B3.out).mono ?_
  rintro e w4 ⟨rfl, b4⟩
  have hta := HT3.out.below b4
  have B4 := Lib.hid (B3.out.trans (b4.mono B3.out.size))
  clear b4
  have c1 : w4.cell? ⟨g, 5, none⟩ = some (.string (S [45, 62])) := (hta.cells 1 _ rfl).2.1
  have c2 : w4.cell? ⟨g, 15, none⟩ = some (.int .i64 9) := (hta.cells 3 _ rfl).2.2.2
  clear hta
  have hst : ((S [45, 62]).toList == ([45, 62] : List UInt8)) = true := by rw [ByteArray.toList_eq, S_toList]; rfl
  go_wp2_with fail
  go_ret
  exact ⟨rfl, B4.out⟩

end Go.Proofs.YtjndgfppjdobiaaGreatDoor.Lx
