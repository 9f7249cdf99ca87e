/-
  Several texts in one: CdWr, CdPutA, CdAllN.
-/
import Derived.Test.YtkdhchdhgmaolaaZVlApB
import Derived.Lib.FrozenHead
import Derived.Test.YtkdhchdhgmaolaaZTzC
import Derived.Deep.RegionHeld3
namespace Go.Proofs.Ytkdhchdhgmaolaa.Cd
open Go.RowKit
open Pk Va
set_option linter.unusedVariables false

/-- Worlds that have grown out of W0. -/
def Good (W0 w : World) : Prop := Below W0.heap.size W0 w
theorem Good.refl (w : World) : Good w w := Below.refl _ _
theorem Good.step {W0 w w' : World} (h : Good W0 w) (b : Below w.heap.size w w') : Good W0 w' := Below.trans h (b.mono h.size)
theorem Good.drew {W0 w : World} (h : Good W0 w) : Good W0 w.drew := ⟨h.os, h.tape, h.output, h.size, h.block⟩
theorem Good.alloc {W0 w : World} (h : Good W0 w) (o : Obj) : Good W0 (w.alloc o) := Below.alloc h h.size o
theorem good_id {W0 w : World} (h : Hid (Good W0 w)) : Good W0 w := h.out
theorem good_drew {W0 w : World} (h : Hid (Good W0 w)) : Good W0 w.drew := h.out.drew
theorem good_drew2 {W0 w : World} (h : Hid (Good W0 w)) : Good W0 w.drew.drew := h.out.drew.drew

/-- The writer in block b holds these bytes and this mark; nothing below H is its. -/
def Wr (H b : Nat) (l : List UInt8) (bad : Bool) (w : World) : Prop :=
  H ≤ b ∧ ∃ p v, (p = .pointer none ∨ p = .pointer (some ⟨b, 0, none⟩)) ∧ w.heap[b]? = some (.cells #[p, v, .bool bad] 152 (0, 0)) ∧ w.ownsRowF H 5 1 v l.length (Lib.byteCells l) ∧ v.ownBlock ≠ some b
/-- Block r is neither the writer's nor its row's. -/
def Off (b r : Nat) (w : World) : Prop := r ≠ b ∧ r < w.heap.size ∧ ∃ p v x, w.heap[b]? = some (.cells #[p, v, x] 152 (0, 0)) ∧ v.ownBlock ≠ some r
def Keeps (b : Nat) (w w' : World) : Prop := ∀ r, Off b r w → w'.heap[r]? = w.heap[r]? ∧ Off b r w'

theorem Keeps.refl (b : Nat) (w : World) : Keeps b w w := fun _ h => ⟨rfl, h⟩
theorem Keeps.trans {b : Nat} {x y z : World} (h : Keeps b x y) (k : Keeps b y z) : Keeps b x z := fun r hr => by
  obtain ⟨e1, h1⟩ := h r hr
  obtain ⟨e2, h2⟩ := k r h1
  exact ⟨e2.trans e1, h2⟩
section
variable {H b : Nat} {l : List UInt8} {bad : Bool} {w : World}
theorem Wr.lt (h : Wr H b l bad w) : b < w.heap.size := by
  obtain ⟨_, _, _, _, hb, _⟩ := h
  exact lt_of_heapV hb
theorem Wr.ge (h : Wr H b l bad w) : H ≤ b := h.1
theorem Wr.size (h : Wr H b l bad w) : H ≤ w.heap.size := Nat.le_trans h.1 (Nat.le_of_lt h.lt)
theorem Wr.alloc (h : Wr H b l bad w) (o : Obj) : Wr H b l bad (w.alloc o) := by
  have hlt := h.lt
  obtain ⟨hB, p, v, hp, hb, hown, hne⟩ := h
  exact ⟨hB, p, v, hp, (Lib.alloc_old w o b hlt).trans hb, hown.kept (World.grownBy_alloc w o none) (by cases hv : v.ownBlock <;> simp), hne⟩
theorem Wr.drew (h : Wr H b l bad w) : Wr H b l bad w.drew := h
/-- What lies behind both is the call's, or was there: what others write leaves the writer alone. -/
theorem Wr.below {w' : World} (h : Wr H b l bad w) (k : Below w.heap.size w w') : Wr H b l bad w' := by
  have hlt := h.lt
  obtain ⟨hB, p, v, hp, hb, hown, hne⟩ := h
  refine ⟨hB, p, v, hp, (k.block b hlt).trans hb, hown.kept (row := none) ⟨k.os, k.tape, k.output, k.size, fun i hi _ => k.block i hi⟩ (by cases hv : v.ownBlock <;> simp), hne⟩
theorem Wr.mark (h : Wr H b l bad w) : w.cell? ⟨b, 2, none⟩ = some (.bool bad) := by
  obtain ⟨_, p, v, _, hb, _⟩ := h
  exact (cell_of_row w b 2 _ _ (0, 0) hb).trans rfl
theorem Wr.frozen (h : Wr H b l bad w) (j : Nat) : w.frozen? ⟨b, j, none⟩ = false := by
  obtain ⟨_, p, v, _, hb, _⟩ := h
  exact frozen_of_row w b j _ _ hb
theorem Wr.set (h : Wr H b l bad w) (x : Bool) : Wr H b l x (w.setCell ⟨b, 2, none⟩ (.bool x)) := by
  obtain ⟨hB, p, v, hp, hb, hown, hne⟩ := h
  refine ⟨hB, p, v, hp, ?_, ?_, hne⟩
  · simp [World.setCell, Array.getElem?_modify, hb]
  · exact hown.kept (row := some b) ⟨rfl, rfl, rfl, by simp [World.setCell], fun k _ hk => Below.heap_setCell _ _ _ _ (fun e => hk (by simp [e]))⟩ (Or.inr hne)
theorem Wr.keeps_set (h : Wr H b l bad w) (x : Bool) : Keeps b w (w.setCell ⟨b, 2, none⟩ (.bool x)) := by
  rintro r ⟨h1, h2, p, v, y, h3, h4⟩
  refine ⟨Below.heap_setCell _ _ _ _ h1, h1, by simpa [World.setCell] using h2, p, v, .bool x, ?_, h4⟩
  simp [World.setCell, Array.getElem?_modify, h3]
theorem Wr.off (h : Wr H b l bad w) {r : Nat} (hr : r < H) : Off b r w := by
  have hlt := h.lt
  obtain ⟨hB, p, v, _, hb, hown, _⟩ := h
  refine ⟨by omega, by omega, p, v, .bool bad, hb, fun e => ?_⟩
  have := (hown.lt r e).1
  omega
theorem Wr.off_new (h : Wr H b l bad w) (o : Obj) : Off b w.heap.size (w.alloc o) := by
  have hlt := h.lt
  obtain ⟨hB, p, v, _, hb, hown, _⟩ := h
  refine ⟨by omega, by simp, p, v, .bool bad, (Lib.alloc_old w o b hlt).trans hb, fun e => ?_⟩
  have := (hown.lt _ e).2
  omega
end
theorem Off.below {b r : Nat} {w w' : World} (h : Off b r w) (k : Below w.heap.size w w') : Off b r w' := by
  obtain ⟨h1, h2, p, v, x, h3, h4⟩ := h
  exact ⟨h1, Nat.lt_of_lt_of_le h2 k.size, p, v, x, (k.block b (lt_of_heapV h3)).trans h3, h4⟩
theorem Keeps.of_below {b : Nat} {w w' : World} (k : Below w.heap.size w w') : Keeps b w w' := fun r h => ⟨k.block r h.2.1, h.below k⟩
theorem Off.cell {b r j : Nat} {w w' : World} (h : Off b r w) (k : Keeps b w w') : w'.cell? ⟨r, j, none⟩ = w.cell? ⟨r, j, none⟩ := by
  unfold World.cell?
  simp only
  rw [(k r h).1]

theorem infoBld : (Try.prog.info? 150).map (·.size) = some 2 := by kernel_rfl
theorem liesW : liesAt Try.prog Try.prog.depth 152 (3 / Try.prog.cellsOf 152) 0 150 1 = true := by kernel_rfl

set_option maxHeartbeats 2000000 in
set_option maxRecDepth 100000 in
theorem copyCheck_used (b : Nat) (w : World) (h0 : w.cell? ⟨b, 0, none⟩ = some (.pointer (some ⟨b, 0, none⟩))) :
    Calls Try.prog 119 #[.pointer (some ⟨b, 0, none⟩)] w fun e w' => e = .returned (.tuple #[]) ∧ w' = w := by
  obtain ⟨j, hj, _⟩ := Option.map_eq_some_iff.1 infoBld
  go_enter Try.func119, Try.ntmps119
  go_wp2
  rw [Lib.run_neq_ptr_same w _ Try.underlying147 hj]
  go_wp2
  go_end0
  exact ⟨rfl, rfl⟩

set_option maxHeartbeats 2000000 in
set_option maxRecDepth 100000 in
theorem copyCheck_fresh (b : Nat) (w : World) (h0 : w.cell? ⟨b, 0, none⟩ = some (.pointer none)) (hsh : w.shape? b = some (152, 3)) (hfz : w.frozen? ⟨b, 0, none⟩ = false) :
    Calls Try.prog 119 #[.pointer (some ⟨b, 0, none⟩)] w fun e w' => e = .returned (.tuple #[]) ∧ w' = w.setCell ⟨b, 0, none⟩ (.pointer (some ⟨b, 0, none⟩)) := by
  obtain ⟨j, hj, hjs⟩ := Option.map_eq_some_iff.1 infoBld
  go_enter Try.func119, Try.ntmps119
  go_wp2
  rw [Lib.run_to_unsafe w ⟨b, 0, none⟩ Try.underlying147 Try.underlying197 hj (by rw [hjs]; decide) hsh (Nat.zero_lt_succ 2)]
  simp only [Result.andThen]
  rw [Oper.upon_value]
  go_wp2
  rw [run_callFunc_extern Try.func129 (by kernel_rfl) (by kernel_rfl) (by kernel_rfl) (e := Extern.AbiNoEscape.same) (by kernel_rfl)]
  rw [Lib.run_noEscape]
  simp only [Result.andThen]
  rw [Oper.upon_value]
  go_wp2
  rw [Lib.run_from_unsafe w ⟨b, 0, none⟩ Try.underlying197 Try.underlying147 hj hsh liesW]
  simp only [Result.andThen]
  rw [Oper.upon_value]
  go_wp2
  go_end0
  exact ⟨rfl, rfl⟩

/-- What a writing call leaves. -/
structure WrTo (H b : Nat) (l : List UInt8) (bad : Bool) (w w' : World) : Prop where
  wr : Wr H b l bad w'
  below : Below H w w'
  size : w.heap.size ≤ w'.heap.size
  keeps : Keeps b w w'
theorem WrTo.trans {H b : Nat} {l l2 : List UInt8} {x y : Bool} {w w1 w2 : World} (h : WrTo H b l x w w1) (k : WrTo H b l2 y w1 w2) : WrTo H b l2 y w w2 :=
  ⟨k.wr, h.below.trans k.below, Nat.le_trans h.size k.size, h.keeps.trans k.keeps⟩
theorem WrTo.refl {H b : Nat} {l : List UInt8} {x : Bool} {w : World} (h : Wr H b l x w) : WrTo H b l x w w := ⟨h, Below.refl _ _, Nat.le_refl _, Keeps.refl _ _⟩
theorem WrTo.of_below {H b : Nat} {l : List UInt8} {x : Bool} {w w' : World} (h : Wr H b l x w) (k : Below w.heap.size w w') : WrTo H b l x w w' :=
  ⟨h.below k, k.mono h.size, k.size, Keeps.of_below k⟩
theorem WrTo.set {H b : Nat} {l : List UInt8} {x : Bool} {w : World} (h : Wr H b l x w) (y : Bool) : WrTo H b l y w (w.setCell ⟨b, 2, none⟩ (.bool y)) :=
  ⟨h.set y, (Below.refl H w).setCell (p := ⟨b, 2, none⟩) h.ge _, by simp [World.setCell], h.keeps_set y⟩

theorem copyCheck_w (H b : Nat) (l : List UInt8) (bad : Bool) (w : World) (h : Wr H b l bad w) :
    Calls Try.prog 119 #[.pointer (some ⟨b, 0, none⟩)] w fun e w' => e = .returned (.tuple #[]) ∧ WrTo H b l bad w w' ∧ ∃ v, w'.heap[b]? = some (.cells #[.pointer (some ⟨b, 0, none⟩), v, .bool bad] 152 (0, 0)) ∧ w'.ownsRowF H 5 1 v l.length (Lib.byteCells l) ∧ v.ownBlock ≠ some b := by
  have hw := h
  obtain ⟨hB, p, v, hp, hb, hown, hne⟩ := h
  have hz0 := frozen_of_row w b 0 _ _ hb
  rcases hp with rfl | rfl
  · refine (copyCheck_fresh b w ((cell_of_row w b 0 _ _ (0, 0) hb).trans rfl) (by simp [World.shape?, hb]) hz0).mono ?_
    rintro e w' ⟨rfl, rfl⟩
    have hg : w.grownBy (w.setCell ⟨b, 0, none⟩ (.pointer (some ⟨b, 0, none⟩))) (some b) := ⟨rfl, rfl, rfl, by simp [World.setCell], fun k _ hk => Below.heap_setCell _ _ _ _ (fun e => hk (by simp [e]))⟩
    have hb2 : (w.setCell ⟨b, 0, none⟩ (.pointer (some ⟨b, 0, none⟩))).heap[b]? = some (.cells #[.pointer (some ⟨b, 0, none⟩), v, .bool bad] 152 (0, 0)) := by
      simp [World.setCell, Array.getElem?_modify, hb]
    have ho2 := hown.kept (row := some b) hg (Or.inr hne)
    refine ⟨rfl, ⟨⟨hB, _, v, .inr rfl, hb2, ho2, hne⟩, (Below.refl H w).setCell (p := ⟨b, 0, none⟩) hB _, by simp [World.setCell], ?_⟩, v, hb2, ho2, hne⟩
    rintro r ⟨h1, h2, p, v', x, h3, h4⟩
    refine ⟨Below.heap_setCell _ _ _ _ h1, h1, by simpa [World.setCell] using h2, .pointer (some ⟨b, 0, none⟩), v', x, ?_, h4⟩
    simp [World.setCell, Array.getElem?_modify, h3]
  · refine (copyCheck_used b w ((cell_of_row w b 0 _ _ (0, 0) hb).trans rfl)).mono ?_
    rintro e w' ⟨rfl, rfl⟩
    exact ⟨rfl, WrTo.refl hw, v, hb, hown, hne⟩

/-- A row that has grown, stored in the writer. -/
theorem wr_put {H b : Nat} {l l' : List UInt8} {bad : Bool} {v v2 : Value} {w1 w2 : World} (hB : H ≤ b) (hw1 : Wr H b l bad w1) (hb1 : w1.heap[b]? = some (.cells #[.pointer (some ⟨b, 0, none⟩), v, .bool bad] 152 (0, 0))) (hown1 : w1.ownsRowF H 5 1 v l.length (Lib.byteCells l)) (hne : v.ownBlock ≠ some b)
    (wa : World) (ka : Below w1.heap.size w1 wa) (hgrow : wa.grownBy w2 v.ownBlock) (hown2 : w2.ownsRowF H 5 1 v2 l'.length (Lib.byteCells l')) (hwhere : v2.ownBlock = v.ownBlock ∨ ∃ g, v2.ownBlock = some g ∧ wa.heap.size ≤ g) :
    WrTo H b l' bad w1 (w2.setCell ⟨b, 1, none⟩ v2) ∧ w2.cell? ⟨b, 1, none⟩ = some v ∧ w2.frozen? ⟨b, 1, none⟩ = false := by
  have hlt : b < w1.heap.size := lt_of_heapV hb1
  have hsz := hw1.size
  have hba : wa.heap[b]? = _ := (ka.block b hlt).trans hb1
  have hb2 : w2.heap[b]? = some (.cells #[.pointer (some ⟨b, 0, none⟩), v, .bool bad] 152 (0, 0)) := by
    rw [hgrow.block b (Nat.lt_of_lt_of_le hlt ka.size) (fun e => hne e.symm)]
    exact hba
  have hne2 : v2.ownBlock ≠ some b := by
    rcases hwhere with e | ⟨g, e, hg⟩
    · rw [e]; exact hne
    · rw [e]; intro e2; injection e2 with e2; have := ka.size; omega
  have hg3 : w2.grownBy (w2.setCell ⟨b, 1, none⟩ v2) (some b) := ⟨rfl, rfl, rfl, by simp [World.setCell], fun k _ hk => Below.heap_setCell _ _ _ _ (fun e => hk (by simp [e]))⟩
  have hb3 : (w2.setCell ⟨b, 1, none⟩ v2).heap[b]? = some (.cells #[.pointer (some ⟨b, 0, none⟩), v2, .bool bad] 152 (0, 0)) := by
    simp [World.setCell, Array.getElem?_modify, hb2]
  refine ⟨⟨⟨hB, _, v2, .inr rfl, hb3, hown2.kept (row := some b) hg3 (Or.inr hne2), hne2⟩, ?_, ?_, ?_⟩, (cell_of_row w2 b 1 _ _ (0, 0) hb2).trans rfl, frozen_of_row w2 b 1 _ _ hb2⟩
  · exact (((Below.refl H w1).trans (ka.mono hsz)).grown hgrow (Nat.le_trans hsz ka.size) (fun k hk => (hown1.lt k hk).1)).setCell (p := ⟨b, 1, none⟩) hB _
  · have h1 := ka.size
    have h2 := hgrow.size
    simp [World.setCell]; omega
  · intro r hr
    have hra := hr.below ka
    obtain ⟨n1, n2, p, v', x, n3, n4⟩ := hra
    rw [hba] at n3
    obtain ⟨rfl, rfl, rfl⟩ : (Value.pointer (some ⟨b, 0, none⟩)) = p ∧ v = v' ∧ Value.bool bad = x := by simpa using n3
    have hr2 : w2.heap[r]? = w1.heap[r]? := by rw [hgrow.block r n2 (fun e => n4 e.symm), ka.block r hr.2.1]
    refine ⟨by rw [Below.heap_setCell _ _ _ _ n1, hr2], n1, by have := hgrow.size; simp [World.setCell]; omega, _, v2, _, hb3, fun e => ?_⟩
    rcases hwhere with e2 | ⟨g, e2, hg⟩
    · exact n4 (by rw [← e2, e])
    · rw [e2] at e
      injection e with e
      omega

set_option maxHeartbeats 2000000 in
set_option maxRecDepth 100000 in
theorem WriteByte_w (H b : Nat) (l : List UInt8) (bad : Bool) (c : UInt8) (w : World) (h : Wr H b l bad w) (hlen : l.length + 1 ≤ 140737488355328) :
    Calls Try.prog 90 #[.pointer (some ⟨b, 0, none⟩), .int .u8 (c.toNat : Int)] w fun e w' => e = .returned .nilIface ∧ WrTo H b (l ++ [c]) bad w w' := by
  have hbl : (Lib.byteCells l).length = l.length := Lib.byteCells_length l
  have hB := h.ge
  have HC := Lib.hid (copyCheck_w H b l bad w h)
  clear h
  go_enter Try.func90, Try.ntmps90
  go_wp2_with fail
  refine HC.out.mono ?_
  rintro e w1 ⟨rfl, hto, v, hbk, hown, hne⟩
  have c1 : w1.cell? ⟨b, 1, none⟩ = some v := (cell_of_row w1 b 1 _ _ (0, 0) hbk).trans rfl
  have ka := (Below.refl w1.heap.size w1).alloc (Nat.le_refl _) (.cells #[.int .u8 (c.toNat : Int)] 5)
  obtain ⟨v2, w2, hrun, hown2, hgrow, hwhere⟩ := app_byte H v l.length (Lib.byteCells l) (w1.alloc (.cells #[.int .u8 (c.toNat : Int)] 5)) (hown.alloc _) ⟨w1.heap.size, 0, none⟩ (c.toNat : Int) (by simp) rfl hlen (by have := hto.wr.size; simp; omega)
  have hown3 : w2.ownsRowF H 5 1 v2 (l ++ [c]).length (Lib.byteCells (l ++ [c])) := by
    rw [Lib.byteCells_append, List.length_append]
    exact hown2
  obtain ⟨hput, d1, f1⟩ := wr_put hB hto.wr hbk hown hne _ ka hgrow hown3 hwhere
  obtain ⟨g, cap, rfl⟩ : ∃ g cap, v2 = .slice (some ⟨g, 0, none⟩) (l.length + 1) cap := by
    rcases hown2.2 with ⟨_, h0⟩ | ⟨g, cap, cur, fz, hv, _⟩
    · omega
    · exact ⟨g, cap, hv⟩
  have HF := Lib.hid (hto.trans hput)
  have HRUN := Lib.hid hrun
  clear hown hown2 hgrow hto hbl hrun hwhere hbk hput ka hown3
  go_wp2_with (at_builtin; refine wpList_app rfl _ _ _ _ rfl rfl rfl _ _ HRUN.out ?_)
  go_wp2_with fail
  go_ret
  exact ⟨rfl, HF.out⟩

set_option maxHeartbeats 2000000 in
set_option maxRecDepth 100000 in
theorem WriteString_w (H b : Nat) (l : List UInt8) (bad : Bool) (s : List UInt8) (hs : s ≠ []) (w : World) (h : Wr H b l bad w) (hlen : l.length + s.length ≤ 140737488355328) :
    Calls Try.prog 92 #[.pointer (some ⟨b, 0, none⟩), .string (S s)] w fun e w' => e = .returned (.tuple #[.int .i64 (s.length : Int), .nilIface]) ∧ WrTo H b (l ++ s) bad w w' := by
  have hss0 : (S s).size = s.length := S_size s
  have hs0 : 0 < s.length := List.length_pos_iff.2 hs
  have hsc : Lib.strCells (S s) = Lib.byteCells s := by simp [Lib.strCells, Lib.byteCells, S]
  have hbl : (Lib.byteCells l).length = l.length := Lib.byteCells_length l
  have hB := h.ge
  have HC := Lib.hid (copyCheck_w H b l bad w h)
  clear h
  go_enter Try.func92, Try.ntmps92
  go_wp2_with fail
  refine HC.out.mono ?_
  rintro e w1 ⟨rfl, hto, v, hbk, hown, hne⟩
  have c1 : w1.cell? ⟨b, 1, none⟩ = some v := (cell_of_row w1 b 1 _ _ (0, 0) hbk).trans rfl
  obtain ⟨v2, w2, hrun, hown2, hgrow, hwhere⟩ := app_string H v l.length (Lib.byteCells l) w1 hown (S s) (by rw [hss0]; omega) (by rw [hss0]; omega) hto.wr.size
  rw [hsc, hss0] at hown2
  have hown3 : w2.ownsRowF H 5 1 v2 (l ++ s).length (Lib.byteCells (l ++ s)) := by
    rw [Lib.byteCells_append, List.length_append]
    exact hown2
  obtain ⟨hput, d1, f1⟩ := wr_put hB hto.wr hbk hown hne _ (Below.refl _ _) hgrow hown3 hwhere
  obtain ⟨g, cap, rfl⟩ : ∃ g cap, v2 = .slice (some ⟨g, 0, none⟩) (l.length + s.length) cap := by
    rcases hown2.2 with ⟨_, h0⟩ | ⟨g, cap, cur, fz, hv, _⟩
    · omega
    · exact ⟨g, cap, hv⟩
  have HF := Lib.hid (hto.trans hput)
  have HRUN := Lib.hid hrun
  clear hown hown2 hgrow hto hbl hrun hwhere hbk hput hown3 hsc
  go_wp2_with (at_builtin; refine wpList_app rfl _ _ _ _ rfl rfl rfl _ _ HRUN.out ?_)
  go_wp2_with fail
  go_ret2
  exact ⟨rfl, HF.out⟩

set_option maxHeartbeats 2000000 in
set_option maxRecDepth 100000 in
theorem String_w (H b : Nat) (l : List UInt8) (bad : Bool) (h0 : l ≠ []) (w : World) (h : Wr H b l bad w) :
    Calls Try.prog 88 #[.pointer (some ⟨b, 0, none⟩)] w fun e w' => e = .returned (.string (S l)) ∧ Below H w w' := by
  have hl0 : l.length ≠ 0 := by simpa using h0
  obtain ⟨hB, p, v, hp, hbk, hown, hne⟩ := h
  obtain ⟨g, cap, cur, fz, rfl, hbg, hg, hfz, hnc, hcm, hcs, htake⟩ : ∃ g cap cur fz, v = .slice (some ⟨g, 0, none⟩) l.length cap ∧ H ≤ g ∧ w.heap[g]? = some (.cells cur 5 fz) ∧ fz.2 ≤ l.length * 1 ∧ l.length ≤ cap ∧ cap ≤ maxLen ∧ cur.size = cap * 1 ∧ cur.toList.take (l.length * 1) = Lib.byteCells l := by
    rcases hown.2 with ⟨_, hz⟩ | ⟨g, cap, cur, fz, hv, r⟩
    · exact absurd hz hl0
    · exact ⟨g, cap, cur, fz, hv, r⟩
  have c1 : w.drew.cell? ⟨b, 1, none⟩ = some (.slice (some ⟨g, 0, none⟩) l.length cap) := by
    have : w.drew.heap[b]? = some (.cells #[p, .slice (some ⟨g, 0, none⟩) l.length cap, .bool bad] 152 (0, 0)) := hbk
    exact (cell_of_row w.drew b 1 _ _ (0, 0) this).trans rfl
  have hSD : (Builtin.unsafeSliceData_ #[148] 187 #[.slice (some ⟨g, 0, none⟩) l.length cap]).run Try.prog w.drew = .ok (.pointer (some ⟨g, 0, none⟩)) w.drew :=
    Lib.run_unsafeSliceData_row _ _ _ _ _ _ (by omega)
  have hUS : (Builtin.unsafeString_ #[187, 3] 9 #[.pointer (some ⟨g, 0, none⟩), .int .i64 l.length]).run Try.prog w.drew = .ok (.string ⟨l.toArray⟩) (w.drew.freeze ⟨g, 0, none⟩ l.length) := by
    refine Lib.run_unsafeString_row w.drew 187 3 9 5 Try.underlying187 (by kernel_rfl) g cur.size (by have hg' : w.drew.heap[g]? = some (.cells cur 5 fz) := hg; simp [World.shape?, hg']) l h0 (by omega) (by unfold maxLen at hcm; omega) ?_
    intro j x hx
    have := hown.cells (g := g) rfl j (.int .u8 x.toNat) (by simp [Lib.byteCells, hx])
    exact this
  have HB := Lib.hid (show Below H w (w.drew.freeze ⟨g, 0, none⟩ l.length) from Lib.below_freeze (Below.drew (Below.refl H w)) (p := ⟨g, 0, none⟩) hbg _)
  clear hown hg hfz hnc hcm hcs htake hbk hne
  go_enter Try.func88, Try.ntmps88
  go_wp2
  go_region
  all_goals (go_wp2; go_ret; exact ⟨rfl, HB.out⟩)

end Go.Proofs.Ytkdhchdhgmaolaa.Cd

namespace Go.Proofs.Ytkdhchdhgmaolaa.Cd
open Go.RowKit
open Pk Va
set_option linter.unusedVariables false
set_option linter.unusedSimpArgs false

theorem enc_ne (n : Nat) : enc n ≠ [] := by
  unfold enc encF
  split <;> simp
/-- How one call of the writer's ends. -/
def PutsTo (H b : Nat) (x : List UInt8) (ok : Bool) (k : Nat) (l : List UInt8) (bad : Bool) (w : World) (e : Ending) (w' : World) : Prop :=
  e = .returned (.tuple #[]) ∧ ∃ l' bad', WrTo H b l' bad' w w' ∧ Wrote x ok k l bad l' bad'
structure Num64 (n : Int) : Prop where
  lo : -9223372036854775808 ≤ n
  hi : n ≤ 9223372036854775807

set_option maxRecDepth 100000 in
theorem number_w (H b : Nat) (l : List UInt8) (bad : Bool) (n : Int) (hn : Num64 n) (w : World) (h : Wr H b l bad w) (hl : l.length ≤ 100000000) :
    Calls Try.prog 91 #[.pointer (some ⟨b, 0, none⟩), .int .i64 n] w fun e w' => PutsTo H b (numB n) true 10 l bad w e w' := by
  have HN := Lib.hid (fun W (k : Good w W) => (number_any n hn.lo (by have := hn.hi; omega) W).mono (R' := fun e w1 => e = .returned (.string (S (numB n))) ∧ Good w w1) (fun e w1 g => ⟨g.1, k.step g.2⟩))
  have HW := Lib.hid (fun W (k : Good w W) => (WriteString_w H b l bad (numB n) (enc_ne _) W (h.below k) (by have := numB_len n; omega)).mono (R' := fun e w2 => e = .returned (.tuple #[.int .i64 ((numB n).length : Int), .nilIface]) ∧ WrTo H b (l ++ numB n) bad w w2) (fun e w2 g => ⟨g.1, (WrTo.of_below h k).trans g.2⟩))
  have HG := Lib.hid (Good.refl w)
  have HP := Lib.hid (Wrote.all (numB n) l bad 10 (numB_len n))
  clear h hn
  go_enter Try.func91, Try.ntmps91
  go_wp2_with fail
  go_region_held3 (fun _ => True) (first | trivial | assumption)
    (first
      | (go_at_call 120; with_reducible refine (HN.out _ (by first | exact good_id (by assumption) | exact good_drew (by assumption))).mono ?_; rintro e w1 ⟨rfl, k1⟩; have K1 := Lib.hid k1; clear k1)
       | (go_at_call 92; with_reducible refine (HW.out _ (by first | exact good_id (by assumption) | exact good_drew (by assumption))).mono ?_; rintro e w2 ⟨rfl, t2⟩; have T2 := Lib.hid t2; clear t2))
  all_goals
    go_wp2_with fail
    go_end0
    exact ⟨rfl, _, _, T2.out, HP.out⟩

set_option maxRecDepth 100000 in
theorem small_w (H b : Nat) (l : List UInt8) (bad : Bool) (n most : Int) (hn : Num64 n) (hm : 0 ≤ most) (w : World) (h : Wr H b l bad w) (hl : l.length ≤ 100000000) :
    Calls Try.prog 101 #[.pointer (some ⟨b, 0, none⟩), .int .i64 n, .int .i64 most] w fun e w' => PutsTo H b (cntI n) (decide (0 ≤ n ∧ n ≤ most)) 10 l bad w e w' := by
  have hmk := h.mark
  have fz := h.frozen 2
  by_cases hok : 0 ≤ n ∧ n ≤ most
  · obtain ⟨h0, h1⟩ := hok
    have hd : decide (0 ≤ n ∧ n ≤ most) = true := by simp [h0, h1]
    rw [hd]
    have hwr : IntKind.u64.wrap n = n := by have := hn.hi; simp only [IntKind.wrap_u64]; omega
    have hc : cntI n = enc n.toNat := by unfold cntI; congr 1; have := hn.hi; omega
    have hci : ∀ W, Calls Try.prog 121 #[.int .u64 (IntKind.u64.wrap n)] W fun e w' => e = .returned (.string (S (enc n.toNat))) ∧ Below W.heap.size W w' := fun W => by rw [hwr]; exact count_int n h0 (by have := hn.hi; omega) W
    have HN := Lib.hid (fun W (k : Good w W) => (hci W).mono (R' := fun e w1 => e = .returned (.string (S (enc n.toNat))) ∧ Good w w1) (fun e w1 g => ⟨g.1, k.step g.2⟩))
    have HW := Lib.hid (fun W (k : Good w W) => (WriteString_w H b l bad (enc n.toNat) (enc_ne _) W (h.below k) (by have := enc_len n.toNat; omega)).mono (R' := fun e w2 => e = .returned (.tuple #[.int .i64 ((enc n.toNat).length : Int), .nilIface]) ∧ WrTo H b (l ++ enc n.toNat) bad w w2) (fun e w2 g => ⟨g.1, (WrTo.of_below h k).trans g.2⟩))
    have HG := Lib.hid (Good.refl w)
    have HP := Lib.hid (Wrote.all (enc n.toNat) l bad 10 (enc_len _))
    rw [hc]
    clear h hn hd hc hwr hci
    go_enter Try.func101, Try.ntmps101
    go_wp2_with fail
    go_region_held3 (fun _ => True) (first | trivial | assumption)
      (first
        | (go_at_call 121; with_reducible refine (HN.out _ (by first | exact good_id (by assumption) | exact good_drew (by assumption))).mono ?_; rintro e w1 ⟨rfl, k1⟩; have K1 := Lib.hid k1; clear k1)
         | (go_at_call 92; with_reducible refine (HW.out _ (by first | exact good_id (by assumption) | exact good_drew (by assumption))).mono ?_; rintro e w2 ⟨rfl, t2⟩; have T2 := Lib.hid t2; clear t2))
    all_goals
      go_wp2_with fail
      go_end0
      exact ⟨rfl, _, _, T2.out, HP.out⟩
  · have hd : decide (0 ≤ n ∧ n ≤ most) = false := by simpa using hok
    rw [hd]
    have HF := Lib.hid (WrTo.set h true)
    have HP := Lib.hid (Wrote.no (cntI n) l bad 10)
    clear h hn hd
    by_cases hneg : n < 0
    · clear hok
      go_enter Try.func101, Try.ntmps101
      go_wp2_with fail
      go_end0
      exact ⟨rfl, _, _, HF.out, HP.out⟩
    · have hgt : most < n := by omega
      clear hok
      go_enter Try.func101, Try.ntmps101
      go_wp2_with fail
      go_end0
      exact ⟨rfl, _, _, HF.out, HP.out⟩

set_option maxRecDepth 100000 in
theorem count_w (H b : Nat) (l : List UInt8) (bad : Bool) (n : Int) (hn : Num64 n) (w : World) (h : Wr H b l bad w) (hl : l.length ≤ 100000000) :
    Calls Try.prog 99 #[.pointer (some ⟨b, 0, none⟩), .int .i64 n] w fun e w' => PutsTo H b (cntI n) (cntOk n) 10 l bad w e w' := by
  have HN := Lib.hid (small_w H b l bad n 1000 hn (by omega) w h hl)
  clear h hn
  go_enter Try.func99, Try.ntmps99
  go_wp2_with fail
  refine HN.out.mono ?_
  rintro e w1 ⟨rfl, h1⟩
  have H1 := Lib.hid h1
  clear h1
  go_wp2_with fail
  go_end0
  exact ⟨rfl, H1.out⟩

set_option maxRecDepth 100000 in
theorem name_w (H b : Nat) (l : List UInt8) (bad : Bool) (t : List UInt8) (w : World) (h : Wr H b l bad w) (hl : l.length ≤ 100000000) :
    Calls Try.prog 96 #[.pointer (some ⟨b, 0, none⟩), .string (S t)] w fun e w' => PutsTo H b (txtB t) (nameOk t) 34 l bad w e w' := by
  have hmk := h.mark
  have fz := h.frozen 2
  have hsz : (S t).size = t.length := S_size t
  by_cases hok : t.length ≤ 24
  · have hd : nameOk t = true := by simp [nameOk, hok]
    rw [hd]
    have hle : (S t).size ≤ 24 := by omega
    have HN := Lib.hid (fun W (k : Good w W) => (text_any (S t) (by omega) W).mono (R' := fun e w1 => e = .returned (.string (S (txtB t))) ∧ Good w w1) (fun e w1 g => ⟨by rw [g.1, hsz, S_toList]; rfl, k.step g.2⟩))
    have HW := Lib.hid (fun W (k : Good w W) => (WriteString_w H b l bad (txtB t) (by unfold txtB; intro e; exact enc_ne _ (List.append_eq_nil_iff.1 e).1) W (h.below k) (by have := txtB_len t; omega)).mono (R' := fun e w2 => e = .returned (.tuple #[.int .i64 ((txtB t).length : Int), .nilIface]) ∧ WrTo H b (l ++ txtB t) bad w w2) (fun e w2 g => ⟨g.1, (WrTo.of_below h k).trans g.2⟩))
    have HG := Lib.hid (Good.refl w)
    have HP := Lib.hid (Wrote.all (txtB t) l bad 34 (by have := txtB_len t; omega))
    clear h hd hsz
    generalize txtB t = x at *
    go_enter Try.func96, Try.ntmps96
    go_wp2_with fail
    go_region_held3 (fun _ => True) (first | trivial | assumption)
      (first
        | (go_at_call 94; with_reducible refine (HN.out _ (by first | exact good_id (by assumption) | exact good_drew (by assumption))).mono ?_; rintro e w1 ⟨rfl, k1⟩; have K1 := Lib.hid k1; clear k1)
         | (go_at_call 92; with_reducible refine (HW.out _ (by first | exact good_id (by assumption) | exact good_drew (by assumption))).mono ?_; rintro e w2 ⟨rfl, t2⟩; have T2 := Lib.hid t2; clear t2))
    all_goals
      go_wp2_with fail
      go_end0
      exact ⟨rfl, _, _, T2.out, HP.out⟩
  · have hd : nameOk t = false := by simpa [nameOk] using hok
    rw [hd]
    have hgt : 24 < (S t).size := by omega
    have HF := Lib.hid (WrTo.set h true)
    have HP := Lib.hid (Wrote.no (txtB t) l bad 34)
    clear h hd hsz hok
    go_enter Try.func96, Try.ntmps96
    go_wp2_with fail
    go_end0
    exact ⟨rfl, _, _, HF.out, HP.out⟩

end Go.Proofs.Ytkdhchdhgmaolaa.Cd

namespace Go.Proofs.Ytkdhchdhgmaolaa.Cd
open Go.RowKit
open Pk Va
set_option linter.unusedVariables false
set_option linter.unusedSimpArgs false

theorem Wrote.cut {e e2 l l' : List UInt8} {o o2 b : Bool} {k K : Nat} (h : Wrote e o k l b l' true) (hi : o2 = true → o = true) (hk : l'.length ≤ l.length + K) : Wrote e2 o2 K l b l' true :=
  ⟨fun hb ho => absurd (h.good hb (hi ho)).1 (by simp), fun _ => rfl, fun _ => rfl, hk⟩
theorem cntI_len_eq (n : Nat) (h : n ≤ 281474976710656) : cntI (n : Int) = cntB n := by
  unfold cntI cntB
  congr 1
  omega
theorem all_take {α : Type} (p : α → Bool) (l : List α) (k : Nat) (h : l.all p = true) : (l.take k).all p = true := by
  rw [List.all_eq_true] at h ⊢
  exact fun x hx => h x (List.mem_of_mem_take hx)

set_option maxRecDepth 100000 in
set_option maxHeartbeats 4000000 in
theorem allN_w (w0 : World) (b : Nat) (l : List UInt8) (bad : Bool) (xs : List Int) (hok : ∀ n ∈ xs, Num64 n) (a : Option Addr) (cap : Nat) (hx : NumsAt w0 a xs) (hlen : xs.length ≤ 281474976710656) (w : World) (hk0 : Below w0.heap.size w0 w) (h : Wr w0.heap.size b l bad w) (hl : l.length ≤ 90000100) :
    Calls Try.prog 95 #[.pointer (some ⟨b, 0, none⟩), .int .i64 16, .slice a xs.length cap, .func (Fn.func 91) #[] #[]] w fun e w' =>
      PutsTo w0.heap.size b (cntB xs.length ++ numsB xs) (decide (xs.length ≤ 16) && xs.all (fun _ => true)) 200 l bad w e w' := by
  have HSM := Lib.hid (small_w w0.heap.size b l bad (xs.length : Int) 16 ⟨by omega, by omega⟩ (by omega) w h (by omega))
  rw [cntI_len_eq _ hlen, show decide (0 ≤ (xs.length : Int) ∧ (xs.length : Int) ≤ 16) = decide (xs.length ≤ 16) by rw [decide_eq_decide]; omega] at HSM
  have hlen2 : (xs.length : Int) ≤ 281474976710656 := by omega
  have HX := Lib.hid hx
  have HOK := Lib.hid hok
  have HK0 := Lib.hid hk0
  have H0 := Lib.hid h
  clear hx hok hk0 h
  go_enter Try.func95, Try.ntmps95
  go_wp2_with fail
  refine HSM.out.mono ?_
  rintro e w1 ⟨rfl, l1, b1, t1, q1⟩
  have T1 := Lib.hid t1
  have Q1 := Lib.hid (show Wrote (cntB xs.length ++ numsB (xs.take 0)) (decide (xs.length ≤ 16) && (xs.take 0).all (fun _ => true)) (10 + 10 * 0) l bad l1 b1 from q1.conv (fun _ => by simp [numsB]) (by simp) (by omega))
  clear t1 q1 HSM
  go_wp2_with fail
  go_loopw [17] (fun iv wr => ∃ (k : Nat) (lk : List UInt8) (bk : Bool), k ≤ xs.length ∧ iv = .int .i64 k ∧ (k = 0 ∨ xs.length ≤ 16) ∧ WrTo w0.heap.size b lk bk w wr ∧ Wrote (cntB xs.length ++ numsB (xs.take k)) (decide (xs.length ≤ 16) && (xs.take k).all (fun _ => true)) (10 + 10 * k) l bad lk bk) (fun iv _ => xs.length - (intOf iv).toNat)
  case atStart => exact ⟨0, l1, b1, Nat.zero_le _, rfl, .inl rfl, T1.out, Q1.out⟩
  case round =>
    obtain ⟨k, lk, bk, hk, rfl, hm, ht, hq⟩ := hrel
    have hlk : lk.length ≤ l.length + (10 + 10 * k) := hq.len
    by_cases hlt : k < xs.length
    · have hki : (k : Int) < (xs.length : Int) := by omega
      have kb := HK0.out.trans ht.below
      obtain ⟨g, o, rfl, p0, hg⟩ := (HX.out.below kb) k hlt
      rw [show xs.getD k 0 = xs[k] by simp [List.getD, hlt]] at p0
      have HQ := Lib.hid hq

      cases bk with
      | true =>
        have HT := Lib.hid ht
        have hmk := HT.out.wr.mark
        have HC := Lib.hid (show lk.length ≤ l.length + 200 by rcases hm with rfl | hm <;> omega)
        clear ht hq kb hm
        go_wp2_with fail
        go_end0
        exact ⟨rfl, lk, true, HT.out, HQ.out.cut (fun ho => by
          simp only [Bool.and_eq_true] at ho ⊢
          exact ⟨ho.1, all_take _ _ _ ho.2⟩) HC.out⟩
      | false =>
        have hle : xs.length ≤ 16 := by
          by_cases hh : xs.length ≤ 16
          · exact hh
          · have := hq.fault (by simp [hh])
            cases this
        have HT := Lib.hid ht
        have hmk := HT.out.wr.mark
        have HE := Lib.hid (number_w w0.heap.size b lk false xs[k] (HOK.out _ (List.getElem_mem _)) wr ht.wr (by omega))
        have HST := Lib.hid (show xs.take (k + 1) = xs.take k ++ [xs[k]] from List.take_succ_eq_append_getElem hlt)
        have HLE := Lib.hid hle
        clear ht hq kb hm hlk
        obtain ⟨x, hxk⟩ : ∃ x, x = xs[k] := ⟨_, rfl⟩
        rw [← hxk] at HE HST p0
        clear hxk
        go_wp2_with fail
        refine HE.out.mono ?_
        rintro e w3 ⟨rfl, l3, b3, t3, q3⟩
        have T3 := Lib.hid (HT.out.trans t3)
        have Q3 := Lib.hid (HQ.out.then q3)
        clear t3 q3
        go_wp2_with fail
        go_roundw
        case rel => exact ⟨k + 1, l3, b3, by omega, by go_num, .inr HLE.out, T3.out, Q3.out.conv (fun _ => by rw [HST.out, numsB_append]; simp [numsB]) (by rw [HST.out, List.all_append]; simp [Bool.and_assoc]) (by omega)⟩
        case measure => simp [intOf]; omega
    · have hke : k = xs.length := by omega
      have hki : ¬ (k : Int) < (xs.length : Int) := by omega
      have HT := Lib.hid ht
      have HQ := Lib.hid (show Wrote (cntB xs.length ++ numsB xs) (decide (xs.length ≤ 16) && xs.all (fun _ => true)) 200 l bad lk bk from ⟨fun x y => by
        have := hq.good x (by rw [hke, List.take_length]; exact y)
        rw [hke, List.take_length] at this
        exact this, hq.stay, fun x => hq.fault (by rw [hke, List.take_length]; exact x), by rcases hm with rfl | hm <;> omega⟩)
      clear ht hq hm hlk
      go_wp2_with fail
      go_end0
      exact ⟨rfl, lk, bk, HT.out, HQ.out⟩

set_option maxRecDepth 100000 in
set_option maxHeartbeats 4000000 in
theorem allC_w (w0 : World) (b : Nat) (l : List UInt8) (bad : Bool) (xs : List Int) (hok : ∀ n ∈ xs, Num64 n) (a : Option Addr) (cap : Nat) (hx : NumsAt w0 a xs) (hlen : xs.length ≤ 281474976710656) (w : World) (hk0 : Below w0.heap.size w0 w) (h : Wr w0.heap.size b l bad w) (hl : l.length ≤ 90000100) :
    Calls Try.prog 98 #[.pointer (some ⟨b, 0, none⟩), .int .i64 16, .slice a xs.length cap, .func (Fn.func 99) #[] #[]] w fun e w' =>
      PutsTo w0.heap.size b (cntB xs.length ++ cntsB xs) (decide (xs.length ≤ 16) && xs.all cntOk) 200 l bad w e w' := by
  have HSM := Lib.hid (small_w w0.heap.size b l bad (xs.length : Int) 16 ⟨by omega, by omega⟩ (by omega) w h (by omega))
  rw [cntI_len_eq _ hlen, show decide (0 ≤ (xs.length : Int) ∧ (xs.length : Int) ≤ 16) = decide (xs.length ≤ 16) by rw [decide_eq_decide]; omega] at HSM
  have hlen2 : (xs.length : Int) ≤ 281474976710656 := by omega
  have HX := Lib.hid hx
  have HOK := Lib.hid hok
  have HK0 := Lib.hid hk0
  have H0 := Lib.hid h
  clear hx hok hk0 h
  go_enter Try.func98, Try.ntmps98
  go_wp2_with fail
  refine HSM.out.mono ?_
  rintro e w1 ⟨rfl, l1, b1, t1, q1⟩
  have T1 := Lib.hid t1
  have Q1 := Lib.hid (show Wrote (cntB xs.length ++ cntsB (xs.take 0)) (decide (xs.length ≤ 16) && (xs.take 0).all cntOk) (10 + 10 * 0) l bad l1 b1 from q1.conv (fun _ => by simp [cntsB]) (by simp) (by omega))
  clear t1 q1 HSM
  go_wp2_with fail
  go_loopw [17] (fun iv wr => ∃ (k : Nat) (lk : List UInt8) (bk : Bool), k ≤ xs.length ∧ iv = .int .i64 k ∧ (k = 0 ∨ xs.length ≤ 16) ∧ WrTo w0.heap.size b lk bk w wr ∧ Wrote (cntB xs.length ++ cntsB (xs.take k)) (decide (xs.length ≤ 16) && (xs.take k).all cntOk) (10 + 10 * k) l bad lk bk) (fun iv _ => xs.length - (intOf iv).toNat)
  case atStart => exact ⟨0, l1, b1, Nat.zero_le _, rfl, .inl rfl, T1.out, Q1.out⟩
  case round =>
    obtain ⟨k, lk, bk, hk, rfl, hm, ht, hq⟩ := hrel
    have hlk : lk.length ≤ l.length + (10 + 10 * k) := hq.len
    by_cases hlt : k < xs.length
    · have hki : (k : Int) < (xs.length : Int) := by omega
      have kb := HK0.out.trans ht.below
      obtain ⟨g, o, rfl, p0, hg⟩ := (HX.out.below kb) k hlt
      rw [show xs.getD k 0 = xs[k] by simp [List.getD, hlt]] at p0
      have HQ := Lib.hid hq

      cases bk with
      | true =>
        have HT := Lib.hid ht
        have hmk := HT.out.wr.mark
        have HC := Lib.hid (show lk.length ≤ l.length + 200 by rcases hm with rfl | hm <;> omega)
        clear ht hq kb hm
        go_wp2_with fail
        go_end0
        exact ⟨rfl, lk, true, HT.out, HQ.out.cut (fun ho => by
          simp only [Bool.and_eq_true] at ho ⊢
          exact ⟨ho.1, all_take _ _ _ ho.2⟩) HC.out⟩
      | false =>
        have hle : xs.length ≤ 16 := by
          by_cases hh : xs.length ≤ 16
          · exact hh
          · have := hq.fault (by simp [hh])
            cases this
        have HT := Lib.hid ht
        have hmk := HT.out.wr.mark
        have HE := Lib.hid (count_w w0.heap.size b lk false xs[k] (HOK.out _ (List.getElem_mem _)) wr ht.wr (by omega))
        have HST := Lib.hid (show xs.take (k + 1) = xs.take k ++ [xs[k]] from List.take_succ_eq_append_getElem hlt)
        have HLE := Lib.hid hle
        clear ht hq kb hm hlk
        obtain ⟨x, hxk⟩ : ∃ x, x = xs[k] := ⟨_, rfl⟩
        rw [← hxk] at HE HST p0
        clear hxk
        go_wp2_with fail
        refine HE.out.mono ?_
        rintro e w3 ⟨rfl, l3, b3, t3, q3⟩
        have T3 := Lib.hid (HT.out.trans t3)
        have Q3 := Lib.hid (HQ.out.then q3)
        clear t3 q3
        go_wp2_with fail
        go_roundw
        case rel => exact ⟨k + 1, l3, b3, by omega, by go_num, .inr HLE.out, T3.out, Q3.out.conv (fun _ => by rw [HST.out, cntsB_append]; simp [cntsB]) (by rw [HST.out, List.all_append]; simp [Bool.and_assoc]) (by omega)⟩
        case measure => simp [intOf]; omega
    · have hke : k = xs.length := by omega
      have hki : ¬ (k : Int) < (xs.length : Int) := by omega
      have HT := Lib.hid ht
      have HQ := Lib.hid (show Wrote (cntB xs.length ++ cntsB xs) (decide (xs.length ≤ 16) && xs.all cntOk) 200 l bad lk bk from ⟨fun x y => by
        have := hq.good x (by rw [hke, List.take_length]; exact y)
        rw [hke, List.take_length] at this
        exact this, hq.stay, fun x => hq.fault (by rw [hke, List.take_length]; exact x), by rcases hm with rfl | hm <;> omega⟩)
      clear ht hq hm hlk
      go_wp2_with fail
      go_end0
      exact ⟨rfl, lk, bk, HT.out, HQ.out⟩

end Go.Proofs.Ytkdhchdhgmaolaa.Cd
