/-
  Several texts in one: ExBld, ExWrA.
-/
import Derived.Test.YtabbdkdpmpjchaaGreatDoorZTzC
import Derived.Lib.Builder
import Derived.Lib.FrozenHead
import Derived.Lib.AppendStr
import Derived.OwnWalk
import Derived.Test.YtabbdkdpmpjchaaGreatDoorZTzG
namespace Go.Proofs.YtabbdkdpmpjchaaGreatDoor.Ex
open Go.RowKit
open Lx
def WrB (w : World) (b : Nat) (p v : Value) (o d : Int) : Prop := w.heap[b]? = some (.cells #[p, v, .int .i64 o, .int .i64 d] 75 (0, 0))
section
variable {w w' : World} {b : Nat} {p v : Value} {o d : Int}
theorem WrB.c0 (h : WrB w b p v o d) : w.cell? ⟨b, 0, none⟩ = some p := cell_of_row w b 0 _ _ (0, 0) h
theorem WrB.c1 (h : WrB w b p v o d) : w.cell? ⟨b, 1, none⟩ = some v := cell_of_row w b 1 _ _ (0, 0) h
theorem WrB.c2 (h : WrB w b p v o d) : w.cell? ⟨b, 2, none⟩ = some (.int .i64 o) := cell_of_row w b 2 _ _ (0, 0) h
theorem WrB.c3 (h : WrB w b p v o d) : w.cell? ⟨b, 3, none⟩ = some (.int .i64 d) := cell_of_row w b 3 _ _ (0, 0) h
theorem WrB.fz (h : WrB w b p v o d) (j : Nat) : w.frozen? ⟨b, j, none⟩ = false := frozen_of_row w b j _ _ h
theorem WrB.lt (h : WrB w b p v o d) : b < w.heap.size := World.block_lt_of_cell? w _ h.c0
theorem WrB.shape (h : WrB w b p v o d) : w.shape? b = some (75, 4) := by simp [World.shape?, show w.heap[b]? = _ from h]
theorem WrB.set0 (h : WrB w b p v o d) (x : Value) : WrB (w.setCell ⟨b, 0, none⟩ x) b x v o d := heap_setCell_same w b 0 _ _ _ h
theorem WrB.set1 (h : WrB w b p v o d) (x : Value) : WrB (w.setCell ⟨b, 1, none⟩ x) b p x o d := heap_setCell_same w b 1 _ _ _ h
end
theorem wr_info : (Tryz.prog.info? 73).map (·.size) = some 2 := by kernel_rfl
theorem wr_lies : liesAt Tryz.prog Tryz.prog.depth 75 (4 / Tryz.prog.cellsOf 75) 0 73 1 = true := by kernel_rfl
set_option maxRecDepth 100000 in
set_option maxHeartbeats 2000000 in
theorem wcheck_fresh (b : Nat) (w : World) (v : Value) (o d : Int) (h : WrB w b (.pointer none) v o d) :
    Calls Tryz.prog 76 #[.pointer (some ⟨b, 0, none⟩)] w fun e w' => e = .returned (.tuple #[]) ∧ w' = w.setCell ⟨b, 0, none⟩ (.pointer (some ⟨b, 0, none⟩)) := by
  obtain ⟨j, hj, hjs⟩ := Option.map_eq_some_iff.1 wr_info
  have h0 := h.c0
  have hsh := h.shape
  have hfz := h.fz 0
  go_enter Tryz.func76, Tryz.ntmps76
  go_wp2
  rw [Lib.run_to_unsafe w ⟨b, 0, none⟩ Tryz.underlying70 Tryz.underlying174 hj (by rw [hjs]; decide) hsh (show 0 < 4 by decide)]
  simp only [Result.andThen]
  rw [Oper.upon_value]
  go_wp2
  rw [run_callFunc_extern Tryz.func116 (by kernel_rfl) (by kernel_rfl) (by kernel_rfl) (e := Extern.AbiNoEscape.same) (by kernel_rfl)]
  rw [Lib.run_noEscape]
  simp only [Result.andThen]
  rw [Oper.upon_value]
  go_wp2
  rw [Lib.run_from_unsafe w ⟨b, 0, none⟩ Tryz.underlying174 Tryz.underlying70 hj hsh wr_lies]
  simp only [Result.andThen]
  rw [Oper.upon_value]
  go_wp2
  go_end0
  exact ⟨rfl, rfl⟩
set_option maxRecDepth 100000 in
set_option maxHeartbeats 2000000 in
theorem wcheck_used (b : Nat) (w : World) (v : Value) (o d : Int) (h : WrB w b (.pointer (some ⟨b, 0, none⟩)) v o d) :
    Calls Tryz.prog 76 #[.pointer (some ⟨b, 0, none⟩)] w fun e w' => e = .returned (.tuple #[]) ∧ w = w' := by
  obtain ⟨j, hj, hjs⟩ := Option.map_eq_some_iff.1 wr_info
  have h0 := h.c0
  have hne := fun w1 => Lib.run_neq_ptr_same (P := Tryz.prog) (tp := 70) (te := 73) (w := w1) ⟨b, 0, none⟩ Tryz.underlying70 hj
  clear h
  go_enter Tryz.func76, Tryz.ntmps76
  go_wp2
  go_end0
  exact ⟨rfl, rfl⟩
theorem wpList_apx {P : Program} {ops : Array Oper} {rest : List Oper} {o : Oper} {a : Act} {w : World} {Q : Exit → Act → World → Prop} (hgd : o.guard = none) (s x : Operand) (t u : TypeId)
    (ho : o.op = .call { callee := .builtin .append, args := #[s, x], argTypes := #[t, u] }) {v vx : Value} (hs : a.eval s = v) (hx : a.eval x = vx) (v' : Value) (w' : World)
    (hr : (Builtin.append_ #[t, u] o.type #[v, vx]).run P w = .ok v' w') (h : wpList P ops Q rest (a.put o.dst v') w') : wpList P ops Q (o :: rest) a w := by
  refine wpList_plain hgd fun K hK => ?_
  unfold Oper.wp execOp
  simp only [ho, resolve, invoke, builtin, Sem.run_bind, Sem.run_pure, Result.andThen_ok, List.map_toArray, List.map_cons, List.map_nil, hs, hx, hr]
  exact hK _ _ h
structure Wr (w : World) (b : Nat) (l : List UInt8) (o d : Int) : Prop where
  has : ∃ p v, WrB w b p v o d ∧ (p = .pointer none ∨ p = .pointer (some ⟨b, 0, none⟩)) ∧ w.ownsRow (b + 1) 5 1 v l.length (Lib.byteCells l)
theorem info_u8 : (Tryz.prog.info? 5).map (fun i => (i.zero, i.size, i.bytes)) = some (some (.int .u8 0), 1, 1) := by kernel_rfl
theorem wcheck_any (b : Nat) (w : World) (p v : Value) (o d : Int) (h : WrB w b p v o d) (hp : p = .pointer none ∨ p = .pointer (some ⟨b, 0, none⟩)) :
    Calls Tryz.prog 76 #[.pointer (some ⟨b, 0, none⟩)] w fun e w' => e = .returned (.tuple #[]) ∧ WrB w' b (.pointer (some ⟨b, 0, none⟩)) v o d ∧ Only b w w' ∧ w'.heap.size = w.heap.size := by
  rcases hp with rfl | rfl
  · refine (wcheck_fresh b w v o d h).mono ?_
    rintro e w' ⟨rfl, rfl⟩
    exact ⟨rfl, h.set0 _, Only.set b w 0 _, by simp⟩
  · refine (wcheck_used b w v o d h).mono ?_
    rintro e w' ⟨rfl, rfl⟩
    exact ⟨rfl, h, Only.refl _ _, rfl⟩
end Go.Proofs.YtabbdkdpmpjchaaGreatDoor.Ex

namespace Go.Proofs.YtabbdkdpmpjchaaGreatDoor.Ex
open Go.RowKit
open Lx
theorem app_s (H : Nat) (v : Value) (n : Nat) (xs : List Value) (w : World) (hown : w.ownsRow H 5 1 v n xs) (s : ByteArray) (h63 : n + s.size ≤ 140737488355328) (hH : H ≤ w.heap.size) :
    ∃ v' w', (Builtin.append_ #[71, 9] 71 #[v, .string s]).run Tryz.prog w = .ok v' w' ∧ w'.ownsRow H 5 1 v' (n + s.size) (xs ++ Lib.strCells s) ∧ w.grownBy w' v.ownBlock ∧
      (v'.ownBlock = v.ownBlock ∨ ∃ g, v'.ownBlock = some g ∧ w.heap.size ≤ g) := by
  obtain ⟨i0, hi, hz0, hz1, hz2⟩ := info_parts info_u8
  have hm : n + s.size ≤ maxLen := by unfold maxLen; omega
  obtain ⟨v', w', hr, h2, h3, h4⟩ := Lib.run_append_own_string (P := Tryz.prog) w H 71 9 71 5 i0 Tryz.underlying71 Tryz.underlying9 hi hz0 hz1 hz2 v n xs hown s hm h63 hH
  refine ⟨v', w', hr, h2, h3, ?_⟩
  by_cases hs : 0 < s.size
  · obtain ⟨v2, w2, hr2, _, _, h⟩ := Va.app_string H v n xs w (World.ownsRowF_of hown) s hs h63 hH
    rw [hr] at hr2
    obtain ⟨rfl, rfl⟩ : v' = v2 ∧ w' = w2 := by injection hr2 with e1 e2; exact ⟨e1, e2⟩
    exact h
  · rcases (World.ownsRowF_of hown).2 with ⟨rfl, rfl⟩ | ⟨g, cap, cur, fz, rfl, _, hg, hfz, hnc, _, hcs, _⟩
    · rw [h4.2 ⟨rfl, by omega⟩]; exact .inl rfl
    · have hr2 := Lib.run_append_room_stringF (P := Tryz.prog) w 71 9 71 5 i0 Tryz.underlying71 Tryz.underlying9 hi hz1 g n cap cur fz hg (by simpa using hfz) s (by omega) (by rw [hcs]; omega)
      rw [hr] at hr2
      injection hr2 with e1 _
      subst e1
      exact .inl rfl
def Oth (w : World) (b g : Nat) : Prop := g ≠ b ∧ ∀ p v o d, WrB w b p v o d → some g ≠ v.ownBlock
structure Wk (b : Nat) (w w' : World) : Prop where
  below : Below b w w'
  block : ∀ g, g < w.heap.size → Oth w b g → w'.heap[g]? = w.heap[g]? ∧ Oth w' b g
theorem WrB.same {w : World} {b : Nat} {p v p' v' : Value} {o d o' d' : Int} (h : WrB w b p v o d) (k : WrB w b p' v' o' d') : v = v' := by
  have e := Option.some.inj (h.c1.symm.trans k.c1)
  exact e
theorem Wk.refl (b : Nat) (w : World) : Wk b w w := ⟨Below.refl b w, fun _ _ h => ⟨rfl, h⟩⟩
theorem Wk.trans {b : Nat} {x y z : World} (h : Wk b x y) (k : Wk b y z) : Wk b x z :=
  ⟨h.below.trans k.below, fun g hg ho => by
    obtain ⟨e1, o1⟩ := h.block g hg ho
    obtain ⟨e2, o2⟩ := k.block g (Nat.lt_of_lt_of_le hg h.below.size) o1
    exact ⟨e2.trans e1, o2⟩⟩
theorem Wk.of_below {b : Nat} {w w' : World} (hb : b < w.heap.size) (h : Below w.heap.size w w') : Wk b w w' :=
  ⟨h.mono (by omega), fun g hg ho => ⟨h.block g hg, ho.1, fun p v o d hw => ho.2 p v o d ((h.block b hb).symm.trans hw)⟩⟩
theorem Wk.alloc {b : Nat} {w w' : World} (h : Wk b w w') (hb : b < w'.heap.size) (o : Obj) : Wk b w (w'.alloc o) := h.trans (Wk.of_below hb ((Below.refl _ _).alloc (Nat.le_refl _) o))
theorem Wk.step {w w' : World} {b : Nat} {p v p' v' : Value} {o d o' d' : Int} (hb : Below b w w') (h : WrB w b p v o d) (k : WrB w' b p' v' o' d')
    (hk : ∀ g, g < w.heap.size → g ≠ b → some g ≠ v.ownBlock → w'.heap[g]? = w.heap[g]?) (hv : v'.ownBlock = v.ownBlock ∨ ∃ g, v'.ownBlock = some g ∧ w.heap.size ≤ g) : Wk b w w' :=
  ⟨hb, fun g hg ho => ⟨hk g hg ho.1 (ho.2 _ _ _ _ h), ho.1, fun p2 v2 o2 d2 h2 => by
    obtain rfl := k.same h2
    rcases hv with e | ⟨g2, e, hl⟩
    · rw [e]; exact ho.2 _ _ _ _ h
    · rw [e]; intro e2; injection e2 with e2; omega⟩⟩
theorem Oth.new {w : World} {b : Nat} {l : List UInt8} {o d : Int} (h : Wr w b l o d) (ob : Obj) : Oth (w.alloc ob) b w.heap.size := by
  obtain ⟨p, v, hw, _, hown⟩ := h.has
  refine ⟨by have := hw.lt; omega, fun p2 v2 o2 d2 h2 => ?_⟩
  have h3 : WrB w b p2 v2 o2 d2 := (((Below.refl w.heap.size w).alloc (Nat.le_refl _) ob).block b hw.lt).symm.trans h2
  obtain rfl := hw.same h3
  intro e
  have := (World.ownsRow.lt hown _ e.symm).2
  omega
theorem Oth.low {w : World} {b g : Nat} {l : List UInt8} {o d : Int} (h : Wr w b l o d) (hg : g < b) : Oth w b g := by
  obtain ⟨p, v, hw, _, hown⟩ := h.has
  refine ⟨by omega, fun p2 v2 o2 d2 h2 => ?_⟩
  obtain rfl := hw.same h2
  intro e
  have := (World.ownsRow.lt hown _ e.symm).1
  omega
theorem FAt.wk {b : Nat} {w w' : World} (k : Wk b w w') {l : F} {p : Option Addr} (h : FAt w (Oth w b) l p) : FAt w' (Oth w' b) l p := by
  have h1 := FAt.mono (ok' := fun g => Oth w b g ∧ g < w.heap.size) (fun g hg ho => ⟨ho, hg⟩) l p h
  have h2 := h1.keep (w' := w') ⟨k.below.size, fun g hg _ => (k.block g hg.2 hg.1).1⟩
  exact FAt.mono (fun g _ hg => (k.block g hg.2 hg.1).2) l p h2
theorem Wr.lt {w : World} {b : Nat} {l : List UInt8} {o d : Int} (h : Wr w b l o d) : b < w.heap.size := by
  obtain ⟨p, v, hw, _⟩ := h.has
  exact hw.lt
theorem Wr.below {w w' : World} {b : Nat} {l : List UInt8} {o d : Int} (h : Wr w b l o d) (k : Below w.heap.size w w') : Wr w' b l o d := by
  obtain ⟨p, v, hw, hp, hown⟩ := h.has
  refine ⟨p, v, (k.block b hw.lt).trans hw, hp, hown.1, ?_⟩
  rcases hown.2 with h2 | ⟨g, cap, cur, rfl, hB, hg, r⟩
  · exact .inl h2
  · exact .inr ⟨g, cap, cur, rfl, hB, (k.block g (Array.getElem?_eq_some_iff.1 hg).1).trans hg, r⟩
theorem Wr.alloc {w : World} {b : Nat} {l : List UInt8} {o d : Int} (h : Wr w b l o d) (ob : Obj) : Wr (w.alloc ob) b l o d := h.below ((Below.refl _ _).alloc (Nat.le_refl _) ob)
set_option maxRecDepth 100000 in
set_option maxHeartbeats 2000000 in
theorem wwrite_k (b : Nat) (l s : List UInt8) (o d : Int) (w : World) (h : Wr w b l o d) (hlen : l.length + s.length ≤ 140737488355328) :
    Calls Tryz.prog 43 #[.pointer (some ⟨b, 0, none⟩), .string (S s)] w fun e w' => e = .returned (.tuple #[.int .i64 (s.length : Int), .nilIface]) ∧ Wr w' b (l ++ s) o d ∧ Wk b w w' := by
  obtain ⟨p, v, hb, hp, hown⟩ := h.has
  have hss0 : (S s).size = s.length := S_size s
  have hsc : Lib.strCells (S s) = Lib.byteCells s := by simp [Lib.strCells, Lib.byteCells, S]
  have hlt := hb.lt
  have HC := Lib.hid (wcheck_any b w p v o d hb hp)
  have HOWN := Lib.hid hown
  have HB0 := Lib.hid hb
  clear h hb hp hown
  go_enter Tryz.func43, Tryz.ntmps43
  go_wp2_with fail
  refine HC.out.mono ?_
  rintro e w1 ⟨rfl, hb1, o1, hs1⟩
  have hown1 : w1.ownsRow (b + 1) 5 1 v l.length (Lib.byteCells l) := World.ownsRow.kept (row := some b) HOWN.out o1 (.inr (fun e => by
    have := (World.ownsRow.lt HOWN.out b e).1
    omega))
  obtain ⟨v2, w2, hrun, hown2, hgrow, hv2⟩ := app_s (b + 1) v l.length (Lib.byteCells l) w1 hown1 (S s) (by rw [hss0]; omega) (by omega)
  rw [hsc, hss0] at hown2
  obtain ⟨q2, k2, c2, rfl⟩ : ∃ q k c, v2 = .slice q k c := by
    rcases hown2.2 with ⟨rfl, _⟩ | ⟨g, cap, cur, rfl, _⟩
    · exact ⟨_, _, _, rfl⟩
    · exact ⟨_, _, _, rfl⟩
  have hne : some b ≠ v.ownBlock := fun e => by
    have := (World.ownsRow.lt hown1 b e.symm).1
    omega
  have hb2 : WrB w2 b (.pointer (some ⟨b, 0, none⟩)) v o d := (hgrow.block b (by omega) hne).trans hb1
  have c1 := hb1.c1
  have d1 := hb2.c1
  have f1 := hb2.fz 1
  have hsz2 := hgrow.size
  have hb3 := hb2.set1 (.slice q2 k2 c2)
  have hne2 : (Value.slice q2 k2 c2).ownBlock = none ∨ (Value.slice q2 k2 c2).ownBlock ≠ some b := .inr (fun e => by
    have := (World.ownsRow.lt hown2 b e).1
    omega)
  have hown3 := World.ownsRow.kept (row := some b) hown2 (Only.set b w2 1 (.slice q2 k2 c2)) hne2
  have HF := Lib.hid (show Wr (w2.setCell ⟨b, 1, none⟩ (.slice q2 k2 c2)) b (l ++ s) o d from ⟨_, _, hb3, .inr rfl, by rw [List.length_append, Lib.byteCells_append]; exact hown3⟩)
  have hbel1 : Below b w w1 := (Only.below (Below.refl b w) o1 (by omega) (Nat.le_refl _))
  have hbel : Below b w (w2.setCell ⟨b, 1, none⟩ (.slice q2 k2 c2)) := (hbel1.grown hgrow (by omega) (fun k hk => by have := (World.ownsRow.lt hown1 k hk).1; omega)).setCell (p := ⟨b, 1, none⟩) (Nat.le_refl _) _
  have HWK := Lib.hid (Wk.step hbel HB0.out hb3 (fun g hg hgb hgv => by
      refine (heap_setCell_other w2 ⟨b, 1, none⟩ g _ (fun e => hgb (by simpa using e))).trans ?_
      refine (hgrow.block g (by omega) hgv).trans ?_
      exact o1.block g hg (by simpa using hgb)) (by
      rcases hv2 with e | ⟨g, e, hg⟩
      · exact .inl e
      · exact .inr ⟨g, e, by omega⟩))
  have HRUN := Lib.hid hrun
  clear hown1 hown2 hown3 hgrow hbel hbel1 hrun hb1 hb2 hb3 o1 hne hne2 hsc hv2
  go_wp2_with (at_builtin; refine wpList_apx rfl _ _ _ _ rfl rfl rfl _ _ HRUN.out ?_)
  go_wp2_with fail
  go_ret2
  exact ⟨rfl, HF.out, HWK.out⟩
end Go.Proofs.YtabbdkdpmpjchaaGreatDoor.Ex
