/-
  A strings.Builder that is written while another row of bytes lies beside it: WriteByte, WriteString.
-/
import Derived.Test.YtjndgfppjdobiaaGreatDoorShelf
import Derived.Test.YtjndgfppjdobiaaGreatDoorVaKey
namespace Go.Proofs.YtjndgfppjdobiaaGreatDoor.Va
open Go.RowKit

/-- Block r is neither the builder's nor its row's. -/
def Away (b r : Nat) (w : World) : Prop := r ≠ b ∧ r < w.heap.size ∧ ∃ p v, w.heap[b]? = some (.cells #[p, v] 80 (0, 0)) ∧ v.ownBlock ≠ some r
def KeepsB (b : Nat) (w w' : World) : Prop := ∀ r, Away b r w → w'.heap[r]? = w.heap[r]? ∧ Away b r w'
/-- The builder in block b holds these bytes; nothing below H is its. -/
def BldAt (H b : Nat) (l : List UInt8) (w : World) : Prop := Lib.IsBuilderF 80 5 H b (Lib.byteCells l) w

theorem wpList_app {P : Program} {ops : Array Oper} {rest : List Oper} {o : Oper} {a : Act} {w : World} {Q : Exit → Act → World → Prop} (hgd : o.guard = none) (s x : Operand) (t u : TypeId)
    (ho : o.op = .call { callee := .builtin .append, args := #[s, x], argTypes := #[t, u] }) {v vx : Value} (hs : a.eval s = v) (hx : a.eval x = vx) (v' : Value) (w' : World)
    (hr : (Builtin.append_ #[t, u] o.type #[v, vx]).run P w = .ok v' w') (h : wpList P ops Q rest (a.put o.dst v') w') : wpList P ops Q (o :: rest) a w := by
  refine wpList_plain hgd fun K hK => ?_
  unfold Oper.wp execOp
  simp only [ho, resolve, invoke, builtin, Sem.run_bind, Sem.run_pure, Result.andThen_ok, List.map_toArray, List.map_cons, List.map_nil, hs, hx, hr]
  exact hK _ _ h

/-- What append does to the row of a builder, and where the row lies then. -/
def Grew (H n : Nat) (v : Value) (xs : List Value) (w : World) (v' : Value) (w' : World) : Prop :=
  w'.ownsRowF H 5 1 v' n xs ∧ w.grownBy w' v.ownBlock ∧ (v'.ownBlock = v.ownBlock ∨ ∃ g, v'.ownBlock = some g ∧ w.heap.size ≤ g)
theorem app_byte (H : Nat) (v : Value) (n : Nat) (xs : List Value) (w : World) (hown : w.ownsRowF H 5 1 v n xs) (ad : Addr) (c : Int) (hc : w.cell? ad = some (.int .u8 c)) (hsp : ad.add 0 = ad) (h63 : n + 1 ≤ 140737488355328) (hH : H ≤ w.heap.size) :
    ∃ v' w', (Builtin.append_ #[72, 72] 72 #[v, .slice (some ad) 1 1]).run Tryz.prog w = .ok v' w' ∧ Grew H (n + 1) v (xs ++ [.int .u8 c]) w v' w' := by
  obtain ⟨i0, hi, hz0, hz1, hz2⟩ := info_parts info8
  have hnews : ∀ j u, [Value.int .u8 c][j]? = some u → w.cell? (ad.add j) = some u := fun j u hj => by
    match j, hj with
    | 0, hj => simp at hj; subst hj; rw [hsp]; exact hc
  have h1 : ∀ u ∈ [Value.int .u8 c], u.oneCell' = true := fun u hu => by simp at hu; subst hu; rfl
  have hm : n + 1 ≤ maxLen := by unfold maxLen; omega
  obtain ⟨v', w', hr, h2, h3, _⟩ := run_append_ownF (P := Tryz.prog) w H 72 72 5 i0 (.int .u8 0) 1 1 Tryz.underlying72 hi hz0 hz1 hz2 rfl (by decide) v n xs hown ad 1 1 [.int .u8 c] rfl hnews h1 hm (by omega) hH
  refine ⟨v', w', hr, h2, h3, ?_⟩
  rcases hown.2 with ⟨rfl, rfl⟩ | ⟨g, cap, cur, fz, rfl, _, hg, hfz, hnc, _, hcs, _⟩
  · obtain ⟨v2, w2, hr2, h22, _, _⟩ := run_append_own (P := Tryz.prog) w w.heap.size 72 72 5 i0 (.int .u8 0) 1 1 Tryz.underlying72 hi hz0 hz1 hz2 rfl (by decide) (.slice none 0 0) 0 xs ⟨hown.1, .inl ⟨rfl, rfl⟩⟩ ad 1 1 [.int .u8 c] rfl hnews h1 hm (by omega) (Nat.le_refl _)
    rw [hr] at hr2
    obtain ⟨rfl, rfl⟩ : v' = v2 ∧ w' = w2 := by injection hr2 with e1 e2; exact ⟨e1, e2⟩
    rcases h22.2 with ⟨_, h0⟩ | ⟨g, cap, cur, rfl, hb, _⟩
    · omega
    · exact .inr ⟨g, rfl, hb⟩
  · by_cases hroom : n + 1 ≤ cap
    · have hr2 := run_append_roomF (P := Tryz.prog) w 72 72 5 i0 Tryz.underlying72 hi g n cap cur fz hg (by rw [hz1]; exact hfz) ad 1 1 [.int .u8 c] (by rw [hz1]; rfl) hnews h1 hroom (by rw [hcs, hz1]; simp; omega)
      rw [hr] at hr2
      injection hr2 with e1 _
      subst e1
      exact .inl rfl
    · have hr2 := run_append_grow (P := Tryz.prog) w 72 72 5 i0 (.int .u8 0) Tryz.underlying72 hi hz0 ⟨g, 0, none⟩ n cap xs (by rw [hz1]; exact hown.1) (hown.cells (g := g) rfl) ad 1 1 [.int .u8 c] (by rw [hz1]; rfl) hnews (by omega) (by omega) (by rw [hz2]; exact growslice_fits (by omega) (by omega))
      rw [hr] at hr2
      injection hr2 with e1 _
      subst e1
      exact .inr ⟨_, rfl, Nat.le_refl _⟩
theorem app_string (H : Nat) (v : Value) (n : Nat) (xs : List Value) (w : World) (hown : w.ownsRowF H 5 1 v n xs) (s : ByteArray) (hs1 : 0 < s.size) (h63 : n + s.size ≤ 140737488355328) (hH : H ≤ w.heap.size) :
    ∃ v' w', (Builtin.append_ #[72, 9] 72 #[v, .string s]).run Tryz.prog w = .ok v' w' ∧ Grew H (n + s.size) v (xs ++ Lib.strCells s) w v' w' := by
  obtain ⟨i0, hi, hz0, hz1, hz2⟩ := info_parts info8
  have hm : n + s.size ≤ maxLen := by unfold maxLen; omega
  obtain ⟨v', w', hr, h2, h3, _⟩ := Lib.run_append_own_stringF (P := Tryz.prog) w H 72 9 72 5 i0 Tryz.underlying72 Tryz.underlying9 hi hz0 hz1 hz2 v n xs hown s hm h63 hH
  refine ⟨v', w', hr, h2, h3, ?_⟩
  rcases hown.2 with ⟨rfl, rfl⟩ | ⟨g, cap, cur, fz, rfl, _, hg, hfz, hnc, _, hcs, _⟩
  · obtain ⟨v2, w2, hr2, h22, _, _⟩ := Lib.run_append_own_stringF (P := Tryz.prog) w w.heap.size 72 9 72 5 i0 Tryz.underlying72 Tryz.underlying9 hi hz0 hz1 hz2 (.slice none 0 0) 0 xs ⟨hown.1, .inl ⟨rfl, rfl⟩⟩ s hm h63 (Nat.le_refl _)
    rw [hr] at hr2
    obtain ⟨rfl, rfl⟩ : v' = v2 ∧ w' = w2 := by injection hr2 with e1 e2; exact ⟨e1, e2⟩
    rcases h22.2 with ⟨_, h0⟩ | ⟨g, cap, cur, fz, rfl, hb, _⟩
    · omega
    · exact .inr ⟨g, rfl, hb⟩
  · by_cases hroom : n + s.size ≤ cap
    · have hr2 := Lib.run_append_room_stringF (P := Tryz.prog) w 72 9 72 5 i0 Tryz.underlying72 Tryz.underlying9 hi hz1 g n cap cur fz hg (by simpa using hfz) s hroom (by rw [hcs]; omega)
      rw [hr] at hr2
      injection hr2 with e1 _
      subst e1
      exact .inl rfl
    · have hr2 := Lib.run_append_grow_string (P := Tryz.prog) w 72 9 72 5 i0 (.int .u8 0) Tryz.underlying72 Tryz.underlying9 hi hz0 ⟨g, 0, none⟩ n cap xs (by rw [hz1]; exact hown.1) (hown.cells (g := g) rfl) s (by omega) (by omega) (by rw [hz2]; exact growslice_fits (by omega) (by omega))
      rw [hr] at hr2
      injection hr2 with e1 _
      subst e1
      exact .inr ⟨_, rfl, Nat.le_refl _⟩

theorem copyCheck_o (H b : Nat) (l : List UInt8) (w : World) (h : BldAt H b l w) :
    Calls Tryz.prog 74 #[.pointer (some ⟨b, 0, none⟩)] w fun e w' => e = .returned (.tuple #[]) ∧ Lib.BuilderAtF 80 5 H b (.pointer (some ⟨b, 0, none⟩)) (Lib.byteCells l) w' ∧ Below H w w' ∧ w.heap.size ≤ w'.heap.size ∧ KeepsB b w w' := by
  rcases h with h | h
  · refine (Any.Builder_copyCheck_fresh { Tryz.lays156 with } Tryz.Builder_Extra_156.toX72 b w h.cell0 h.shape h.frozen0).mono ?_
    rintro e w' ⟨rfl, rfl⟩
    refine ⟨rfl, h.used _, (Below.refl H w).setCell (p := ⟨b, 0, none⟩) h.1 _, by simp [World.setCell], ?_⟩
    rintro r ⟨h1, h2, p, v, h3, h4⟩
    refine ⟨Below.heap_setCell _ _ _ _ h1, h1, by simpa [World.setCell] using h2, .pointer (some ⟨b, 0, none⟩), v, ?_, h4⟩
    simp [World.setCell, Array.getElem?_modify, h3]
  · refine (Any.Builder_copyCheck_used { Tryz.lays156 with } Tryz.Builder_Extra_156.toX72 b w h.cell0).mono ?_
    rintro e w' ⟨rfl, rfl⟩
    exact ⟨rfl, h, Below.refl H _, Nat.le_refl _, fun r hr => ⟨rfl, hr⟩⟩

set_option maxHeartbeats 2000000 in
set_option maxRecDepth 100000 in
theorem WriteByte_o (H b : Nat) (l : List UInt8) (c : UInt8) (w : World) (h : BldAt H b l w) (hlen : l.length + 1 ≤ 140737488355328) (hH : H ≤ w.heap.size) :
    Calls Tryz.prog 54 #[.pointer (some ⟨b, 0, none⟩), .int .u8 (c.toNat : Int)] w fun e w' => e = .returned .nilIface ∧ BldAt H b (l ++ [c]) w' ∧ Below H w w' ∧ w.heap.size ≤ w'.heap.size ∧ KeepsB b w w' := by
  obtain ⟨i0, hi, hz0, hz1, hz2⟩ := info_parts info8
  have hbl : (Lib.byteCells l).length = l.length := Lib.byteCells_length l
  have HC := Lib.hid (copyCheck_o H b l w h)
  clear h
  go_enter Tryz.func54, Tryz.ntmps54
  go_wp2_with fail
  refine HC.out.mono ?_
  rintro e w1 ⟨rfl, ⟨hB, v, hbk, hown, hne⟩, hb1, hsz1, hk1⟩
  have c0 : w1.cell? ⟨b, 0, none⟩ = some (.pointer (some ⟨b, 0, none⟩)) := by rw [Lib.cell_of_heap hbk]; rfl
  have c1 : w1.cell? ⟨b, 1, none⟩ = some v := by rw [Lib.cell_of_heap hbk]; rfl
  have hlt : b < w1.heap.size := lt_of_heapV hbk
  rw [hbl] at hown
  obtain ⟨v2, w2, hrun, hown2, hgrow, hwhere⟩ := app_byte H v l.length (Lib.byteCells l) (w1.alloc (.cells #[.int .u8 (c.toNat : Int)] 5)) (hown.alloc _) ⟨w1.heap.size, 0, none⟩ (c.toNat : Int) (by simp) rfl hlen (by simp; omega)
  have hb2 : w2.heap[b]? = some (.cells #[.pointer (some ⟨b, 0, none⟩), v] 80 (0, 0)) := by
    rw [hgrow.block b (by simp; omega) (fun e => hne e.symm), Below.heap_alloc _ _ _ hlt]
    exact hbk
  have d1 : w2.cell? ⟨b, 1, none⟩ = some v := by rw [Lib.cell_of_heap hb2]; rfl
  have hsz2 := hgrow.size
  have f1 : w2.frozen? ⟨b, 1, none⟩ = false := Lib.frozen_of_heap hb2 1
  obtain ⟨g, cap, rfl⟩ : ∃ g cap, v2 = .slice (some ⟨g, 0, none⟩) (l.length + 1) cap := by
    rcases hown2.2 with ⟨_, h0⟩ | ⟨g, cap, cur, fz, hv, _⟩
    · omega
    · exact ⟨g, cap, hv⟩
  have hfin : BldAt H b (l ++ [c]) (w2.setCell ⟨b, 1, none⟩ (.slice (some ⟨g, 0, none⟩) (l.length + 1) cap)) := by
    refine Or.inr (Lib.BuilderAtF.put (T := 80) (e := 5) hB hb2 (bs' := Lib.byteCells (l ++ [c])) ?_ Tryz.Builder_Extra_156.neB5)
    rw [Lib.byteCells_append, List.length_append, hbl]
    exact hown2
  have hbel : Below H w (w2.setCell ⟨b, 1, none⟩ (.slice (some ⟨g, 0, none⟩) (l.length + 1) cap)) :=
    ((hb1.alloc (by omega) _).grown hgrow (by simp; omega) (fun k hk => (hown.lt k hk).1)).setCell (p := ⟨b, 1, none⟩) hB _
  have hs2 : w1.heap.size + 1 ≤ w2.heap.size := by have := hgrow.size; simpa using this
  have hkeep : KeepsB b w (w2.setCell ⟨b, 1, none⟩ (.slice (some ⟨g, 0, none⟩) (l.length + 1) cap)) := by
    intro r hr
    obtain ⟨e1, n1, n2, p, v', n3, n4⟩ := hk1 r hr
    rw [hbk] at n3
    obtain ⟨rfl, rfl⟩ : (Value.pointer (some ⟨b, 0, none⟩)) = p ∧ v = v' := by simpa using n3
    have hr2 : w2.heap[r]? = w1.heap[r]? := by rw [hgrow.block r (by simp; omega) (fun e => n4 e.symm), Below.heap_alloc _ _ _ n2]
    refine ⟨by rw [Below.heap_setCell _ _ _ _ n1, hr2, e1], n1, by simp [World.setCell]; omega, .pointer (some ⟨b, 0, none⟩), .slice (some ⟨g, 0, none⟩) (l.length + 1) cap, by simp [World.setCell, Array.getElem?_modify, hb2], ?_⟩
    intro eg
    have eg' : g = r := by simpa [Value.ownBlock] using eg
    subst eg'
    rcases hwhere with e | ⟨g', e, hg'⟩
    · exact n4 (by rw [← e]; rfl)
    · have : g = g' := by simpa [Value.ownBlock] using e
      simp at hg'
      omega
  have hss : w.heap.size ≤ (w2.setCell ⟨b, 1, none⟩ (.slice (some ⟨g, 0, none⟩) (l.length + 1) cap)).heap.size := by simp [World.setCell]; omega
  have HF := Lib.hid hfin
  have HBE := Lib.hid hbel
  have HKE := Lib.hid hkeep
  have HSS := Lib.hid hss
  have HRUN := Lib.hid hrun
  clear hfin hbel hkeep hss hown hown2 hgrow hb1 hk1 hbl hrun hwhere hsz2 hb2
  go_wp2_with (at_builtin; refine wpList_app rfl _ _ _ _ rfl rfl rfl _ _ HRUN.out ?_)
  go_wp2_with fail
  go_ret
  exact ⟨rfl, HF.out, HBE.out, HSS.out, HKE.out⟩

set_option maxHeartbeats 2000000 in
set_option maxRecDepth 100000 in
theorem WriteString_o (H b : Nat) (l : List UInt8) (s : List UInt8) (hs : s ≠ []) (w : World) (h : BldAt H b l w) (hlen : l.length + s.length ≤ 140737488355328) (hH : H ≤ w.heap.size) :
    Calls Tryz.prog 78 #[.pointer (some ⟨b, 0, none⟩), .string (S s)] w fun e w' => e = .returned (.tuple #[.int .i64 (s.length : Int), .nilIface]) ∧ BldAt H b (l ++ s) w' ∧ Below H w w' ∧ w.heap.size ≤ w'.heap.size ∧ KeepsB b w w' := by
  obtain ⟨i0, hi, hz0, hz1, hz2⟩ := info_parts info8
  have hss0 : (S s).size = s.length := S_size s
  have hs0 : 0 < s.length := List.length_pos_iff.2 hs
  have hsc : Lib.strCells (S s) = Lib.byteCells s := by simp [Lib.strCells, Lib.byteCells, S]
  have hbl : (Lib.byteCells l).length = l.length := Lib.byteCells_length l
  have HC := Lib.hid (copyCheck_o H b l w h)
  clear h
  go_enter Tryz.func78, Tryz.ntmps78
  go_wp2_with fail
  refine HC.out.mono ?_
  rintro e w1 ⟨rfl, ⟨hB, v, hbk, hown, hne⟩, hb1, hsz1, hk1⟩
  have c0 : w1.cell? ⟨b, 0, none⟩ = some (.pointer (some ⟨b, 0, none⟩)) := by rw [Lib.cell_of_heap hbk]; rfl
  have c1 : w1.cell? ⟨b, 1, none⟩ = some v := by rw [Lib.cell_of_heap hbk]; rfl
  have hlt : b < w1.heap.size := lt_of_heapV hbk
  rw [hbl] at hown
  obtain ⟨v2, w2, hrun, hown2, hgrow, hwhere⟩ := app_string H v l.length (Lib.byteCells l) w1 hown (S s) (by rw [hss0]; omega) (by rw [hss0]; omega) (by omega)
  rw [hsc, hss0] at hown2
  have hb2 : w2.heap[b]? = some (.cells #[.pointer (some ⟨b, 0, none⟩), v] 80 (0, 0)) := by
    rw [hgrow.block b hlt (fun e => hne e.symm)]
    exact hbk
  have d1 : w2.cell? ⟨b, 1, none⟩ = some v := by rw [Lib.cell_of_heap hb2]; rfl
  have hsz2 := hgrow.size
  have f1 : w2.frozen? ⟨b, 1, none⟩ = false := Lib.frozen_of_heap hb2 1
  obtain ⟨g, cap, rfl⟩ : ∃ g cap, v2 = .slice (some ⟨g, 0, none⟩) (l.length + s.length) cap := by
    rcases hown2.2 with ⟨_, h0⟩ | ⟨g, cap, cur, fz, hv, _⟩
    · omega
    · exact ⟨g, cap, hv⟩
  have hfin : BldAt H b (l ++ s) (w2.setCell ⟨b, 1, none⟩ (.slice (some ⟨g, 0, none⟩) (l.length + s.length) cap)) := by
    refine Or.inr (Lib.BuilderAtF.put (T := 80) (e := 5) hB hb2 (bs' := Lib.byteCells (l ++ s)) ?_ Tryz.Builder_Extra_156.neB5)
    rw [Lib.byteCells_append, List.length_append, hbl, Lib.byteCells_length]
    exact hown2
  have hbel : Below H w (w2.setCell ⟨b, 1, none⟩ (.slice (some ⟨g, 0, none⟩) (l.length + s.length) cap)) :=
    (hb1.grown hgrow (by omega) (fun k hk => (hown.lt k hk).1)).setCell (p := ⟨b, 1, none⟩) hB _
  have hs2 : w1.heap.size ≤ w2.heap.size := hgrow.size
  have hkeep : KeepsB b w (w2.setCell ⟨b, 1, none⟩ (.slice (some ⟨g, 0, none⟩) (l.length + s.length) cap)) := by
    intro r hr
    obtain ⟨e1, n1, n2, p, v', n3, n4⟩ := hk1 r hr
    rw [hbk] at n3
    obtain ⟨rfl, rfl⟩ : (Value.pointer (some ⟨b, 0, none⟩)) = p ∧ v = v' := by simpa using n3
    have hr2 : w2.heap[r]? = w1.heap[r]? := by rw [hgrow.block r n2 (fun e => n4 e.symm)]
    refine ⟨by rw [Below.heap_setCell _ _ _ _ n1, hr2, e1], n1, by simp [World.setCell]; omega, .pointer (some ⟨b, 0, none⟩), .slice (some ⟨g, 0, none⟩) (l.length + s.length) cap, by simp [World.setCell, Array.getElem?_modify, hb2], ?_⟩
    intro eg
    have eg' : g = r := by simpa [Value.ownBlock] using eg
    subst eg'
    rcases hwhere with e | ⟨g', e, hg'⟩
    · exact n4 (by rw [← e]; rfl)
    · have : g = g' := by simpa [Value.ownBlock] using e
      omega
  have hss : w.heap.size ≤ (w2.setCell ⟨b, 1, none⟩ (.slice (some ⟨g, 0, none⟩) (l.length + s.length) cap)).heap.size := by simp [World.setCell]; omega
  have HF := Lib.hid hfin
  have HBE := Lib.hid hbel
  have HKE := Lib.hid hkeep
  have HSS := Lib.hid hss
  have HRUN := Lib.hid hrun
  clear hfin hbel hkeep hss hown hown2 hgrow hb1 hk1 hbl hrun hwhere hsz2 hb2 hsc
  go_wp2_with (at_builtin; refine wpList_app rfl _ _ _ _ rfl rfl rfl _ _ HRUN.out ?_)
  go_wp2_with fail
  go_ret2
  exact ⟨rfl, HF.out, HBE.out, HSS.out, HKE.out⟩

end Go.Proofs.YtjndgfppjdobiaaGreatDoor.Va
