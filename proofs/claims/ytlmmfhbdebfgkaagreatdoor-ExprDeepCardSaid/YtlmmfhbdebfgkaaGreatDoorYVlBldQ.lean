/-
  VlBld, VlQuote.
-/
import Derived.Test.YtlmmfhbdebfgkaaGreatDoorYVaOrderQ
namespace Go.Proofs.YtlmmfhbdebfgkaaGreatDoor.Va
open Go.RowKit
def Away (b r : Nat) (w : World) : Prop := r ≠ b ∧ r < w.heap.size ∧ ∃ p v, w.heap[b]? = some (.cells #[p, v] 69 (0, 0)) ∧ v.ownBlock ≠ some r
def KeepsB (b : Nat) (w w' : World) : Prop := ∀ r, Away b r w → w'.heap[r]? = w.heap[r]? ∧ Away b r w'
def BldAt (H b : Nat) (l : List UInt8) (w : World) : Prop := Lib.IsBuilderF 69 5 H b (Lib.byteCells l) w
theorem copyCheck_o (H b : Nat) (l : List UInt8) (w : World) (h : BldAt H b l w) :
    Calls Tryz.prog 65 #[.pointer (some ⟨b, 0, none⟩)] w fun e w' => e = .returned (.tuple #[]) ∧ Lib.BuilderAtF 69 5 H b (.pointer (some ⟨b, 0, none⟩)) (Lib.byteCells l) w' ∧ Below H w w' ∧ w.heap.size ≤ w'.heap.size ∧ KeepsB b w w' := by
  rcases h with h | h
  · refine (Any.Builder_copyCheck_fresh { Tryz.lays156 with } Tryz.Builder_Extra_156.toX72 b w h.cell0 h.shape h.frozen0).mono ?_
    rintro e w' ⟨rfl, rfl⟩
    refine ⟨rfl, h.used _, (Below.refl H w).setCell (p := ⟨b, 0, none⟩) h.1 _, by simp [World.setCell], ?_⟩
    rintro r ⟨h1, h2, p, v, h3, h4⟩
    refine ⟨Below.heap_setCell _ _ _ _ h1, h1, by simpa [World.setCell] using h2, .pointer (some ⟨b, 0, none⟩), v, ?_, h4⟩
    simp [World.setCell, Array.getElem?_modify, h3]
  · refine (Any.Builder_copyCheck_used { Tryz.lays156 with } Tryz.Builder_Extra_156.toX72 b w h.cell0).mono ?_
    rintro e w' ⟨rfl, rfl⟩
    exact ⟨rfl, h, Below.refl H _, Nat.le_refl _, fun r hr => ⟨rfl, hr⟩⟩
set_option maxHeartbeats 2000000 in
set_option maxRecDepth 100000 in
theorem WriteByte_o (H b : Nat) (l : List UInt8) (c : UInt8) (w : World) (h : BldAt H b l w) (hlen : l.length + 1 ≤ 140737488355328) (hH : H ≤ w.heap.size) :
    Calls Tryz.prog 156 #[.pointer (some ⟨b, 0, none⟩), .int .u8 (c.toNat : Int)] w fun e w' => e = .returned .nilIface ∧ BldAt H b (l ++ [c]) w' ∧ Below H w w' ∧ w.heap.size ≤ w'.heap.size ∧ KeepsB b w w' := by
  obtain ⟨i0, hi, hz0, hz1, hz2⟩ := info_parts info8
  have hbl : (Lib.byteCells l).length = l.length := Lib.byteCells_length l
  have HC := Lib.hid (copyCheck_o H b l w h)
  clear h
  go_enter Tryz.func156, Tryz.ntmps156
  go_wp2_with fail
  refine HC.out.mono ?_
  rintro e w1 ⟨rfl, ⟨hB, v, hbk, hown, hne⟩, hb1, hsz1, hk1⟩
  have c0 : w1.cell? ⟨b, 0, none⟩ = some (.pointer (some ⟨b, 0, none⟩)) := by rw [Lib.cell_of_heap hbk]; rfl
  have c1 : w1.cell? ⟨b, 1, none⟩ = some v := by rw [Lib.cell_of_heap hbk]; rfl
  have hlt : b < w1.heap.size := lt_of_heapV hbk
  rw [hbl] at hown
  obtain ⟨v2, w2, hrun, hown2, hgrow, hwhere⟩ := app_byte H v l.length (Lib.byteCells l) (w1.alloc (.cells #[.int .u8 (c.toNat : Int)] 5)) (hown.alloc _) ⟨w1.heap.size, 0, none⟩ (c.toNat : Int) (by simp) rfl hlen (by simp; omega)
  have hb2 : w2.heap[b]? = some (.cells #[.pointer (some ⟨b, 0, none⟩), v] 69 (0, 0)) := by
    rw [hgrow.block b (by simp; omega) (fun e => hne e.symm), Below.heap_alloc _ _ _ hlt]
    exact hbk
  have d1 : w2.cell? ⟨b, 1, none⟩ = some v := by rw [Lib.cell_of_heap hb2]; rfl
  have hsz2 := hgrow.size
  have f1 : w2.frozen? ⟨b, 1, none⟩ = false := Lib.frozen_of_heap hb2 1
  obtain ⟨g, cap, rfl⟩ : ∃ g cap, v2 = .slice (some ⟨g, 0, none⟩) (l.length + 1) cap := by
    rcases hown2.2 with ⟨_, h0⟩ | ⟨g, cap, cur, fz, hv, _⟩
    · omega
    · exact ⟨g, cap, hv⟩
  have hfin : BldAt H b (l ++ [c]) (w2.setCell ⟨b, 1, none⟩ (.slice (some ⟨g, 0, none⟩) (l.length + 1) cap)) := by
    refine Or.inr (Lib.BuilderAtF.put (T := 69) (e := 5) hB hb2 (bs' := Lib.byteCells (l ++ [c])) ?_ Tryz.Builder_Extra_156.neB5)
    rw [Lib.byteCells_append, List.length_append, hbl]
    exact hown2
  have hbel : Below H w (w2.setCell ⟨b, 1, none⟩ (.slice (some ⟨g, 0, none⟩) (l.length + 1) cap)) :=
    ((hb1.alloc (by omega) _).grown hgrow (by simp; omega) (fun k hk => (hown.lt k hk).1)).setCell (p := ⟨b, 1, none⟩) hB _
  have hs2 : w1.heap.size + 1 ≤ w2.heap.size := by have := hgrow.size; simpa using this
  have hkeep : KeepsB b w (w2.setCell ⟨b, 1, none⟩ (.slice (some ⟨g, 0, none⟩) (l.length + 1) cap)) := by
    intro r hr
    obtain ⟨e1, n1, n2, p, v', n3, n4⟩ := hk1 r hr
    rw [hbk] at n3
    obtain ⟨rfl, rfl⟩ : (Value.pointer (some ⟨b, 0, none⟩)) = p ∧ v = v' := by simpa using n3
    have hr2 : w2.heap[r]? = w1.heap[r]? := by rw [hgrow.block r (by simp; omega) (fun e => n4 e.symm), Below.heap_alloc _ _ _ n2]
    refine ⟨by rw [Below.heap_setCell _ _ _ _ n1, hr2, e1], n1, by simp [World.setCell]; omega, .pointer (some ⟨b, 0, none⟩), .slice (some ⟨g, 0, none⟩) (l.length + 1) cap, by simp [World.setCell, Array.getElem?_modify, hb2], ?_⟩
    intro eg
    have eg' : g = r := by simpa [Value.ownBlock] using eg
    subst eg'
    rcases hwhere with e | ⟨g', e, hg'⟩
    · exact n4 (by rw [← e]; rfl)
    · have : g = g' := by simpa [Value.ownBlock] using e
      simp at hg'
      omega
  have hss : w.heap.size ≤ (w2.setCell ⟨b, 1, none⟩ (.slice (some ⟨g, 0, none⟩) (l.length + 1) cap)).heap.size := by simp [World.setCell]; omega
  have HF := Lib.hid hfin
  have HBE := Lib.hid hbel
  have HKE := Lib.hid hkeep
  have HSS := Lib.hid hss
  have HRUN := Lib.hid hrun
  clear hfin hbel hkeep hss hown hown2 hgrow hb1 hk1 hbl hrun hwhere hsz2 hb2
  go_wp2_with (at_builtin; refine wpList_app rfl _ _ _ _ rfl rfl rfl _ _ HRUN.out ?_)
  go_wp2_with fail
  go_ret
  exact ⟨rfl, HF.out, HBE.out, HSS.out, HKE.out⟩
set_option maxHeartbeats 2000000 in
set_option maxRecDepth 100000 in
theorem WriteString_o (H b : Nat) (l : List UInt8) (s : List UInt8) (hs : s ≠ []) (w : World) (h : BldAt H b l w) (hlen : l.length + s.length ≤ 140737488355328) (hH : H ≤ w.heap.size) :
    Calls Tryz.prog 38 #[.pointer (some ⟨b, 0, none⟩), .string (S s)] w fun e w' => e = .returned (.tuple #[.int .i64 (s.length : Int), .nilIface]) ∧ BldAt H b (l ++ s) w' ∧ Below H w w' ∧ w.heap.size ≤ w'.heap.size ∧ KeepsB b w w' := by
  obtain ⟨i0, hi, hz0, hz1, hz2⟩ := info_parts info8
  have hss0 : (S s).size = s.length := S_size s
  have hs0 : 0 < s.length := List.length_pos_iff.2 hs
  have hsc : Lib.strCells (S s) = Lib.byteCells s := by simp [Lib.strCells, Lib.byteCells, S]
  have hbl : (Lib.byteCells l).length = l.length := Lib.byteCells_length l
  have HC := Lib.hid (copyCheck_o H b l w h)
  clear h
  go_enter Tryz.func38, Tryz.ntmps38
  go_wp2_with fail
  refine HC.out.mono ?_
  rintro e w1 ⟨rfl, ⟨hB, v, hbk, hown, hne⟩, hb1, hsz1, hk1⟩
  have c0 : w1.cell? ⟨b, 0, none⟩ = some (.pointer (some ⟨b, 0, none⟩)) := by rw [Lib.cell_of_heap hbk]; rfl
  have c1 : w1.cell? ⟨b, 1, none⟩ = some v := by rw [Lib.cell_of_heap hbk]; rfl
  have hlt : b < w1.heap.size := lt_of_heapV hbk
  rw [hbl] at hown
  obtain ⟨v2, w2, hrun, hown2, hgrow, hwhere⟩ := app_string H v l.length (Lib.byteCells l) w1 hown (S s) (by rw [hss0]; omega) (by rw [hss0]; omega) (by omega)
  rw [hsc, hss0] at hown2
  have hb2 : w2.heap[b]? = some (.cells #[.pointer (some ⟨b, 0, none⟩), v] 69 (0, 0)) := by
    rw [hgrow.block b hlt (fun e => hne e.symm)]
    exact hbk
  have d1 : w2.cell? ⟨b, 1, none⟩ = some v := by rw [Lib.cell_of_heap hb2]; rfl
  have hsz2 := hgrow.size
  have f1 : w2.frozen? ⟨b, 1, none⟩ = false := Lib.frozen_of_heap hb2 1
  obtain ⟨g, cap, rfl⟩ : ∃ g cap, v2 = .slice (some ⟨g, 0, none⟩) (l.length + s.length) cap := by
    rcases hown2.2 with ⟨_, h0⟩ | ⟨g, cap, cur, fz, hv, _⟩
    · omega
    · exact ⟨g, cap, hv⟩
  have hfin : BldAt H b (l ++ s) (w2.setCell ⟨b, 1, none⟩ (.slice (some ⟨g, 0, none⟩) (l.length + s.length) cap)) := by
    refine Or.inr (Lib.BuilderAtF.put (T := 69) (e := 5) hB hb2 (bs' := Lib.byteCells (l ++ s)) ?_ Tryz.Builder_Extra_156.neB5)
    rw [Lib.byteCells_append, List.length_append, hbl, Lib.byteCells_length]
    exact hown2
  have hbel : Below H w (w2.setCell ⟨b, 1, none⟩ (.slice (some ⟨g, 0, none⟩) (l.length + s.length) cap)) :=
    (hb1.grown hgrow (by omega) (fun k hk => (hown.lt k hk).1)).setCell (p := ⟨b, 1, none⟩) hB _
  have hs2 : w1.heap.size ≤ w2.heap.size := hgrow.size
  have hkeep : KeepsB b w (w2.setCell ⟨b, 1, none⟩ (.slice (some ⟨g, 0, none⟩) (l.length + s.length) cap)) := by
    intro r hr
    obtain ⟨e1, n1, n2, p, v', n3, n4⟩ := hk1 r hr
    rw [hbk] at n3
    obtain ⟨rfl, rfl⟩ : (Value.pointer (some ⟨b, 0, none⟩)) = p ∧ v = v' := by simpa using n3
    have hr2 : w2.heap[r]? = w1.heap[r]? := by rw [hgrow.block r n2 (fun e => n4 e.symm)]
    refine ⟨by rw [Below.heap_setCell _ _ _ _ n1, hr2, e1], n1, by simp [World.setCell]; omega, .pointer (some ⟨b, 0, none⟩), .slice (some ⟨g, 0, none⟩) (l.length + s.length) cap, by simp [World.setCell, Array.getElem?_modify, hb2], ?_⟩
    intro eg
    have eg' : g = r := by simpa [Value.ownBlock] using eg
    subst eg'
    rcases hwhere with e | ⟨g', e, hg'⟩
    · exact n4 (by rw [← e]; rfl)
    · have : g = g' := by simpa [Value.ownBlock] using e
      omega
  have hss : w.heap.size ≤ (w2.setCell ⟨b, 1, none⟩ (.slice (some ⟨g, 0, none⟩) (l.length + s.length) cap)).heap.size := by simp [World.setCell]; omega
  have HF := Lib.hid hfin
  have HBE := Lib.hid hbel
  have HKE := Lib.hid hkeep
  have HSS := Lib.hid hss
  have HRUN := Lib.hid hrun
  clear hfin hbel hkeep hss hown hown2 hgrow hb1 hk1 hbl hrun hwhere hsz2 hb2 hsc
  go_wp2_with (at_builtin; refine wpList_app rfl _ _ _ _ rfl rfl rfl _ _ HRUN.out ?_)
  go_wp2_with fail
  go_ret2
  exact ⟨rfl, HF.out, HBE.out, HSS.out, HKE.out⟩
end Go.Proofs.YtlmmfhbdebfgkaaGreatDoor.Va
namespace Go.Proofs.YtlmmfhbdebfgkaaGreatDoor.Va
open Go.RowKit
theorem conv_away (w : World) (s : List UInt8) (H b : Nat) (l : List UInt8) (hb : BldAt H b l w) (hH : H ≤ w.heap.size) : ∃ (cap : Nat) (w2 : World),
    (convert 9 67 (.string (S s))).run Tryz.prog w = .ok (.slice (some ⟨w.heap.size, 0, none⟩) s.length cap) w2 ∧
    (∀ j, j < s.length → w2.cell? ⟨w.heap.size, j, none⟩ = some (.int .u8 ((s.getD j 0).toNat : Int))) ∧ Below H w w2 ∧ w.heap.size < w2.heap.size ∧ BldAt H b l w2 ∧ Away b w.heap.size w2 := by
  have hr := run_bytes_of_string (P := Tryz.prog) w 9 67 5 (S s) Tryz.underlying9 Tryz.underlying67 Tryz.underlying5
  rw [S_size] at hr
  have key : ∀ (cs : Array Value) (fr : Nat × Nat), BldAt H b l (w.drew.alloc (.cells cs 5 fr)) ∧ Away b w.heap.size (w.drew.alloc (.cells cs 5 fr)) := by
    intro cs fr
    have hd : BldAt H b l w.drew := hb
    have hal := hd.alloc (.cells cs 5 fr)
    refine ⟨hal, ?_⟩
    obtain ⟨p, hp⟩ : ∃ p, Lib.BuilderAtF 69 5 H b p (Lib.byteCells l) w := by
      rcases hb with h | h
      · exact ⟨_, h⟩
      · exact ⟨_, h⟩
    obtain ⟨_, v, h3, hown, _⟩ := hp
    have hlt := lt_of_heapV h3
    refine ⟨by omega, by simp, p, v, ?_, ?_⟩
    · rw [Below.heap_alloc _ _ _ (by exact hlt)]; exact h3
    · intro e
      have := (hown.lt _ e).2
      omega
  refine ⟨_, _, hr, ?_, ((Below.refl _ _).drew).alloc hH _, by simp, (key _ _).1, (key _ _).2⟩
  intro j hj
  generalize grownCap w s.length 0 5 = cap
  have h := bytesRow_at (S s) cap j (by show j < (S s).size; rw [S_size]; exact hj)
  have e : (w.drew.alloc (.cells (bytesRow (S s) cap) 5 ((bytesRow (S s) cap).size, (bytesRow (S s) cap).size + 1))).heap[w.heap.size]? = some (.cells (bytesRow (S s) cap) 5 ((bytesRow (S s) cap).size, (bytesRow (S s) cap).size + 1)) := by
    show (w.heap.push _)[w.heap.size]? = _
    simp
  simp only [World.cell?, e]
  rw [h]
  have hjd : j < (S s).data.size := by show j < (S s).size; rw [S_size]; exact hj
  simp [List.getD, hj, S]
structure QR (w w0 : World) (H r : Nat) (l t : List UInt8) (wr : World) : Prop where
  bld : BldAt H H l wr
  below : Below H w wr
  size : H ≤ wr.heap.size
  away : Away H r wr
  row : ∀ j, j < t.length → wr.cell? ⟨r, j, none⟩ = some (.int .u8 ((t.getD j 0).toNat : Int))
theorem QR.step {w w0 : World} {H r : Nat} {l t : List UInt8} {wr w' : World} {l' : List UInt8} (h : QR w w0 H r l t wr) (b : BldAt H H l' w') (be : Below H wr w') (hs : wr.heap.size ≤ w'.heap.size) (hk : KeepsB H wr w') : QR w w0 H r l' t w' := by
  obtain ⟨e1, n1⟩ := hk r h.away
  refine ⟨b, h.below.trans be, Nat.le_trans h.size hs, n1, fun j hj => ?_⟩
  have := h.row j hj
  unfold World.cell? at this ⊢
  simp only at this ⊢
  rw [e1]; exact this
theorem hex_get (k : Nat) (h : k < (⟨#[48, 49, 50, 51, 52, 53, 54, 55, 56, 57, 97, 98, 99, 100, 101, 102]⟩ : ByteArray).size) : (⟨#[48, 49, 50, 51, 52, 53, 54, 55, 56, 57, 97, 98, 99, 100, 101, 102]⟩ : ByteArray)[k]'h = hexC k := by
  have : ∀ i : Fin 16, HEX[i.val]'(by have := i.isLt; exact this) = hexC i.val := by decide
  exact this ⟨k, h⟩
set_option linter.unusedSimpArgs false
set_option maxRecDepth 100000 in
set_option maxHeartbeats 3200000 in
theorem quote_any (t : List UInt8) (ht : t.length ≤ 1000000) (w : World) :
    Calls Tryz.prog 115 #[.string (S t)] w fun e w' => e = .returned (.string (S (34 :: (escT t ++ [34])))) ∧ Below w.heap.size w w' := by
  have hts : (S t).size = t.length := S_size t
  have hti : (t.length : Int) ≤ 1000000 := by omega
  have HWB := Lib.hid (fun (l : List UInt8) (c : UInt8) (wr : World) (h : BldAt w.heap.size w.heap.size l wr) (hl : l.length ≤ 5000000) (hH : w.heap.size ≤ wr.heap.size) => WriteByte_o w.heap.size w.heap.size l c wr h (by omega) hH)
  have HWS := Lib.hid (fun (l : List UInt8) (wr : World) (h : BldAt w.heap.size w.heap.size l wr) (hl : l.length ≤ 5000000) (hH : w.heap.size ≤ wr.heap.size) => WriteString_o w.heap.size w.heap.size l [92, 120] (by simp) wr h (by simp; omega) hH)
  have HST := Lib.hid (fun (l : List UInt8) (wr : World) (h : BldAt w.heap.size w.heap.size l wr) (hH : w.heap.size ≤ wr.heap.size) => Tryz.Builder_String_any_k w.heap.size w.heap.size l wr h hH)
  have HB0 := Lib.hid (show BldAt w.heap.size w.heap.size [] (w.alloc (.cells #[.pointer none, .slice none 0 0] 69)) from Lib.IsBuilderF.of (Lib.fresh_isBuilder _ _ w))
  clear hts
  go_enter Tryz.func115, Tryz.ntmps115
  go_wp2_with fail
  refine (HWB.out [] 34 _ HB0.out (by simp) (by simp)).mono ?_
  rintro e w1 ⟨rfl, b1, be1, hs1, _⟩
  have hz1 : w.heap.size ≤ w1.heap.size := by simp at hs1; omega
  obtain ⟨cap, w2, hconv, hrow, hbel, hlt2, hb2, haw⟩ := conv_away w1 t w.heap.size w.heap.size [34] b1 hz1
  have HQ0 := Lib.hid (show QR w w w.heap.size w1.heap.size (34 :: escT (t.take 0)) t w2 from ⟨hb2, (((Below.refl w.heap.size w).alloc (Nat.le_refl _) _).trans be1).trans hbel, by omega, haw, hrow⟩)
  clear b1 be1 hs1 hrow hbel hb2 haw
  generalize w1.heap.size = r at *
  go_wp2_with fail
  clear hconv
  go_loopw [10] (fun i wr => ∃ k : Nat, k ≤ t.length ∧ i = .int .i64 k ∧ QR w w w.heap.size r (34 :: escT (t.take k)) t wr) (fun i _ => t.length - (intOf i).toNat)
  case atStart => exact ⟨0, by omega, rfl, HQ0.out⟩
  case round =>
    obtain ⟨k, hk, rfl, hq⟩ := hrel
    have HQ := Lib.hid hq
    have hbl := escT_len (t.take k)
    rw [List.length_take] at hbl
    have hbk : (escT (t.take k)).length ≤ 4000000 := by omega
    clear hbl
    by_cases hlt : k < t.length
    · have hki : (k : Int) < (t.length : Int) := by omega
      have p := hq.row k hlt
      have hsn := escT_snoc t k hlt
      have HSN := Lib.hid hsn
      have hcb := byte_lt (t.getD k 0)
      clear hsn hq
      generalize t.getD k 0 = c at *
      have HMK := Lib.hid (fun (wr' : World) (l' : List UInt8) (h : QR w w w.heap.size r l' t wr') (e : l' = (34 :: escT (t.take k)) ++ esc c) => show QR w w w.heap.size r (34 :: escT (t.take (k + 1))) t wr' from by rw [HSN.out, ← List.cons_append, ← e]; exact h)
      have hl1 : (34 :: escT (t.take k)).length ≤ 4000001 := by simp; omega
      generalize 34 :: escT (t.take k) = l0 at *
      by_cases hE : c = 34 ∨ c = 92
      · have hesc : esc c = [92, c] := by rcases hE with rfl | rfl <;> rfl
        have HESC := Lib.hid hesc
        clear hesc
        rcases hE with rfl | rfl
        · go_wp2_with fail
          refine (HWB.out l0 92 _ HQ.out.bld (by omega) HQ.out.size).mono ?_
          rintro e w3 ⟨rfl, b3, be3, hs3, hk3⟩
          have HQ3 := Lib.hid (HQ.out.step b3 be3 hs3 hk3)
          clear b3 be3 hs3 hk3
          go_wp2_with fail
          refine (HWB.out _ 34 _ HQ3.out.bld (by simp; omega) HQ3.out.size).mono ?_
          rintro e w4 ⟨rfl, b4, be4, hs4, hk4⟩
          have HQ4 := Lib.hid (HQ3.out.step b4 be4 hs4 hk4)
          clear b4 be4 hs4 hk4
          go_wp2_with fail
          go_roundw
          case rel => exact ⟨k + 1, by omega, by go_num, HMK.out _ _ HQ4.out (by rw [HESC.out]; simp)⟩
          case measure => simp [intOf]; omega
        · go_wp2_with fail
          refine (HWB.out l0 92 _ HQ.out.bld (by omega) HQ.out.size).mono ?_
          rintro e w3 ⟨rfl, b3, be3, hs3, hk3⟩
          have HQ3 := Lib.hid (HQ.out.step b3 be3 hs3 hk3)
          clear b3 be3 hs3 hk3
          go_wp2_with fail
          refine (HWB.out _ 92 _ HQ3.out.bld (by simp; omega) HQ3.out.size).mono ?_
          rintro e w4 ⟨rfl, b4, be4, hs4, hk4⟩
          have HQ4 := Lib.hid (HQ3.out.step b4 be4 hs4 hk4)
          clear b4 be4 hs4 hk4
          go_wp2_with fail
          go_roundw
          case rel => exact ⟨k + 1, by omega, by go_num, HMK.out _ _ HQ4.out (by rw [HESC.out]; simp)⟩
          case measure => simp [intOf]; omega
      · have n34 : ((c.toNat : Int) == 34) = false := by
          simp only [beq_eq_false_iff_ne, ne_eq]; intro e; exact hE (.inl (UInt8.toNat_inj.1 (show c.toNat = 34 by omega)))
        have n92 : ((c.toNat : Int) == 92) = false := by
          simp only [beq_eq_false_iff_ne, ne_eq]; intro e; exact hE (.inr (UInt8.toNat_inj.1 (show c.toNat = 92 by omega)))
        have hesc0 : esc c = if c < 32 || 126 < c then [92, 120, hexC (c.toNat / 16), hexC (c.toNat % 16)] else [c] := by
          unfold esc
          rw [if_neg (c := (c == 34 || c == 92) = true) (by simpa using hE)]
        by_cases hlo : c.toNat < 32
        · have hloi : (c.toNat : Int) < 32 := by omega
          have HESC := Lib.hid (show esc c = [92, 120, hexC (c.toNat / 16), hexC (c.toNat % 16)] by rw [hesc0, if_pos (by simp [UInt8.lt_iff_toNat_lt]; omega)])
          clear hE hesc0
          go_wp2_with fail
          refine (HWS.out l0 _ HQ.out.bld (by omega) HQ.out.size).mono ?_
          rintro e w3 ⟨rfl, b3, be3, hs3, hk3⟩
          have HQ3 := Lib.hid (HQ.out.step b3 be3 hs3 hk3)
          clear b3 be3 hs3 hk3
          go_wp2_with fail
          refine (HWB.out _ _ _ HQ3.out.bld (by simp; omega) HQ3.out.size).mono ?_
          rintro e w4 ⟨rfl, b4, be4, hs4, hk4⟩
          have HQ4 := Lib.hid (HQ3.out.step b4 be4 hs4 hk4)
          clear b4 be4 hs4 hk4
          go_wp2_with fail
          refine (HWB.out _ _ _ HQ4.out.bld (by simp; omega) HQ4.out.size).mono ?_
          rintro e w5 ⟨rfl, b5, be5, hs5, hk5⟩
          have HQ5 := Lib.hid (HQ4.out.step b5 be5 hs5 hk5)
          clear b5 be5 hs5 hk5
          go_wp2_with fail
          go_roundw
          case rel => exact ⟨k + 1, by omega, by go_num, HMK.out _ _ HQ5.out (by rw [HESC.out]; simp [hex_get])⟩
          case measure => simp [intOf]; omega
        · have hnlo : ¬ (c.toNat : Int) < 32 := by omega
          by_cases hhi : 126 < c.toNat
          · have hhii : (126 : Int) < (c.toNat : Int) := by omega
            have HESC := Lib.hid (show esc c = [92, 120, hexC (c.toNat / 16), hexC (c.toNat % 16)] by rw [hesc0, if_pos (by simp [UInt8.lt_iff_toNat_lt]; omega)])
            clear hE hesc0
            go_wp2_with fail
            refine (HWS.out l0 _ HQ.out.bld (by omega) HQ.out.size).mono ?_
            rintro e w3 ⟨rfl, b3, be3, hs3, hk3⟩
            have HQ3 := Lib.hid (HQ.out.step b3 be3 hs3 hk3)
            clear b3 be3 hs3 hk3
            go_wp2_with fail
            refine (HWB.out _ _ _ HQ3.out.bld (by simp; omega) HQ3.out.size).mono ?_
            rintro e w4 ⟨rfl, b4, be4, hs4, hk4⟩
            have HQ4 := Lib.hid (HQ3.out.step b4 be4 hs4 hk4)
            clear b4 be4 hs4 hk4
            go_wp2_with fail
            refine (HWB.out _ _ _ HQ4.out.bld (by simp; omega) HQ4.out.size).mono ?_
            rintro e w5 ⟨rfl, b5, be5, hs5, hk5⟩
            have HQ5 := Lib.hid (HQ4.out.step b5 be5 hs5 hk5)
            clear b5 be5 hs5 hk5
            go_wp2_with fail
            go_roundw
            case rel => exact ⟨k + 1, by omega, by go_num, HMK.out _ _ HQ5.out (by rw [HESC.out]; simp [hex_get])⟩
            case measure => simp [intOf]; omega
          · have hnhi : ¬ (126 : Int) < (c.toNat : Int) := by omega
            have HESC := Lib.hid (show esc c = [c] by rw [hesc0, if_neg (by simp [UInt8.lt_iff_toNat_lt]; omega)])
            clear hE hesc0
            go_wp2_with fail
            refine (HWB.out l0 c _ HQ.out.bld (by omega) HQ.out.size).mono ?_
            rintro e w3 ⟨rfl, b3, be3, hs3, hk3⟩
            have HQ3 := Lib.hid (HQ.out.step b3 be3 hs3 hk3)
            clear b3 be3 hs3 hk3
            go_wp2_with fail
            go_roundw
            case rel => exact ⟨k + 1, by omega, by go_num, HMK.out _ _ HQ3.out (by rw [HESC.out])⟩
            case measure => simp [intOf]; omega
    · obtain rfl : k = t.length := by omega
      have hql : QR w w w.heap.size r (34 :: escT t) t wr := by rw [List.take_length] at hq; exact hq
      have HQL := Lib.hid hql
      rw [List.take_length] at hbk
      clear hq hql HQ
      go_wp2_with fail
      refine (HWB.out (34 :: escT t) 34 _ HQL.out.bld (by simp; omega) HQL.out.size).mono ?_
      rintro e w3 ⟨rfl, b3, be3, hs3, hk3⟩
      have HQ3 := Lib.hid (HQL.out.step b3 be3 hs3 hk3)
      clear b3 be3 hs3 hk3
      go_wp2_with fail
      refine (HST.out _ _ HQ3.out.bld HQ3.out.size).mono ?_
      rintro e w4 ⟨rfl, _, be4, _⟩
      have HB4 := Lib.hid (HQ3.out.below.trans be4)
      clear be4
      go_wp2_with fail
      go_ret
      exact ⟨ret_s (by unfold S; simp), HB4.out⟩
end Go.Proofs.YtlmmfhbdebfgkaaGreatDoor.Va
