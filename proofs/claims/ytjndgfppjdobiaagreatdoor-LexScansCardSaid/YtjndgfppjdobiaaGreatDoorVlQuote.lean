/-
  The program's values: the text of a Text.
-/
import Derived.Test.YtjndgfppjdobiaaGreatDoorVlBld
namespace Go.Proofs.YtjndgfppjdobiaaGreatDoor.Va
open Go.RowKit

theorem conv_away (w : World) (s : List UInt8) (H b : Nat) (l : List UInt8) (hb : BldAt H b l w) (hH : H ≤ w.heap.size) : ∃ (cap : Nat) (w2 : World),
    (convert 9 72 (.string (S s))).run Tryz.prog w = .ok (.slice (some ⟨w.heap.size, 0, none⟩) s.length cap) w2 ∧
    (∀ j, j < s.length → w2.cell? ⟨w.heap.size, j, none⟩ = some (.int .u8 ((s.getD j 0).toNat : Int))) ∧ Below H w w2 ∧ w.heap.size < w2.heap.size ∧ BldAt H b l w2 ∧ Away b w.heap.size w2 := by
  have hr := run_bytes_of_string (P := Tryz.prog) w 9 72 5 (S s) Tryz.underlying9 Tryz.underlying72 Tryz.underlying5
  rw [S_size] at hr
  have key : ∀ (cs : Array Value) (fr : Nat × Nat), BldAt H b l (w.drew.alloc (.cells cs 5 fr)) ∧ Away b w.heap.size (w.drew.alloc (.cells cs 5 fr)) := by
    intro cs fr
    have hd : BldAt H b l w.drew := hb
    have hal := hd.alloc (.cells cs 5 fr)
    refine ⟨hal, ?_⟩
    obtain ⟨p, hp⟩ : ∃ p, Lib.BuilderAtF 80 5 H b p (Lib.byteCells l) w := by
      rcases hb with h | h
      · exact ⟨_, h⟩
      · exact ⟨_, h⟩
    obtain ⟨_, v, h3, hown, _⟩ := hp
    have hlt := lt_of_heapV h3
    refine ⟨by omega, by simp, p, v, ?_, ?_⟩
    · rw [Below.heap_alloc _ _ _ (by exact hlt)]; exact h3
    · intro e
      have := (hown.lt _ e).2
      omega
  refine ⟨_, _, hr, ?_, ((Below.refl _ _).drew).alloc hH _, by simp, (key _ _).1, (key _ _).2⟩
  intro j hj
  generalize grownCap w s.length 0 5 = cap
  have h := bytesRow_at (S s) cap j (by show j < (S s).size; rw [S_size]; exact hj)
  have e : (w.drew.alloc (.cells (bytesRow (S s) cap) 5 ((bytesRow (S s) cap).size, (bytesRow (S s) cap).size + 1))).heap[w.heap.size]? = some (.cells (bytesRow (S s) cap) 5 ((bytesRow (S s) cap).size, (bytesRow (S s) cap).size + 1)) := by
    show (w.heap.push _)[w.heap.size]? = _
    simp
  simp only [World.cell?, e]
  rw [h]
  have hjd : j < (S s).data.size := by show j < (S s).size; rw [S_size]; exact hj
  simp [List.getD, hj, S]

/-- What a round of the loop keeps. -/
structure QR (w w0 : World) (H r : Nat) (l t : List UInt8) (wr : World) : Prop where
  bld : BldAt H H l wr
  below : Below H w wr
  size : H ≤ wr.heap.size
  away : Away H r wr
  row : ∀ j, j < t.length → wr.cell? ⟨r, j, none⟩ = some (.int .u8 ((t.getD j 0).toNat : Int))
theorem QR.step {w w0 : World} {H r : Nat} {l t : List UInt8} {wr w' : World} {l' : List UInt8} (h : QR w w0 H r l t wr) (b : BldAt H H l' w') (be : Below H wr w') (hs : wr.heap.size ≤ w'.heap.size) (hk : KeepsB H wr w') : QR w w0 H r l' t w' := by
  obtain ⟨e1, n1⟩ := hk r h.away
  refine ⟨b, h.below.trans be, Nat.le_trans h.size hs, n1, fun j hj => ?_⟩
  have := h.row j hj
  unfold World.cell? at this ⊢
  simp only at this ⊢
  rw [e1]; exact this

theorem hex_get (k : Nat) (h : k < (⟨#[48, 49, 50, 51, 52, 53, 54, 55, 56, 57, 97, 98, 99, 100, 101, 102]⟩ : ByteArray).size) : (⟨#[48, 49, 50, 51, 52, 53, 54, 55, 56, 57, 97, 98, 99, 100, 101, 102]⟩ : ByteArray)[k]'h = hexC k := by
  have : ∀ i : Fin 16, HEX[i.val]'(by have := i.isLt; exact this) = hexC i.val := by decide
  exact this ⟨k, h⟩
set_option linter.unusedSimpArgs false
set_option maxRecDepth 100000 in
set_option maxHeartbeats 3200000 in
theorem quote_any (t : List UInt8) (ht : t.length ≤ 1000000) (w : World) :
    Calls Tryz.prog 59 #[.string (S t)] w fun e w' => e = .returned (.string (S (34 :: (escT t ++ [34])))) ∧ Below w.heap.size w w' := by
  have hts : (S t).size = t.length := S_size t
  have hti : (t.length : Int) ≤ 1000000 := by omega
  have HWB := Lib.hid (fun (l : List UInt8) (c : UInt8) (wr : World) (h : BldAt w.heap.size w.heap.size l wr) (hl : l.length ≤ 5000000) (hH : w.heap.size ≤ wr.heap.size) => WriteByte_o w.heap.size w.heap.size l c wr h (by omega) hH)
  have HWS := Lib.hid (fun (l : List UInt8) (wr : World) (h : BldAt w.heap.size w.heap.size l wr) (hl : l.length ≤ 5000000) (hH : w.heap.size ≤ wr.heap.size) => WriteString_o w.heap.size w.heap.size l [92, 120] (by simp) wr h (by simp; omega) hH)
  have HST := Lib.hid (fun (l : List UInt8) (wr : World) (h : BldAt w.heap.size w.heap.size l wr) (hH : w.heap.size ≤ wr.heap.size) => Tryz.Builder_String_any_k w.heap.size w.heap.size l wr h hH)
  have HB0 := Lib.hid (show BldAt w.heap.size w.heap.size [] (w.alloc (.cells #[.pointer none, .slice none 0 0] 80)) from Lib.IsBuilderF.of (Lib.fresh_isBuilder _ _ w))
  clear hts
  go_enter Tryz.func59, Tryz.ntmps59
  go_wp2_with fail
  refine (HWB.out [] 34 _ HB0.out (by simp) (by simp)).mono ?_
  rintro e w1 ⟨rfl, b1, be1, hs1, _⟩
  have hz1 : w.heap.size ≤ w1.heap.size := by simp at hs1; omega
  obtain ⟨cap, w2, hconv, hrow, hbel, hlt2, hb2, haw⟩ := conv_away w1 t w.heap.size w.heap.size [34] b1 hz1
  have HQ0 := Lib.hid (show QR w w w.heap.size w1.heap.size (34 :: escT (t.take 0)) t w2 from ⟨hb2, (((Below.refl w.heap.size w).alloc (Nat.le_refl _) _).trans be1).trans hbel, by omega, haw, hrow⟩)
  clear b1 be1 hs1 hrow hbel hb2 haw
  generalize w1.heap.size = r at *
  go_wp2_with fail
  clear hconv
  go_loopw [10] (fun i wr => ∃ k : Nat, k ≤ t.length ∧ i = .int .i64 k ∧ QR w w w.heap.size r (34 :: escT (t.take k)) t wr) (fun i _ => t.length - (intOf i).toNat)
  case atStart => exact ⟨0, by omega, rfl, HQ0.out⟩
  case round =>
    obtain ⟨k, hk, rfl, hq⟩ := hrel
    have HQ := Lib.hid hq
    have hbl := escT_len (t.take k)
    rw [List.length_take] at hbl
    have hbk : (escT (t.take k)).length ≤ 4000000 := by omega
    clear hbl
    by_cases hlt : k < t.length
    · have hki : (k : Int) < (t.length : Int) := by omega
      have p := hq.row k hlt
      have hsn := escT_snoc t k hlt
      have HSN := Lib.hid hsn
      have hcb := byte_lt (t.getD k 0)
      clear hsn hq
      generalize t.getD k 0 = c at *
      have HMK := Lib.hid (fun (wr' : World) (l' : List UInt8) (h : QR w w w.heap.size r l' t wr') (e : l' = (34 :: escT (t.take k)) ++ esc c) => show QR w w w.heap.size r (34 :: escT (t.take (k + 1))) t wr' from by rw [HSN.out, ← List.cons_append, ← e]; exact h)
      have hl1 : (34 :: escT (t.take k)).length ≤ 4000001 := by simp; omega
      generalize 34 :: escT (t.take k) = l0 at *
      by_cases hE : c = 34 ∨ c = 92
      · have hesc : esc c = [92, c] := by rcases hE with rfl | rfl <;> rfl
        have HESC := Lib.hid hesc
        clear hesc
        rcases hE with rfl | rfl
        · go_wp2_with fail
          refine (HWB.out l0 92 _ HQ.out.bld (by omega) HQ.out.size).mono ?_
          rintro e w3 ⟨rfl, b3, be3, hs3, hk3⟩
          have HQ3 := Lib.hid (HQ.out.step b3 be3 hs3 hk3)
          clear b3 be3 hs3 hk3
          go_wp2_with fail
          refine (HWB.out _ 34 _ HQ3.out.bld (by simp; omega) HQ3.out.size).mono ?_
          rintro e w4 ⟨rfl, b4, be4, hs4, hk4⟩
          have HQ4 := Lib.hid (HQ3.out.step b4 be4 hs4 hk4)
          clear b4 be4 hs4 hk4
          go_wp2_with fail
          go_roundw
          case rel => exact ⟨k + 1, by omega, by go_num, HMK.out _ _ HQ4.out (by rw [HESC.out]; simp)⟩
          case measure => simp [intOf]; omega
        · go_wp2_with fail
          refine (HWB.out l0 92 _ HQ.out.bld (by omega) HQ.out.size).mono ?_
          rintro e w3 ⟨rfl, b3, be3, hs3, hk3⟩
          have HQ3 := Lib.hid (HQ.out.step b3 be3 hs3 hk3)
          clear b3 be3 hs3 hk3
          go_wp2_with fail
          refine (HWB.out _ 92 _ HQ3.out.bld (by simp; omega) HQ3.out.size).mono ?_
          rintro e w4 ⟨rfl, b4, be4, hs4, hk4⟩
          have HQ4 := Lib.hid (HQ3.out.step b4 be4 hs4 hk4)
          clear b4 be4 hs4 hk4
          go_wp2_with fail
          go_roundw
          case rel => exact ⟨k + 1, by omega, by go_num, HMK.out _ _ HQ4.out (by rw [HESC.out]; simp)⟩
          case measure => simp [intOf]; omega
      · have n34 : ((c.toNat : Int) == 34) = false := by
          simp only [beq_eq_false_iff_ne, ne_eq]; intro e; exact hE (.inl (UInt8.toNat_inj.1 (show c.toNat = 34 by omega)))
        have n92 : ((c.toNat : Int) == 92) = false := by
          simp only [beq_eq_false_iff_ne, ne_eq]; intro e; exact hE (.inr (UInt8.toNat_inj.1 (show c.toNat = 92 by omega)))
        have hesc0 : esc c = if c < 32 || 126 < c then [92, 120, hexC (c.toNat / 16), hexC (c.toNat % 16)] else [c] := by
          unfold esc
          rw [if_neg (c := (c == 34 || c == 92) = true) (by simpa using hE)]
        by_cases hlo : c.toNat < 32
        · have hloi : (c.toNat : Int) < 32 := by omega
          have HESC := Lib.hid (show esc c = [92, 120, hexC (c.toNat / 16), hexC (c.toNat % 16)] by rw [hesc0, if_pos (by simp [UInt8.lt_iff_toNat_lt]; omega)])
          clear hE hesc0
          go_wp2_with fail
          refine (HWS.out l0 _ HQ.out.bld (by omega) HQ.out.size).mono ?_
          rintro e w3 ⟨rfl, b3, be3, hs3, hk3⟩
          have HQ3 := Lib.hid (HQ.out.step b3 be3 hs3 hk3)
          clear b3 be3 hs3 hk3
          go_wp2_with fail
          refine (HWB.out _ _ _ HQ3.out.bld (by simp; omega) HQ3.out.size).mono ?_
          rintro e w4 ⟨rfl, b4, be4, hs4, hk4⟩
          have HQ4 := Lib.hid (HQ3.out.step b4 be4 hs4 hk4)
          clear b4 be4 hs4 hk4
          go_wp2_with fail
          refine (HWB.out _ _ _ HQ4.out.bld (by simp; omega) HQ4.out.size).mono ?_
          rintro e w5 ⟨rfl, b5, be5, hs5, hk5⟩
          have HQ5 := Lib.hid (HQ4.out.step b5 be5 hs5 hk5)
          clear b5 be5 hs5 hk5
          go_wp2_with fail
          go_roundw
          case rel => exact ⟨k + 1, by omega, by go_num, HMK.out _ _ HQ5.out (by rw [HESC.out]; simp [hex_get])⟩
          case measure => simp [intOf]; omega
        · have hnlo : ¬ (c.toNat : Int) < 32 := by omega
          by_cases hhi : 126 < c.toNat
          · have hhii : (126 : Int) < (c.toNat : Int) := by omega
            have HESC := Lib.hid (show esc c = [92, 120, hexC (c.toNat / 16), hexC (c.toNat % 16)] by rw [hesc0, if_pos (by simp [UInt8.lt_iff_toNat_lt]; omega)])
            clear hE hesc0
            go_wp2_with fail
            refine (HWS.out l0 _ HQ.out.bld (by omega) HQ.out.size).mono ?_
            rintro e w3 ⟨rfl, b3, be3, hs3, hk3⟩
            have HQ3 := Lib.hid (HQ.out.step b3 be3 hs3 hk3)
            clear b3 be3 hs3 hk3
            go_wp2_with fail
            refine (HWB.out _ _ _ HQ3.out.bld (by simp; omega) HQ3.out.size).mono ?_
            rintro e w4 ⟨rfl, b4, be4, hs4, hk4⟩
            have HQ4 := Lib.hid (HQ3.out.step b4 be4 hs4 hk4)
            clear b4 be4 hs4 hk4
            go_wp2_with fail
            refine (HWB.out _ _ _ HQ4.out.bld (by simp; omega) HQ4.out.size).mono ?_
            rintro e w5 ⟨rfl, b5, be5, hs5, hk5⟩
            have HQ5 := Lib.hid (HQ4.out.step b5 be5 hs5 hk5)
            clear b5 be5 hs5 hk5
            go_wp2_with fail
            go_roundw
            case rel => exact ⟨k + 1, by omega, by go_num, HMK.out _ _ HQ5.out (by rw [HESC.out]; simp [hex_get])⟩
            case measure => simp [intOf]; omega
          · have hnhi : ¬ (126 : Int) < (c.toNat : Int) := by omega
            have HESC := Lib.hid (show esc c = [c] by rw [hesc0, if_neg (by simp [UInt8.lt_iff_toNat_lt]; omega)])
            clear hE hesc0
            go_wp2_with fail
            refine (HWB.out l0 c _ HQ.out.bld (by omega) HQ.out.size).mono ?_
            rintro e w3 ⟨rfl, b3, be3, hs3, hk3⟩
            have HQ3 := Lib.hid (HQ.out.step b3 be3 hs3 hk3)
            clear b3 be3 hs3 hk3
            go_wp2_with fail
            go_roundw
            case rel => exact ⟨k + 1, by omega, by go_num, HMK.out _ _ HQ3.out (by rw [HESC.out])⟩
            case measure => simp [intOf]; omega
    · obtain rfl : k = t.length := by omega
      have hql : QR w w w.heap.size r (34 :: escT t) t wr := by rw [List.take_length] at hq; exact hq
      have HQL := Lib.hid hql
      rw [List.take_length] at hbk
      clear hq hql HQ
      go_wp2_with fail
      refine (HWB.out (34 :: escT t) 34 _ HQL.out.bld (by simp; omega) HQL.out.size).mono ?_
      rintro e w3 ⟨rfl, b3, be3, hs3, hk3⟩
      have HQ3 := Lib.hid (HQL.out.step b3 be3 hs3 hk3)
      clear b3 be3 hs3 hk3
      go_wp2_with fail
      refine (HST.out _ _ HQ3.out.bld HQ3.out.size).mono ?_
      rintro e w4 ⟨rfl, _, be4, _⟩
      have HB4 := Lib.hid (HQ3.out.below.trans be4)
      clear be4
      go_wp2_with fail
      go_ret
      exact ⟨ret_s (by unfold S; simp), HB4.out⟩

end Go.Proofs.YtjndgfppjdobiaaGreatDoor.Va
