/-
  VlQuote, VlPrint, VlKey, VlTwin.
-/
import Derived.Test.YtlmmfhbdebfgkaaGreatDoorVShelfQ
import Derived.Test.YtlmmfhbdebfgkaaGreatDoorVVaPrintBQ
import Derived.Lib.AppendIntMem
import Derived.WalkSpells
set_option linter.unusedVariables false
set_option linter.unusedSimpArgs false
set_option maxRecDepth 100000
set_option maxHeartbeats 3200000
namespace Go.Proofs.YtlmmfhbdebfgkaaGreatDoor.Va
open Go.RowKit
theorem conv_away (w : World) (s : List UInt8) (H b : Nat) (l : List UInt8) (hb : BldAt H b l w) (hH : H ≤ w.heap.size) : ∃ (cap : Nat) (w2 : World),
    (convert 9 67 (.string (S s))).run Tryz.prog w = .ok (.slice (some ⟨w.heap.size, 0, none⟩) s.length cap) w2 ∧
    (∀ j, j < s.length → w2.cell? ⟨w.heap.size, j, none⟩ = some (.int .u8 ((s.getD j 0).toNat : Int))) ∧ Below H w w2 ∧ w.heap.size < w2.heap.size ∧ BldAt H b l w2 ∧ Away b w.heap.size w2 := by
  have hr := run_bytes_of_string (P := Tryz.prog) w 9 67 5 (S s) Tryz.underlying9 Tryz.underlying67 Tryz.underlying5
  rw [S_size] at hr
  have key : ∀ (cs : Array Value) (fr : Nat × Nat), BldAt H b l (w.drew.alloc (.cells cs 5 fr)) ∧ Away b w.heap.size (w.drew.alloc (.cells cs 5 fr)) := by
    intro cs fr
    have hd : BldAt H b l w.drew := hb
    have hal := hd.alloc (.cells cs 5 fr)
    refine ⟨hal, ?_⟩
    obtain ⟨p, hp⟩ : ∃ p, Lib.BuilderAtF 69 5 H b p (Lib.byteCells l) w := by
      rcases hb with h | h
      · exact ⟨_, h⟩
      · exact ⟨_, h⟩
    obtain ⟨_, v, h3, hown, _⟩ := hp
    have hlt := lt_of_heapV h3
    refine ⟨by omega, by simp, p, v, ?_, ?_⟩
    · rw [Below.heap_alloc _ _ _ (by exact hlt)]; exact h3
    · intro e
      have := (hown.lt _ e).2
      omega
  refine ⟨_, _, hr, ?_, ((Below.refl _ _).drew).alloc hH _, by simp, (key _ _).1, (key _ _).2⟩
  intro j hj
  generalize grownCap w s.length 0 5 = cap
  have h := bytesRow_at (S s) cap j (by show j < (S s).size; rw [S_size]; exact hj)
  have e : (w.drew.alloc (.cells (bytesRow (S s) cap) 5 ((bytesRow (S s) cap).size, (bytesRow (S s) cap).size + 1))).heap[w.heap.size]? = some (.cells (bytesRow (S s) cap) 5 ((bytesRow (S s) cap).size, (bytesRow (S s) cap).size + 1)) := by
    show (w.heap.push _)[w.heap.size]? = _
    simp
  simp only [World.cell?, e]
  rw [h]
  have hjd : j < (S s).data.size := by show j < (S s).size; rw [S_size]; exact hj
  simp [List.getD, hj, S]
structure QR (w w0 : World) (H r : Nat) (l t : List UInt8) (wr : World) : Prop where
  bld : BldAt H H l wr
  below : Below H w wr
  size : H ≤ wr.heap.size
  away : Away H r wr
  row : ∀ j, j < t.length → wr.cell? ⟨r, j, none⟩ = some (.int .u8 ((t.getD j 0).toNat : Int))
theorem QR.step {w w0 : World} {H r : Nat} {l t : List UInt8} {wr w' : World} {l' : List UInt8} (h : QR w w0 H r l t wr) (b : BldAt H H l' w') (be : Below H wr w') (hs : wr.heap.size ≤ w'.heap.size) (hk : KeepsB H wr w') : QR w w0 H r l' t w' := by
  obtain ⟨e1, n1⟩ := hk r h.away
  refine ⟨b, h.below.trans be, Nat.le_trans h.size hs, n1, fun j hj => ?_⟩
  have := h.row j hj
  unfold World.cell? at this ⊢
  simp only at this ⊢
  rw [e1]; exact this
theorem hex_get (k : Nat) (h : k < (⟨#[48, 49, 50, 51, 52, 53, 54, 55, 56, 57, 97, 98, 99, 100, 101, 102]⟩ : ByteArray).size) : (⟨#[48, 49, 50, 51, 52, 53, 54, 55, 56, 57, 97, 98, 99, 100, 101, 102]⟩ : ByteArray)[k]'h = hexC k := by
  have : ∀ i : Fin 16, HEX[i.val]'(by have := i.isLt; exact this) = hexC i.val := by decide
  exact this ⟨k, h⟩
theorem quote_any (t : List UInt8) (ht : t.length ≤ 1000000) (w : World) :
    Calls Tryz.prog 115 #[.string (S t)] w fun e w' => e = .returned (.string (S (34 :: (escT t ++ [34])))) ∧ Below w.heap.size w w' := by
  have hts : (S t).size = t.length := S_size t
  have hti : (t.length : Int) ≤ 1000000 := by omega
  have HWB := Lib.hid (fun (l : List UInt8) (c : UInt8) (wr : World) (h : BldAt w.heap.size w.heap.size l wr) (hl : l.length ≤ 5000000) (hH : w.heap.size ≤ wr.heap.size) => WriteByte_o w.heap.size w.heap.size l c wr h (by omega) hH)
  have HWS := Lib.hid (fun (l : List UInt8) (wr : World) (h : BldAt w.heap.size w.heap.size l wr) (hl : l.length ≤ 5000000) (hH : w.heap.size ≤ wr.heap.size) => WriteString_o w.heap.size w.heap.size l [92, 120] (by simp) wr h (by simp; omega) hH)
  have HST := Lib.hid (fun (l : List UInt8) (wr : World) (h : BldAt w.heap.size w.heap.size l wr) (hH : w.heap.size ≤ wr.heap.size) => Tryz.Builder_String_any_k w.heap.size w.heap.size l wr h hH)
  have HB0 := Lib.hid (show BldAt w.heap.size w.heap.size [] (w.alloc (.cells #[.pointer none, .slice none 0 0] 69)) from Lib.IsBuilderF.of (Lib.fresh_isBuilder _ _ w))
  clear hts
  go_enter Tryz.func115, Tryz.ntmps115
  go_wp2_with fail
  refine (HWB.out [] 34 _ HB0.out (by simp) (by simp)).mono ?_
  rintro e w1 ⟨rfl, b1, be1, hs1, _⟩
  have hz1 : w.heap.size ≤ w1.heap.size := by simp at hs1; omega
  obtain ⟨cap, w2, hconv, hrow, hbel, hlt2, hb2, haw⟩ := conv_away w1 t w.heap.size w.heap.size [34] b1 hz1
  have HQ0 := Lib.hid (show QR w w w.heap.size w1.heap.size (34 :: escT (t.take 0)) t w2 from ⟨hb2, (((Below.refl w.heap.size w).alloc (Nat.le_refl _) _).trans be1).trans hbel, by omega, haw, hrow⟩)
  clear b1 be1 hs1 hrow hbel hb2 haw
  generalize w1.heap.size = r at *
  go_wp2_with fail
  clear hconv
  go_loopw [10] (fun i wr => ∃ k : Nat, k ≤ t.length ∧ i = .int .i64 k ∧ QR w w w.heap.size r (34 :: escT (t.take k)) t wr) (fun i _ => t.length - (intOf i).toNat)
  case atStart => exact ⟨0, by omega, rfl, HQ0.out⟩
  case round =>
    obtain ⟨k, hk, rfl, hq⟩ := hrel
    have HQ := Lib.hid hq
    have hbl := escT_len (t.take k)
    rw [List.length_take] at hbl
    have hbk : (escT (t.take k)).length ≤ 4000000 := by omega
    clear hbl
    by_cases hlt : k < t.length
    · have hki : (k : Int) < (t.length : Int) := by omega
      have p := hq.row k hlt
      have hsn := escT_snoc t k hlt
      have HSN := Lib.hid hsn
      have hcb := byte_lt (t.getD k 0)
      clear hsn hq
      generalize t.getD k 0 = c at *
      have HMK := Lib.hid (fun (wr' : World) (l' : List UInt8) (h : QR w w w.heap.size r l' t wr') (e : l' = (34 :: escT (t.take k)) ++ esc c) => show QR w w w.heap.size r (34 :: escT (t.take (k + 1))) t wr' from by rw [HSN.out, ← List.cons_append, ← e]; exact h)
      have hl1 : (34 :: escT (t.take k)).length ≤ 4000001 := by simp; omega
      generalize 34 :: escT (t.take k) = l0 at *
      by_cases hE : c = 34 ∨ c = 92
      · have hesc : esc c = [92, c] := by rcases hE with rfl | rfl <;> rfl
        have HESC := Lib.hid hesc
        clear hesc
        rcases hE with rfl | rfl
        · go_wp2_with fail
          refine (HWB.out l0 92 _ HQ.out.bld (by omega) HQ.out.size).mono ?_
          rintro e w3 ⟨rfl, b3, be3, hs3, hk3⟩
          have HQ3 := Lib.hid (HQ.out.step b3 be3 hs3 hk3)
          clear b3 be3 hs3 hk3
          go_wp2_with fail
          refine (HWB.out _ 34 _ HQ3.out.bld (by simp; omega) HQ3.out.size).mono ?_
          rintro e w4 ⟨rfl, b4, be4, hs4, hk4⟩
          have HQ4 := Lib.hid (HQ3.out.step b4 be4 hs4 hk4)
          clear b4 be4 hs4 hk4
          go_wp2_with fail
          go_roundw
          case rel => exact ⟨k + 1, by omega, by go_num, HMK.out _ _ HQ4.out (by rw [HESC.out]; simp)⟩
          case measure => simp [intOf]; omega
        · go_wp2_with fail
          refine (HWB.out l0 92 _ HQ.out.bld (by omega) HQ.out.size).mono ?_
          rintro e w3 ⟨rfl, b3, be3, hs3, hk3⟩
          have HQ3 := Lib.hid (HQ.out.step b3 be3 hs3 hk3)
          clear b3 be3 hs3 hk3
          go_wp2_with fail
          refine (HWB.out _ 92 _ HQ3.out.bld (by simp; omega) HQ3.out.size).mono ?_
          rintro e w4 ⟨rfl, b4, be4, hs4, hk4⟩
          have HQ4 := Lib.hid (HQ3.out.step b4 be4 hs4 hk4)
          clear b4 be4 hs4 hk4
          go_wp2_with fail
          go_roundw
          case rel => exact ⟨k + 1, by omega, by go_num, HMK.out _ _ HQ4.out (by rw [HESC.out]; simp)⟩
          case measure => simp [intOf]; omega
      · have n34 : ((c.toNat : Int) == 34) = false := by
          simp only [beq_eq_false_iff_ne, ne_eq]; intro e; exact hE (.inl (UInt8.toNat_inj.1 (show c.toNat = 34 by omega)))
        have n92 : ((c.toNat : Int) == 92) = false := by
          simp only [beq_eq_false_iff_ne, ne_eq]; intro e; exact hE (.inr (UInt8.toNat_inj.1 (show c.toNat = 92 by omega)))
        have hesc0 : esc c = if c < 32 || 126 < c then [92, 120, hexC (c.toNat / 16), hexC (c.toNat % 16)] else [c] := by
          unfold esc
          rw [if_neg (c := (c == 34 || c == 92) = true) (by simpa using hE)]
        by_cases hlo : c.toNat < 32
        · have hloi : (c.toNat : Int) < 32 := by omega
          have HESC := Lib.hid (show esc c = [92, 120, hexC (c.toNat / 16), hexC (c.toNat % 16)] by rw [hesc0, if_pos (by simp [UInt8.lt_iff_toNat_lt]; omega)])
          clear hE hesc0
          go_wp2_with fail
          refine (HWS.out l0 _ HQ.out.bld (by omega) HQ.out.size).mono ?_
          rintro e w3 ⟨rfl, b3, be3, hs3, hk3⟩
          have HQ3 := Lib.hid (HQ.out.step b3 be3 hs3 hk3)
          clear b3 be3 hs3 hk3
          go_wp2_with fail
          refine (HWB.out _ _ _ HQ3.out.bld (by simp; omega) HQ3.out.size).mono ?_
          rintro e w4 ⟨rfl, b4, be4, hs4, hk4⟩
          have HQ4 := Lib.hid (HQ3.out.step b4 be4 hs4 hk4)
          clear b4 be4 hs4 hk4
          go_wp2_with fail
          refine (HWB.out _ _ _ HQ4.out.bld (by simp; omega) HQ4.out.size).mono ?_
          rintro e w5 ⟨rfl, b5, be5, hs5, hk5⟩
          have HQ5 := Lib.hid (HQ4.out.step b5 be5 hs5 hk5)
          clear b5 be5 hs5 hk5
          go_wp2_with fail
          go_roundw
          case rel => exact ⟨k + 1, by omega, by go_num, HMK.out _ _ HQ5.out (by rw [HESC.out]; simp [hex_get])⟩
          case measure => simp [intOf]; omega
        · have hnlo : ¬ (c.toNat : Int) < 32 := by omega
          by_cases hhi : 126 < c.toNat
          · have hhii : (126 : Int) < (c.toNat : Int) := by omega
            have HESC := Lib.hid (show esc c = [92, 120, hexC (c.toNat / 16), hexC (c.toNat % 16)] by rw [hesc0, if_pos (by simp [UInt8.lt_iff_toNat_lt]; omega)])
            clear hE hesc0
            go_wp2_with fail
            refine (HWS.out l0 _ HQ.out.bld (by omega) HQ.out.size).mono ?_
            rintro e w3 ⟨rfl, b3, be3, hs3, hk3⟩
            have HQ3 := Lib.hid (HQ.out.step b3 be3 hs3 hk3)
            clear b3 be3 hs3 hk3
            go_wp2_with fail
            refine (HWB.out _ _ _ HQ3.out.bld (by simp; omega) HQ3.out.size).mono ?_
            rintro e w4 ⟨rfl, b4, be4, hs4, hk4⟩
            have HQ4 := Lib.hid (HQ3.out.step b4 be4 hs4 hk4)
            clear b4 be4 hs4 hk4
            go_wp2_with fail
            refine (HWB.out _ _ _ HQ4.out.bld (by simp; omega) HQ4.out.size).mono ?_
            rintro e w5 ⟨rfl, b5, be5, hs5, hk5⟩
            have HQ5 := Lib.hid (HQ4.out.step b5 be5 hs5 hk5)
            clear b5 be5 hs5 hk5
            go_wp2_with fail
            go_roundw
            case rel => exact ⟨k + 1, by omega, by go_num, HMK.out _ _ HQ5.out (by rw [HESC.out]; simp [hex_get])⟩
            case measure => simp [intOf]; omega
          · have hnhi : ¬ (126 : Int) < (c.toNat : Int) := by omega
            have HESC := Lib.hid (show esc c = [c] by rw [hesc0, if_neg (by simp [UInt8.lt_iff_toNat_lt]; omega)])
            clear hE hesc0
            go_wp2_with fail
            refine (HWB.out l0 c _ HQ.out.bld (by omega) HQ.out.size).mono ?_
            rintro e w3 ⟨rfl, b3, be3, hs3, hk3⟩
            have HQ3 := Lib.hid (HQ.out.step b3 be3 hs3 hk3)
            clear b3 be3 hs3 hk3
            go_wp2_with fail
            go_roundw
            case rel => exact ⟨k + 1, by omega, by go_num, HMK.out _ _ HQ3.out (by rw [HESC.out])⟩
            case measure => simp [intOf]; omega
    · obtain rfl : k = t.length := by omega
      have hql : QR w w w.heap.size r (34 :: escT t) t wr := by rw [List.take_length] at hq; exact hq
      have HQL := Lib.hid hql
      rw [List.take_length] at hbk
      clear hq hql HQ
      go_wp2_with fail
      refine (HWB.out (34 :: escT t) 34 _ HQL.out.bld (by simp; omega) HQL.out.size).mono ?_
      rintro e w3 ⟨rfl, b3, be3, hs3, hk3⟩
      have HQ3 := Lib.hid (HQL.out.step b3 be3 hs3 hk3)
      clear b3 be3 hs3 hk3
      go_wp2_with fail
      refine (HST.out _ _ HQ3.out.bld HQ3.out.size).mono ?_
      rintro e w4 ⟨rfl, _, be4, _⟩
      have HB4 := Lib.hid (HQ3.out.below.trans be4)
      clear be4
      go_wp2_with fail
      go_ret
      exact ⟨ret_s (by unfold S; simp), HB4.out⟩
end Go.Proofs.YtlmmfhbdebfgkaaGreatDoor.Va
namespace Go.Proofs.YtlmmfhbdebfgkaaGreatDoor.Va
open Go.RowKit
def Tab (w : World) : Prop := Lib.TabIs Tryz.prog w "internal/strconv.uint64pow10" .u64 Lib.pow10Tab
theorem Tab.below {w w' : World} (h : Tab w) (b : Below w.heap.size w w') : Tab w' := Lib.tabBelow_of_tabIs h w' b
theorem decDigits_digs (n : Nat) : Lib.decDigits n = digs n := by
  induction n using Nat.strongRecOn with
  | ind n ih =>
    rw [Lib.decDigits, digs]
    split
    · rfl
    · rw [ih (n / 10) (by omega)]
theorem itoa_decZ (n : Int) : Lib.itoa n = decZ n := by
  unfold Lib.itoa decZ
  rw [decDigits_digs, decDigits_digs]
theorem formatInt (n : Int) (h0 : -9223372036854775808 ≤ n) (h1 : n ≤ 9223372036854775807) (w : World) (ht : Tab w) :
    Calls Tryz.prog 113 #[.int .i64 n, .int .i64 10] w fun e w' => e = .returned (.string (S (decZ n))) ∧ Below w.heap.size w w' := by
  refine (Tryz.strconv_FormatInt_10 n h0 h1 w ht).mono ?_
  rintro e w' ⟨rfl, k, os, rfl⟩
  exact ⟨by rw [itoa_decZ]; rfl, Lib.below_grow _ _ (Nat.le_refl _) _ _⟩
theorem infoS : (Tryz.prog.info? 9).map (fun i => (i.zero, i.size, i.bytes)) = some (some (.string ⟨#[]⟩), 1, 16) := by kernel_rfl
structure TexR (w wr : World) (r n : Nat) (ts : List (List UInt8)) : Prop where
  done : ∀ j, j < ts.length → wr.cell? ⟨r, j, none⟩ = some (.string (S (ts.getD j [])))
  room : ∀ j, j < n → (∃ v, wr.cell? ⟨r, j, none⟩ = some v) ∧ wr.frozen? ⟨r, j, none⟩ = false
  below : Below w.heap.size w wr
  ge : w.heap.size ≤ r
  lt : r < wr.heap.size
theorem make_texts (w : World) (n : Nat) (hn : n ≤ 100000) : ∃ w2 : World,
    (Instr.makeSlice 35 (.int .i64 (n : Int)) (.int .i64 (n : Int))).run Tryz.prog w = .ok (.slice (some ⟨w.heap.size, 0, none⟩) n n) w2 ∧ (0 < n → TexR w w2 w.heap.size n []) ∧ Below w.heap.size w w2 := by
  obtain ⟨i0, hi, hz0, hz1, hz2⟩ := info_parts infoS
  obtain ⟨w2, hmk, hown, hgr⟩ := run_make_full (P := Tryz.prog) w w.heap.size 35 9 i0 (.string ⟨#[]⟩) 1 Tryz.underlying35 hi hz0 hz1 .i64 .i64 n (by rw [hz2]; omega) (by unfold maxLen; omega) (Nat.le_refl _)
  refine ⟨w2, hmk, fun h0 => ?_, (Below.refl _ _).grown hgr (Nat.le_refl _) (by simp)⟩
  have hc : ∀ j, j < n → w2.cell? ⟨w.heap.size, j, none⟩ = some (.string ⟨#[]⟩) := fun j hj => by
    have e : (madeCells (Value.string ⟨#[]⟩).cells (n * 1)).toList = List.replicate n (Value.string ⟨#[]⟩) := by
      have := toList_madeCells_one (.string ⟨#[]⟩) (n * 1)
      refine Eq.trans this ?_
      simp
    rw [hown.cellAt j (by simpa using hj), e]
    simp [hj]
  exact ⟨fun j hj => absurd hj (by simp), fun j hj => ⟨⟨_, hc j hj⟩, hown.frozenAt j⟩, (Below.refl _ _).grown hgr (Nat.le_refl _) (by simp), Nat.le_refl _, World.block_lt_of_cell? w2 _ (hc 0 h0)⟩
theorem TexR.later {w wr w' : World} {r n : Nat} {ts : List (List UInt8)} (h : TexR w wr r n ts) (b : Below wr.heap.size wr w') : TexR w w' r n ts := by
  have hc : ∀ j, w'.cell? ⟨r, j, none⟩ = wr.cell? ⟨r, j, none⟩ := fun j => b.cell (p := ⟨r, j, none⟩) h.lt
  have hf : ∀ j, w'.frozen? ⟨r, j, none⟩ = wr.frozen? ⟨r, j, none⟩ := fun j => b.frozen (p := ⟨r, j, none⟩) h.lt
  exact ⟨fun j hj => (hc j).trans (h.done j hj), fun j hj => ⟨by rw [hc]; exact (h.room j hj).1, by rw [hf]; exact (h.room j hj).2⟩, h.below.trans (b.mono h.below.size), h.ge, Nat.lt_of_lt_of_le h.lt b.size⟩
theorem TexR.put {w wr : World} {r n : Nat} {ts : List (List UInt8)} (h : TexR w wr r n ts) (t : List UInt8) (hlt : ts.length < n) : TexR w (wr.setCell ⟨r, ts.length, none⟩ (.string (S t))) r n (ts ++ [t]) := by
  obtain ⟨v, hv⟩ := (h.room ts.length hlt).1
  refine ⟨fun j hj => ?_, fun j hj => ⟨?_, by rw [World.frozen?_setCell]; exact (h.room j hj).2⟩, h.below.setCell (p := ⟨r, ts.length, none⟩) h.ge _, h.ge, by simp [World.setCell]; exact h.lt⟩
  · rw [List.length_append] at hj
    by_cases e : j = ts.length
    · subst e
      rw [World.cell?_setCell_same (w := wr) (a := ⟨r, ts.length, none⟩) (h := hv)]
      simp [List.getD]
    · rw [World.cell?_setCell_other (w := wr) (a := ⟨r, ts.length, none⟩) (b := ⟨r, j, none⟩) (h := by intro h; injection h with _ h2 _; exact e h2.symm), h.done j (by simp at hj; omega)]
      simp [List.getD, List.getElem?_append_left (show j < ts.length by simp at hj; omega)]
  · by_cases e : j = ts.length
    · subst e
      exact ⟨.string (S t), World.cell?_setCell_same (w := wr) (a := ⟨r, ts.length, none⟩) (v := .string (S t)) (h := hv)⟩
    · obtain ⟨u, hu⟩ := (h.room j hj).1
      exact ⟨u, by rw [World.cell?_setCell_other (w := wr) (a := ⟨r, ts.length, none⟩) (b := ⟨r, j, none⟩) (h := by intro h; injection h with _ h2 _; exact e h2.symm)]; exact hu⟩
theorem join_texts (w wr : World) (r n c : Nat) (ts : List (List UInt8)) (sep : List UInt8) (h : TexR w wr r n ts) (hn : ts.length = n) (hc : n ≤ c) (hlen : (Lib.join ts sep).length ≤ 1000000000) (hn2 : n ≤ 100000) :
    Calls Tryz.prog 157 #[.slice (some ⟨r, 0, none⟩) n c, .string (S sep)] wr fun e w' => e = .returned (.string (S (Lib.join ts sep))) ∧ Below wr.heap.size wr w' := by
  have e1 : (ts.map S).map (fun x : ByteArray => x.data.toList) = ts := by
    rw [List.map_map]
    conv => rhs; rw [← List.map_id ts]
    apply List.map_congr_left
    intro a _
    exact S_toList a
  have e2 : (S sep).data.toList = sep := S_toList sep
  have := Tryz.strings_Join r 0 c (ts.map S) (S sep) wr (fun j x hx => by
    rw [List.getElem?_map, Option.map_eq_some_iff] at hx
    obtain ⟨t, ht, rfl⟩ := hx
    have hj : j < ts.length := (List.getElem?_eq_some_iff.1 ht).1
    rw [Nat.zero_add, h.done j hj]
    simp [List.getD, ht]) h.lt (by simp; omega) (by simp; omega) (by rw [e1, e2]; omega)
  rw [e1, e2, List.length_map, hn] at this
  exact this
theorem numsT_join : ∀ l : List Int, numsT l = Lib.join (l.map decZ) [44, 32]
  | [] => rfl
  | [n] => by simp [numsT, Lib.join, List.intercalate]
  | n :: m :: r => by
    have ih := numsT_join (m :: r)
    show decZ n ++ 44 :: 32 :: numsT (m :: r) = _
    rw [ih]
    simp [Lib.join, List.intercalate]
theorem brackets_any (l : List Int) (hl : l.length ≤ 1000) (hn : ∀ n ∈ l, -9223372036854775808 ≤ n ∧ n ≤ 9223372036854775807) (a : Option Addr) (cap : Nat) (w : World) (hx : NumsAt w a l) (htab : Tab w) :
    Calls Tryz.prog 116 #[.slice a l.length cap] w fun e w' => e = .returned (.string (S (91 :: (numsT l ++ [93])))) ∧ Below w.heap.size w w' := by
  have HX := Lib.hid hx
  have HN := Lib.hid hn
  have HTAB := Lib.hid htab
  have hln := numsT_len l hn
  have hadd1 : ∀ w, (Op.stringOp .add ⟨#[91]⟩ (S (numsT l))).run Tryz.prog w = .ok (.string (S (91 :: numsT l))) w := fun w => by
    rw [run_string_add_sum w _ _ (by have : (⟨#[91]⟩ : ByteArray).size = 1 := rfl; rw [S_size]; omega)]
    show Result.ok (Value.string (S [91] ++ _)) w = _
    rw [S_append]; rfl
  have hadd2 : ∀ w, (Op.stringOp .add (S (91 :: numsT l)) ⟨#[93]⟩).run Tryz.prog w = .ok (.string (S (91 :: (numsT l ++ [93])))) w := fun w => by
    rw [run_string_add_sum w _ _ (by have : (⟨#[93]⟩ : ByteArray).size = 1 := rfl; rw [S_size, List.length_cons]; omega)]
    show Result.ok (Value.string (_ ++ S [93])) w = _
    rw [S_append]; rfl
  have HADD1 := Lib.hid hadd1
  have HADD2 := Lib.hid hadd2
  obtain ⟨w2, hmk, htex, hbel⟩ := make_texts w l.length (by omega)
  clear hx hn htab hadd1 hadd2
  by_cases h0 : l = []
  · subst h0
    have hj := fun w => Tryz.strings_Join_none (some ⟨w2.heap.size, 0, none⟩) 0 (S [44, 32]) w
    have HBEL := Lib.hid hbel
    have hmk0 : (Instr.makeSlice 35 (.int .i64 0) (.int .i64 0)).run Tryz.prog w = .ok (.slice (some ⟨w.heap.size, 0, none⟩) 0 0) w2 := hmk
    clear htex hbel hj hmk
    have hadd1 := HADD1.out
    have hadd2 := HADD2.out
    have hnum : S (numsT []) = ⟨#[]⟩ := rfl
    rw [hnum] at hadd1
    clear hnum
    go_enter Tryz.func116, Tryz.ntmps116
    go_wp2_with fail
    refine wp_loop_rounds 1 ?_
    rw [rounds_succ]
    go_wp2_with fail
    refine (Tryz.strings_Join_none _ _ (S [44, 32]) _).mono ?_
    rintro e w' ⟨rfl, rfl⟩
    go_wp2_with fail
    go_ret
    exact ⟨ret_s rfl, HBEL.out⟩
  · have hpos : 0 < l.length := List.length_pos_iff.2 h0
    have HT0 := Lib.hid (htex hpos)
    have HJ := Lib.hid (fun (wr : World) (h : TexR w wr w.heap.size l.length (l.map decZ)) => join_texts w wr w.heap.size l.length l.length (l.map decZ) [44, 32] h (by simp) (Nat.le_refl _) (by rw [← numsT_join]; omega) (by omega))
    have HNJ := Lib.hid (numsT_join l)
    clear htex hbel h0
    have hsz := HT0.out.lt
    go_enter Tryz.func116, Tryz.ntmps116
    go_wp2_with fail
    clear hmk
    go_loopw [11] (fun i wr => ∃ k : Nat, k ≤ l.length ∧ i = .int .i64 k ∧ TexR w wr w.heap.size l.length ((l.take k).map decZ)) (fun i _ => l.length - (intOf i).toNat)
    case atStart => exact ⟨0, by omega, rfl, HT0.out⟩
    case round =>
      obtain ⟨k, hk, rfl, ht⟩ := hrel
      have HT := Lib.hid ht
      by_cases hlt : k < l.length
      · obtain ⟨g, off, rfl, hc, hgl⟩ := HX.out k hlt
        have r1 := (ht.below.cell (p := ⟨g, off + k, none⟩) hgl).trans hc
        have hm := HN.out (l.getD k 0) (by simp [List.getD, hlt])
        have hF := formatInt (l.getD k 0) hm.1 hm.2 wr (HTAB.out.below ht.below)
        have hts : (l.take (k + 1)).map decZ = (l.take k).map decZ ++ [decZ (l.getD k 0)] := by
          rw [List.take_succ_eq_append_getElem hlt, List.map_append]; simp [List.getD, hlt]
        have hlen : ((l.take k).map decZ).length = k := by rw [List.length_map, List.length_take]; omega
        have hki : (k : Int) < (l.length : Int) := by omega
        have HF := Lib.hid hF
        have HTS := Lib.hid hts
        have HLEN := Lib.hid hlen
        generalize l.getD k 0 = u at *
        clear hm hF hts hlen hc hgl ht
        go_wp2_with fail
        refine HF.out.mono ?_
        rintro e w3 ⟨rfl, b3⟩
        have hq := HT.out.later b3
        have hp := hq.put (decZ u) (by rw [HLEN.out]; exact hlt)
        obtain ⟨⟨v0, hv0⟩, hf0⟩ := hq.room k hlt
        rw [HLEN.out, ← HTS.out] at hp
        have HP := Lib.hid hp
        clear b3 hq hp
        go_wp2_with fail
        go_roundw
        case rel => exact ⟨k + 1, by omega, by go_num, HP.out⟩
        case measure => simp [intOf]; omega
      · obtain rfl : k = l.length := by omega
        rw [List.take_length] at ht
        have HJ2 := Lib.hid (HJ.out wr ht)
        have HTB := Lib.hid ht.below
        rw [← HNJ.out] at HJ2
        have hadd1 := HADD1.out
        have hadd2 := HADD2.out
        clear ht HT
        go_wp2_with fail
        refine HJ2.out.mono ?_
        rintro e w3 ⟨rfl, b3⟩
        have HB3 := Lib.hid (HTB.out.trans (b3.mono HTB.out.size))
        clear b3
        go_wp2_with fail
        go_ret
        exact ⟨rfl, HB3.out⟩
end Go.Proofs.YtlmmfhbdebfgkaaGreatDoor.Va
namespace Go.Proofs.YtlmmfhbdebfgkaaGreatDoor.Va
open Go.RowKit
theorem NumsAt.heap {w w' : World} {a : Option Addr} {l : List Int} (h : NumsAt w a l) (e : w'.heap = w.heap) : NumsAt w' a l := fun i hi => by
  obtain ⟨g, off, e1, hc, hl⟩ := h i hi
  exact ⟨g, off, e1, by unfold World.cell? at hc ⊢; rw [e]; exact hc, by rw [e]; exact hl⟩
theorem Tab.heap {w w' : World} (h : Tab w) (b : Below w.heap.size w w') : Tab w' := h.below b
theorem Print_any (v : V) (ok : VIn v) (hr : rightB v = true) (a : Option Addr) (cap : Nat) (w : World) (hx : NumsAt w a v.list) (htab : Tab w) :
    Calls Tryz.prog 66 #[valC v a cap] w fun e w' => e = .returned (.string (S (printV v))) ∧ Below w.heap.size w w' := by
  have hc := right_cases hr
  obtain ⟨k, n, t, l⟩ := v
  have h1 := ok.num
  have h2 := ok.text
  have h3 := ok.list
  have h4 := ok.nums
  simp only at h1 h2 h3 h4 hc hx
  have hB0 := (Below.refl w.heap.size w).alloc (Nat.le_refl _) (boxO k n t l.length a cap)
  have hx1 := hx.below hB0
  have ht1 := htab.below hB0
  have HB0 := Lib.hid hB0
  clear ok hr hx htab hB0
  rcases hc with ⟨rfl, rfl, rfl, rfl⟩ | ⟨rfl, rfl, rfl⟩ | ⟨rfl, hn, rfl, rfl⟩ | ⟨rfl, rfl, rfl⟩ | ⟨rfl, rfl, hnm, rfl⟩ | ⟨rfl, rfl, rfl⟩
  · clear h1 h2 h3 h4 hx1 ht1
    unfold valC
    simp only
    go_enter Tryz.func66, Tryz.ntmps66
    go_wp2_with fail
    go_ret
    exact ⟨ret_s rfl, HB0.out⟩
  · have HF := Lib.hid (formatInt n h1.1 h1.2 _ ht1)
    clear h1 h2 h3 h4 hx1 ht1
    unfold valC
    simp only
    go_enter Tryz.func66, Tryz.ntmps66
    go_wp2_with fail
    refine HF.out.mono ?_
    rintro e w1 ⟨rfl, b1⟩
    have HB1 := Lib.hid (HB0.out.trans (b1.mono (by simp)))
    clear b1
    go_wp2_with fail
    go_ret
    exact ⟨ret_s rfl, HB1.out⟩
  · clear h1 h2 h3 h4 hx1 ht1
    rcases hn with rfl | rfl
    · unfold valC
      simp only
      go_enter Tryz.func66, Tryz.ntmps66
      go_wp2_with fail
      refine (Tryz.strconv_FormatBool false _).mono ?_
      rintro e w1 ⟨rfl, rfl⟩
      go_wp2_with fail
      go_ret
      exact ⟨ret_s rfl, HB0.out⟩
    · unfold valC
      simp only
      go_enter Tryz.func66, Tryz.ntmps66
      go_wp2_with fail
      refine (Tryz.strconv_FormatBool true _).mono ?_
      rintro e w1 ⟨rfl, rfl⟩
      go_wp2_with fail
      go_ret
      exact ⟨ret_s rfl, HB0.out⟩
  · have HQ := Lib.hid (quote_any t (by omega) (w.alloc (boxO 3 0 t ([] : List Int).length a cap)))
    clear h1 h2 h3 h4 hx1 ht1
    unfold valC
    simp only
    go_enter Tryz.func66, Tryz.ntmps66
    go_wp2_with fail
    refine HQ.out.mono ?_
    rintro e w1 ⟨rfl, b1⟩
    have HB1 := Lib.hid (HB0.out.trans (b1.mono (by simp)))
    clear b1
    go_wp2_with fail
    go_ret
    exact ⟨ret_s rfl, HB1.out⟩
  · have hts : (S t).size = t.length := S_size t
    have hadd : ∀ w, (Op.stringOp .add ⟨#[39]⟩ (S t)).run Tryz.prog w = .ok (.string (S (39 :: t))) w := fun w => by
      rw [run_string_add_sum w _ _ (by have : (⟨#[39]⟩ : ByteArray).size = 1 := rfl; omega)]
      show Result.ok (Value.string (S [39] ++ _)) w = _
      rw [S_append]; rfl
    clear h1 h2 h3 h4 hnm hts hx1 ht1
    unfold valC
    simp only
    go_enter Tryz.func66, Tryz.ntmps66
    go_wp2_with fail
    go_ret
    exact ⟨ret_s rfl, HB0.out⟩
  · have HQ := Lib.hid (brackets_any l h3 h4 a cap _ hx1 ht1)
    clear h1 h2 h3 h4 hx1 ht1
    unfold valC
    simp only
    go_enter Tryz.func66, Tryz.ntmps66
    go_wp2_with fail
    refine HQ.out.mono ?_
    rintro e w1 ⟨rfl, b1⟩
    have HB1 := Lib.hid (HB0.out.trans (b1.mono (by simp)))
    clear b1
    go_wp2_with fail
    go_ret
    exact ⟨ret_s rfl, HB1.out⟩
end Go.Proofs.YtlmmfhbdebfgkaaGreatDoor.Va
namespace Go.Proofs.YtlmmfhbdebfgkaaGreatDoor.Va
open Go.RowKit
def Blk (w : World) (b : Nat) (t : TypeId) : Prop := ∃ cs : Array Value, w.heap[b]? = some (.cells cs t (0, 0))
theorem Blk.lt {w : World} {b : Nat} {t : TypeId} (h : Blk w b t) : b < w.heap.size := by
  obtain ⟨cs, hc⟩ := h
  exact lt_of_heapV hc
theorem Blk.below {w w' : World} {b : Nat} {t : TypeId} (h : Blk w b t) (k : Below w.heap.size w w') : Blk w' b t := by
  have hl := h.lt
  obtain ⟨cs, hc⟩ := h
  exact ⟨cs, (k.block b hl).trans hc⟩
theorem Blk.set {w : World} {b : Nat} {t : TypeId} (h : Blk w b t) (g o : Nat) (v : Value) : Blk (w.setCell ⟨g, o, none⟩ v) b t := by
  obtain ⟨cs, hc⟩ := h
  by_cases e : b = g
  · subst e
    exact ⟨_, by simp [World.setCell, Array.getElem?_modify, hc]; rfl⟩
  · exact ⟨cs, (Below.heap_setCell _ _ _ _ e).trans hc⟩
theorem Blk.frozen {w : World} {b : Nat} {t : TypeId} (h : Blk w b t) (j : Nat) : w.frozen? ⟨b, j, none⟩ = false := by
  obtain ⟨cs, hc⟩ := h
  unfold World.frozen?
  simp only [hc]
  simp
theorem Blk.apart {w : World} {b g : Nat} {t u : TypeId} (h : Blk w b t) (k : Blk w g u) (hne : t ≠ u) : b ≠ g := by
  rintro rfl
  obtain ⟨cs, hc⟩ := h
  obtain ⟨ds, hd⟩ := k
  rw [hc] at hd
  injection hd with e
  injection e with _ e2 _
  exact hne e2
theorem set_other {w : World} {b g o j : Nat} {v : Value} (h : b ≠ g ∨ j ≠ o) : (w.setCell ⟨g, o, none⟩ v).cell? ⟨b, j, none⟩ = w.cell? ⟨b, j, none⟩ :=
  World.cell?_setCell_other (w := w) (a := ⟨g, o, none⟩) (b := ⟨b, j, none⟩) (v := v) (h := by intro e; injection e with e1 e2 _; rcases h with h | h; exact h e1.symm; exact h e2.symm)
def Fresh (lo : Nat) (w : World) (a : Option Addr) (l : List Int) : Prop := ∀ j, j < l.length → ∃ b : Nat, a = some ⟨b, 0, none⟩ ∧ Blk w b 2 ∧ w.cell? ⟨b, j, none⟩ = some (.int .i64 (l.getD j 0)) ∧ lo ≤ b
theorem Fresh.nums {lo : Nat} {w : World} {a : Option Addr} {l : List Int} (h : Fresh lo w a l) : NumsAt w a l := fun j hj => by
  obtain ⟨b, e, hs, hc, _⟩ := h j hj
  exact ⟨b, 0, e, by rw [Nat.zero_add]; exact hc, hs.lt⟩
theorem Fresh.below {lo : Nat} {w w' : World} {a : Option Addr} {l : List Int} (h : Fresh lo w a l) (k : Below w.heap.size w w') : Fresh lo w' a l := fun j hj => by
  obtain ⟨b, e, hs, hc, hb⟩ := h j hj
  exact ⟨b, e, hs.below k, (k.cell (p := ⟨b, j, none⟩) hs.lt).trans hc, hb⟩
theorem Fresh.set {lo : Nat} {w : World} {a : Option Addr} {l : List Int} (h : Fresh lo w a l) {g : Nat} (hg : Blk w g 52) (o : Nat) (v : Value) : Fresh lo (w.setCell ⟨g, o, none⟩ v) a l := fun j hj => by
  obtain ⟨b, e, hs, hc, hb⟩ := h j hj
  exact ⟨b, e, hs.set _ _ _, (set_other (.inl (hs.apart hg (by decide)))).trans hc, hb⟩
theorem Fresh.mono {lo hi : Nat} {w : World} {a : Option Addr} {l : List Int} (h : Fresh hi w a l) (k : lo ≤ hi) : Fresh lo w a l := fun j hj => by
  obtain ⟨b, e, hs, hc, hb⟩ := h j hj
  exact ⟨b, e, hs, hc, Nat.le_trans k hb⟩
theorem owned_fresh {w : World} {B n : Nat} {v : Value} {l : List Int} (h : w.ownsRow B 2 1 v n (i64C l)) (hn : n = l.length) : ∃ a c, v = .slice a l.length c ∧ Fresh B w a l := by
  subst hn
  rcases h.2 with ⟨rfl, h0⟩ | ⟨g, cap, cur, rfl, hB, hg, _⟩
  · have : l = [] := List.length_eq_zero_iff.1 h0
    subst this
    exact ⟨none, 0, rfl, fun i hi => absurd hi (by simp)⟩
  · refine ⟨some ⟨g, 0, none⟩, cap, rfl, fun i hi => ⟨g, rfl, ⟨cur, hg⟩, ?_, hB⟩⟩
    have := h.cellAt i (by omega)
    rw [this]
    simp [i64C, List.getD, hi]
theorem strClone_any (s : ByteArray) (hs : s.size ≤ 281474976710656) (w : World) :
    Calls Tryz.prog 53 #[.string s] w fun e w' => e = .returned (.string s) ∧ Below w.heap.size w w' := by
  go_enter Tryz.func53, Tryz.ntmps53
  go_wp2_with fail
  refine (Tryz.stringslite_Clone s _ hs).mono ?_
  rintro e w' ⟨rfl, hb⟩
  have HB := Lib.hid hb
  clear hb
  go_wp2_with fail
  go_ret
  exact ⟨rfl, HB.out⟩
theorem cloneNums_any (l : List Int) (hl : l.length ≤ 100000) (a : Option Addr) (cap : Nat) (w : World) (hx : NumsAt w a l) :
    Calls Tryz.prog 54 #[.slice a l.length cap] w fun e w' => (∃ a' c', e = .returned (.slice a' l.length c') ∧ Fresh w.heap.size w' a' l) ∧ Below w.heap.size w w' := by
  cases a with
  | none =>
    have hl0 : l = [] := by
      cases l with
      | nil => rfl
      | cons x r => obtain ⟨_, _, e, _⟩ := hx 0 (by simp); cases e
    subst hl0
    clear hx hl
    have hnil := fun (wr : World) => Lib.run_eql_slice_nil (P := Tryz.prog) wr 50 2 none 0 cap 0 0 Tryz.underlying50
    go_enter Tryz.func54, Tryz.ntmps54
    go_wp2_with fail
    go_ret
    exact ⟨⟨none, 0, rfl, fun j hj => absurd hj (by simp)⟩, Below.refl _ _⟩
  | some p =>
    have hb0 := (Below.refl w.heap.size w).alloc (Nat.le_refl _) (.cells #[] 2)
    have hown := World.ownsRow_made (base := w.heap.size) (e := 2) (size := 1) w #[] 0 (Nat.le_refl _) (by unfold maxLen; omega) rfl
    obtain ⟨v', w', hr, ho, hg⟩ := app_nums w.heap.size _ 0 [] _ hown l (some p) cap (hx.below hb0) (by omega) (by simp)
    rw [List.nil_append] at ho
    obtain ⟨a', c', rfl, hf⟩ := owned_fresh ho (by omega)
    have HRUN := Lib.hid hr
    have HF := Lib.hid hf
    have HB := Lib.hid (hb0.grown hg (by simp) (fun k hk => by have := (hown.lt k hk).1; omega))
    have hnil := fun (wr : World) => Lib.run_eql_slice_nil (P := Tryz.prog) wr 50 2 (some p) l.length cap 0 0 Tryz.underlying50
    clear hb0 hown hr ho hg hf hx
    go_enter Tryz.func54, Tryz.ntmps54
    go_wp2_with (at_builtin; refine wpList_app rfl _ _ _ _ rfl rfl rfl _ _ HRUN.out ?_)
    go_ret
    exact ⟨⟨a', c', rfl, HF.out⟩, HB.out⟩
end Go.Proofs.YtlmmfhbdebfgkaaGreatDoor.Va
