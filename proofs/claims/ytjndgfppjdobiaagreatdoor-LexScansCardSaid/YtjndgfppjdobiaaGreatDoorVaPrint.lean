/-
  The document's own answer for values: the text of a Text.
-/
import Derived.Test.YtjndgfppjdobiaaGreatDoorVaDec
import Derived.Deep.AppendLies
namespace Go.Proofs.YtjndgfppjdobiaaGreatDoor.Va
open Go.RowKit

def u8C (l : List UInt8) : List Value := l.map fun c => .int .u8 (c.toNat : Int)
/-- Bytes that are collected, in what is new since B. -/
structure Buf (B : Nat) (W0 wr : World) (v : Value) (l : List UInt8) : Prop where
  own : wr.ownsRow B 5 1 v l.length (u8C l)
  below : Below B W0 wr
  hi : B ≤ wr.heap.size
theorem Buf.step {B : Nat} {W0 wr w' : World} {v v' : Value} {l : List UInt8} {c : UInt8} {x : Int} {o : Obj} (h : Buf B W0 wr v l) (hx : x = (c.toNat : Int)) (own : w'.ownsRow B 5 1 v' (l.length + 1) (u8C l ++ [.int .u8 x])) (gr : (wr.alloc o).grownBy w' v.ownBlock) : Buf B W0 w' v' (l ++ [c]) := by
  subst hx
  have hs := h.hi
  refine ⟨?_, (h.below.alloc hs o).grown gr (by simp; omega) (fun k hk => (h.own.lt k hk).1), ?_⟩
  · rw [List.length_append]
    have e : u8C (l ++ [c]) = u8C l ++ [.int .u8 (c.toNat : Int)] := by simp [u8C]
    rw [e]; exact own
  · have := gr.size; simp at this; omega
theorem news_one (w : World) (x : Value) (T : TypeId) (H : Nat) (hH : w.heap.size = H) : ∀ j u, ([x] : List Value)[j]? = some u → (w.alloc (.cells #[x] T)).cell? ((⟨H, 0, none⟩ : Addr).add j) = some u := fun j u hu => by
  subst hH
  rw [Addr.add_mid, cell_of_row _ _ _ _ _ (0, 0) (heap_alloc_new w _), Nat.zero_add]; simpa using hu
theorem one_int (x : Int) : ∀ u ∈ ([.int .u8 x] : List Value), u.oneCell' = true := by
  intro u hu
  simp only [List.mem_singleton] at hu
  subst hu; rfl
theorem escT_len (t : List UInt8) : (escT t).length ≤ 4 * t.length := by
  induction t with
  | nil => simp [escT]
  | cons c t ih =>
    have e1 : escT (c :: t) = esc c ++ escT t := rfl
    have : (esc c).length ≤ 4 := by unfold esc; split <;> (try split) <;> simp
    rw [e1, List.length_append, List.length_cons]; omega
theorem escT_snoc (t : List UInt8) (k : Nat) (h : k < t.length) : escT (t.take (k + 1)) = escT (t.take k) ++ esc (t.getD k 0) := by
  unfold escT
  rw [List.take_succ_eq_append_getElem h, List.flatMap_append]
  simp [List.getD, h]
def HEX : ByteArray := ⟨#[48, 49, 50, 51, 52, 53, 54, 55, 56, 57, 97, 98, 99, 100, 101, 102]⟩
theorem hex_at (k : Nat) (h : k < 16) : HEX.data.toList.getD k 0 = hexC k := by
  have : ∀ i : Fin 16, HEX.data.toList.getD i.val 0 = hexC i.val := by decide
  exact this ⟨k, h⟩
set_option maxRecDepth 100000 in
theorem run_hex (k : Nat) (h : k < 16) (w : World) : (Instr.index 9 (.string ⟨#[48, 49, 50, 51, 52, 53, 54, 55, 56, 57, 97, 98, 99, 100, 101, 102]⟩) (.int .u8 (k : Int))).run Tryz.prog w = .ok (.int .u8 ((hexC k).toNat : Int)) w := by
  have : ∀ i : Fin 16, ∀ w, (Instr.index 9 (.string ⟨#[48, 49, 50, 51, 52, 53, 54, 55, 56, 57, 97, 98, 99, 100, 101, 102]⟩) (.int .u8 (i.val : Int))).run Tryz.prog w = .ok (.int .u8 ((hexC i.val).toNat : Int)) w := by
    intro i w
    match i with
    | ⟨0, _⟩ => rfl
    | ⟨1, _⟩ => rfl
    | ⟨2, _⟩ => rfl
    | ⟨3, _⟩ => rfl
    | ⟨4, _⟩ => rfl
    | ⟨5, _⟩ => rfl
    | ⟨6, _⟩ => rfl
    | ⟨7, _⟩ => rfl
    | ⟨8, _⟩ => rfl
    | ⟨9, _⟩ => rfl
    | ⟨10, _⟩ => rfl
    | ⟨11, _⟩ => rfl
    | ⟨12, _⟩ => rfl
    | ⟨13, _⟩ => rfl
    | ⟨14, _⟩ => rfl
    | ⟨15, _⟩ => rfl
    | ⟨k + 16, h⟩ => omega
  exact this ⟨k, h⟩ w

set_option linter.unusedSimpArgs false
set_option maxRecDepth 100000 in
set_option maxHeartbeats 3200000 in
theorem refPrint_text (n : Int) (t : List UInt8) (l : List Int) (ht : t.length ≤ 100000) (a : Option Addr) (cap : Nat) (w : World) :
    Calls Tryz.prog 43 #[valC ⟨3, n, t, l⟩ a cap] w fun e w' => e = .returned (.string (S (34 :: (escT t ++ [34])))) ∧ Below w.heap.size w w' := by
  obtain ⟨i0, hi, hz0, hz1, hz2⟩ := info_parts info8
  have hts : (S t).size = t.length := S_size t
  have hti : (t.length : Int) ≤ 100000 := by omega
  have HW0 := Lib.hid ((Below.refl w.heap.size w).alloc (Nat.le_refl _) (.cells #[.int .i64 3, .int .i64 n, .string (S t), .slice a l.length cap] 67))
  have HBOX := Lib.hid (heap_alloc_new w (.cells #[.int .i64 3, .int .i64 n, .string (S t), .slice a l.length cap] 67))
  have HB0 := Lib.hid (show Buf (w.heap.size + 1) (w.alloc (.cells #[.int .i64 3, .int .i64 n, .string (S t), .slice a l.length cap] 67)) (w.alloc (.cells #[.int .i64 3, .int .i64 n, .string (S t), .slice a l.length cap] 67)) (.slice none 0 0) [] from ⟨World.ownsRow_nil _ _ _ _, Below.refl _ _, by simp⟩)
  unfold valC
  simp only
  go_enter Tryz.func43, Tryz.ntmps43
  go_wp2_with (at_builtin; refine wpList_append_own _ rfl _ _ 72 rfl (w.heap.size + 1) 5 i0 _ 1 1 Tryz.underlying72 hi hz0 hz1 hz2 rfl (by omega) _ _ _ rfl (HB0.out.own.alloc _) ⟨_, 0, none⟩ 1 1 [.int .u8 34] rfl rfl (news_one _ _ _ _ (by first | rfl | simp)) (one_int _) (by decide) (by decide) (Nat.le_trans HB0.out.hi (by simp)) ?_; intro v1 w1 hown hgrow _; have HB1 := Lib.hid (HB0.out.step (c := 34) (by rfl) hown hgrow); clear hown hgrow)
  have hbuf : Buf (w.heap.size + 1) (w.alloc (.cells #[.int .i64 3, .int .i64 n, .string (S t), .slice a l.length cap] 67)) w1 v1 (34 :: escT (t.take 0)) := HB1.out
  have HBS := Lib.hid hbuf
  clear hbuf
  go_loopw [3, 4] (fun v i wr => ∃ k : Nat, k ≤ t.length ∧ i = .int .i64 k ∧ Buf (w.heap.size + 1) (w.alloc (.cells #[.int .i64 3, .int .i64 n, .string (S t), .slice a l.length cap] 67)) wr v (34 :: escT (t.take k))) (fun _ i _ => t.length - (intOf i).toNat)
  case atStart => exact ⟨0, by omega, rfl, HBS.out⟩
  case round =>
    obtain ⟨k, hk, rfl, hbr⟩ := hrel
    have HBR := Lib.hid hbr
    have hx0 := (hbr.below.block w.heap.size (by omega)).trans HBOX.out
    have p2 : wr.cell? ⟨w.heap.size, 2, none⟩ = some (.string (S t)) := (cell_of_row wr _ 2 _ _ (0, 0) hx0).trans rfl
    have hbl := escT_len (t.take k)
    rw [List.length_take] at hbl
    have hbk : (escT (t.take k)).length ≤ 400000 := by omega
    clear hbr hx0 hbl
    by_cases hlt : k < t.length
    · have hki : (k : Int) < (t.length : Int) := by omega
      have hg := getElem_list (S t) k (by omega)
      rw [S_toList] at hg
      have hsn := escT_snoc t k hlt
      have HSN := Lib.hid hsn
      have hcb := byte_lt (t.getD k 0)
      generalize t.getD k 0 = c at *
      have hc : (S t)[k]'(by omega) = c := hg.symm
      have HMK := Lib.hid (fun (wr' : World) (v' : Value) (l' : List UInt8) (h : Buf (w.heap.size + 1) (w.alloc (.cells #[.int .i64 3, .int .i64 n, .string (S t), .slice a l.length cap] 67)) wr' v' l') (e : l' = (34 :: escT (t.take k)) ++ esc c) => show Buf (w.heap.size + 1) (w.alloc (.cells #[.int .i64 3, .int .i64 n, .string (S t), .slice a l.length cap] 67)) wr' v' (34 :: escT (t.take (k + 1))) from by rw [HSN.out, ← List.cons_append, ← e]; exact h)
      clear hg hsn
      by_cases hA : c.toNat < 32 ∨ 126 < c.toNat
      · have hq1 : c.toNat / 16 < 16 := by have := c.toNat_lt; omega
        have hq2 : c.toNat % 16 < 16 := by omega
        have hi1 := fun w => run_hex (c.toNat / 16) hq1 w
        have hi2 := fun w => run_hex (c.toNat % 16) hq2 w
        have hdiv : (c.toNat : Int) / 16 = ((c.toNat / 16 : Nat) : Int) := by omega
        have hmod : (c.toNat : Int) % 16 = ((c.toNat % 16 : Nat) : Int) := by omega
        have hesc : esc c = [92, 120, hexC (c.toNat / 16), hexC (c.toNat % 16)] := by
          unfold esc
          rw [if_pos]
          simp only [Bool.or_eq_true, decide_eq_true_eq]
          rcases hA with h | h
          · exact .inl (UInt8.lt_iff_toNat_lt.2 h)
          · exact .inr (UInt8.lt_iff_toNat_lt.2 h)
        have HESC := Lib.hid hesc
        clear hesc
        have hx1 : ((hexC (c.toNat / 16)).toNat : Int) < 256 := byte_lt _
        have hx2 : ((hexC (c.toNat % 16)).toNat : Int) < 256 := byte_lt _
        generalize hexC (c.toNat / 16) = y1 at *
        generalize hexC (c.toNat % 16) = y2 at *
        generalize c.toNat / 16 = q1 at *
        generalize c.toNat % 16 = q2 at *
        rcases (by omega : c.toNat < 32 ∨ (¬ c.toNat < 32 ∧ 126 < c.toNat)) with hA1 | ⟨hA1, hA2⟩
        all_goals
          have hA1i : (c.toNat : Int) < 32 ∨ ((32 : Int) ≤ (c.toNat : Int) ∧ (126 : Int) < (c.toNat : Int)) := by omega
          clear hA
          go_wp2_with (first
            | (at_builtin; refine wpList_append_own _ rfl _ _ 72 rfl (w.heap.size + 1) 5 i0 _ 1 1 Tryz.underlying72 hi hz0 hz1 hz2 rfl (by omega) _ _ _ rfl (HB4.out.own.alloc _) ⟨_, 0, none⟩ 1 1 [.int .u8 (y2.toNat : Int)] rfl rfl (news_one _ _ _ _ (by first | rfl | simp)) (one_int _) (by simp only [List.length_append, List.length_cons, List.length_nil]; unfold maxLen; omega) (by simp only [List.length_append, List.length_cons, List.length_nil]; omega) (Nat.le_trans HB4.out.hi (by simp)) ?_; intro v5 w5 hown hgrow _; have HB5 := Lib.hid (HB4.out.step (c := y2) (by rfl) hown hgrow); clear hown hgrow)
            | (at_builtin; refine wpList_append_own _ rfl _ _ 72 rfl (w.heap.size + 1) 5 i0 _ 1 1 Tryz.underlying72 hi hz0 hz1 hz2 rfl (by omega) _ _ _ rfl (HB3.out.own.alloc _) ⟨_, 0, none⟩ 1 1 [.int .u8 (y1.toNat : Int)] rfl rfl (news_one _ _ _ _ (by first | rfl | simp)) (one_int _) (by simp only [List.length_append, List.length_cons, List.length_nil]; unfold maxLen; omega) (by simp only [List.length_append, List.length_cons, List.length_nil]; omega) (Nat.le_trans HB3.out.hi (by simp)) ?_; intro v4 w4 hown hgrow _; have HB4 := Lib.hid (HB3.out.step (c := y1) (by rfl) hown hgrow); clear hown hgrow)
            | (at_builtin; refine wpList_append_own _ rfl _ _ 72 rfl (w.heap.size + 1) 5 i0 _ 1 1 Tryz.underlying72 hi hz0 hz1 hz2 rfl (by omega) _ _ _ rfl (HB2.out.own.alloc _) ⟨_, 0, none⟩ 1 1 [.int .u8 120] rfl rfl (news_one _ _ _ _ (by first | rfl | simp)) (one_int _) (by simp only [List.length_append, List.length_cons, List.length_nil]; unfold maxLen; omega) (by simp only [List.length_append, List.length_cons, List.length_nil]; omega) (Nat.le_trans HB2.out.hi (by simp)) ?_; intro v3 w3 hown hgrow _; have HB3 := Lib.hid (HB2.out.step (c := 120) (by rfl) hown hgrow); clear hown hgrow)
            | (at_builtin; refine wpList_append_own _ rfl _ _ 72 rfl (w.heap.size + 1) 5 i0 _ 1 1 Tryz.underlying72 hi hz0 hz1 hz2 rfl (by omega) _ _ _ rfl (HBR.out.own.alloc _) ⟨_, 0, none⟩ 1 1 [.int .u8 92] rfl rfl (news_one _ _ _ _ (by first | rfl | simp)) (one_int _) (by simp only [List.length_append, List.length_cons, List.length_nil]; unfold maxLen; omega) (by simp only [List.length_append, List.length_cons, List.length_nil]; omega) (Nat.le_trans HBR.out.hi (by simp)) ?_; intro v2 w2 hown hgrow _; have HB2 := Lib.hid (HBR.out.step (c := 92) (by rfl) hown hgrow); clear hown hgrow))
          have HFIN := Lib.hid (HMK.out _ _ _ HB5.out (by simp [HESC.out]))
          go_roundw
          case rel => exact ⟨k + 1, by omega, by go_num, HFIN.out⟩
          case measure => simp [intOf]; omega
      · by_cases hE : c.toNat = 34 ∨ c.toNat = 92
        · have hesc : esc c = [92, c] := by
            unfold esc
            have h1 : (decide (c < 32) || decide (126 < c)) = false := by
              simp only [Bool.or_eq_false_iff, decide_eq_false_iff_not, UInt8.lt_iff_toNat_lt]
              exact ⟨fun h => hA (.inl h), fun h => hA (.inr h)⟩
            rw [h1, if_neg (by simp), if_pos]
            simp only [Bool.or_eq_true, beq_iff_eq]
            rcases hE with h | h
            · exact .inl (UInt8.toNat_inj.1 h)
            · exact .inr (UInt8.toNat_inj.1 h)
          have HESC := Lib.hid hesc
          have hA1 : (32 : Int) ≤ (c.toNat : Int) := by omega
          have hA2 : (c.toNat : Int) ≤ 126 := by omega
          clear hesc hA
          rcases hE with hE | hE
          · obtain rfl : c = 34 := UInt8.toNat_inj.1 hE
            clear hE
            go_wp2_with (first
              | (at_builtin; refine wpList_append_own _ rfl _ _ 72 rfl (w.heap.size + 1) 5 i0 _ 1 1 Tryz.underlying72 hi hz0 hz1 hz2 rfl (by omega) _ _ _ rfl (HB2.out.own.alloc _) ⟨_, 0, none⟩ 1 1 [.int .u8 34] rfl rfl (news_one _ _ _ _ (by first | rfl | simp)) (one_int _) (by simp only [List.length_append, List.length_cons, List.length_nil]; unfold maxLen; omega) (by simp only [List.length_append, List.length_cons, List.length_nil]; omega) (Nat.le_trans HB2.out.hi (by simp)) ?_; intro v3 w3 hown hgrow _; have HB3 := Lib.hid (HB2.out.step (c := 34) (by rfl) hown hgrow); clear hown hgrow)
              | (at_builtin; refine wpList_append_own _ rfl _ _ 72 rfl (w.heap.size + 1) 5 i0 _ 1 1 Tryz.underlying72 hi hz0 hz1 hz2 rfl (by omega) _ _ _ rfl (HBR.out.own.alloc _) ⟨_, 0, none⟩ 1 1 [.int .u8 92] rfl rfl (news_one _ _ _ _ (by first | rfl | simp)) (one_int _) (by simp only [List.length_append, List.length_cons, List.length_nil]; unfold maxLen; omega) (by simp only [List.length_append, List.length_cons, List.length_nil]; omega) (Nat.le_trans HBR.out.hi (by simp)) ?_; intro v2 w2 hown hgrow _; have HB2 := Lib.hid (HBR.out.step (c := 92) (by rfl) hown hgrow); clear hown hgrow))
            have HFIN := Lib.hid (HMK.out _ _ _ HB3.out (by simp [HESC.out]))
            go_roundw
            case rel => exact ⟨k + 1, by omega, by go_num, HFIN.out⟩
            case measure => simp [intOf]; omega
          · obtain rfl : c = 92 := UInt8.toNat_inj.1 hE
            clear hE
            go_wp2_with (first
              | (at_builtin; refine wpList_append_own _ rfl _ _ 72 rfl (w.heap.size + 1) 5 i0 _ 1 1 Tryz.underlying72 hi hz0 hz1 hz2 rfl (by omega) _ _ _ rfl (HB2.out.own.alloc _) ⟨_, 0, none⟩ 1 1 [.int .u8 92] rfl rfl (news_one _ _ _ _ (by first | rfl | simp)) (one_int _) (by simp only [List.length_append, List.length_cons, List.length_nil]; unfold maxLen; omega) (by simp only [List.length_append, List.length_cons, List.length_nil]; omega) (Nat.le_trans HB2.out.hi (by simp)) ?_; intro v3 w3 hown hgrow _; have HB3 := Lib.hid (HB2.out.step (c := 92) (by rfl) hown hgrow); clear hown hgrow)
              | (at_builtin; refine wpList_append_own _ rfl _ _ 72 rfl (w.heap.size + 1) 5 i0 _ 1 1 Tryz.underlying72 hi hz0 hz1 hz2 rfl (by omega) _ _ _ rfl (HBR.out.own.alloc _) ⟨_, 0, none⟩ 1 1 [.int .u8 92] rfl rfl (news_one _ _ _ _ (by first | rfl | simp)) (one_int _) (by simp only [List.length_append, List.length_cons, List.length_nil]; unfold maxLen; omega) (by simp only [List.length_append, List.length_cons, List.length_nil]; omega) (Nat.le_trans HBR.out.hi (by simp)) ?_; intro v2 w2 hown hgrow _; have HB2 := Lib.hid (HBR.out.step (c := 92) (by rfl) hown hgrow); clear hown hgrow))
            have HFIN := Lib.hid (HMK.out _ _ _ HB3.out (by simp [HESC.out]))
            go_roundw
            case rel => exact ⟨k + 1, by omega, by go_num, HFIN.out⟩
            case measure => simp [intOf]; omega
        · have hesc : esc c = [c] := by
            unfold esc
            have h1 : (decide (c < 32) || decide (126 < c)) = false := by
              simp only [Bool.or_eq_false_iff, decide_eq_false_iff_not, UInt8.lt_iff_toNat_lt]
              exact ⟨fun h => hA (.inl h), fun h => hA (.inr h)⟩
            have h2 : (c == 34 || c == 92) = false := by
              simp only [Bool.or_eq_false_iff, beq_eq_false_iff_ne, ne_eq]
              exact ⟨fun h => hE (.inl (by rw [h]; rfl)), fun h => hE (.inr (by rw [h]; rfl))⟩
            rw [h1, if_neg (by simp), h2, if_neg (by simp)]
          have HESC := Lib.hid hesc
          have hA1 : (32 : Int) ≤ (c.toNat : Int) := by omega
          have hA2 : (c.toNat : Int) ≤ 126 := by omega
          have hE1 : ((c.toNat : Int) == 34) = false := by simp; omega
          have hE2 : ((c.toNat : Int) == 92) = false := by simp; omega
          have hE3 : (c.toNat == 34) = false := by simp; omega
          have hE4 : (c.toNat == 92) = false := by simp; omega
          clear hesc hA hE
          go_wp2_with (at_builtin; refine wpList_append_own _ rfl _ _ 72 rfl (w.heap.size + 1) 5 i0 _ 1 1 Tryz.underlying72 hi hz0 hz1 hz2 rfl (by omega) _ _ _ rfl (HBR.out.own.alloc _) ⟨_, 0, none⟩ 1 1 [.int .u8 (c.toNat : Int)] rfl rfl (news_one _ _ _ _ (by first | rfl | simp)) (one_int _) (by simp only [List.length_append, List.length_cons, List.length_nil]; unfold maxLen; omega) (by simp only [List.length_append, List.length_cons, List.length_nil]; omega) (Nat.le_trans HBR.out.hi (by simp)) ?_; intro v2 w2 hown hgrow _; have HB2 := Lib.hid (HBR.out.step (c := c) (by rfl) hown hgrow); clear hown hgrow)
          have HFIN := Lib.hid (HMK.out _ _ _ HB2.out (by simp [HESC.out]))
          go_roundw
          case rel => exact ⟨k + 1, by omega, by go_num, HFIN.out⟩
          case measure => simp [intOf]; omega
    · obtain rfl : k = t.length := by omega
      have hbr2 := HBR.out
      rw [List.take_length] at hbr2 hbk
      have HBE := Lib.hid hbr2
      clear hbr2 HBR
      go_wp2_with (at_builtin; refine wpList_append_lies _ rfl _ _ 72 rfl (w.heap.size + 1) 5 i0 _ 1 1 Tryz.underlying72 hi hz0 hz1 hz2 rfl (by omega) _ _ _ rfl (HBE.out.own.alloc _) ⟨_, 0, none⟩ 1 1 [.int .u8 34] rfl rfl (news_one _ _ _ _ (by first | rfl | simp)) (one_int _) (by omega) (by simp only [List.length_cons]; unfold maxLen; omega) (by simp only [List.length_cons]; omega) (Nat.le_trans HBE.out.hi (by simp)) (wr.heap.size + 1) (by simp) ?_; intro g cp w2 hown hgrow _ _; have HB9 := Lib.hid (HBE.out.step (c := 34) (by rfl) hown hgrow); have h9 := HB9.out.own; rw [show ((34 :: escT t ++ [34] : List UInt8)).length = (34 :: escT t : List UInt8).length + 1 by simp] at h9; have hcv := (Row8.of_owns h9).back (P := Tryz.prog) 72 9 5 cp Tryz.underlying72 Tryz.underlying5 Tryz.underlying9 ((34 :: escT t : List UInt8).length + 1) (by simp); simp only [List.length_cons] at hcv; clear hown hgrow h9)
      go_ret
      exact ⟨ret_s (by rfl), HW0.out.trans (HB9.out.below.mono (by simp))⟩

end Go.Proofs.YtjndgfppjdobiaaGreatDoor.Va
