/-
  VaPrint, VaPrintB, VaRows, VlApB, VlBld.
-/
import Derived.Test.YtlmmfhbdebfgkaaGreatDoorWTyNodeQ
import Derived.Test.YtlmmfhbdebfgkaaGreatDoorWShelf
import Derived.Deep.AppendLies
set_option linter.unusedVariables false
set_option linter.unusedSimpArgs false
set_option maxRecDepth 100000
set_option maxHeartbeats 3200000
namespace Go.Proofs.YtlmmfhbdebfgkaaGreatDoor.Va
open Go.RowKit
def u8C (l : List UInt8) : List Value := l.map fun c => .int .u8 (c.toNat : Int)
structure Buf (B : Nat) (W0 wr : World) (v : Value) (l : List UInt8) : Prop where
  own : wr.ownsRow B 5 1 v l.length (u8C l)
  below : Below B W0 wr
  hi : B ≤ wr.heap.size
theorem Buf.step {B : Nat} {W0 wr w' : World} {v v' : Value} {l : List UInt8} {c : UInt8} {x : Int} {o : Obj} (h : Buf B W0 wr v l) (hx : x = (c.toNat : Int)) (own : w'.ownsRow B 5 1 v' (l.length + 1) (u8C l ++ [.int .u8 x])) (gr : (wr.alloc o).grownBy w' v.ownBlock) : Buf B W0 w' v' (l ++ [c]) := by
  subst hx
  have hs := h.hi
  refine ⟨?_, (h.below.alloc hs o).grown gr (by simp; omega) (fun k hk => (h.own.lt k hk).1), ?_⟩
  · rw [List.length_append]
    have e : u8C (l ++ [c]) = u8C l ++ [.int .u8 (c.toNat : Int)] := by simp [u8C]
    rw [e]; exact own
  · have := gr.size; simp at this; omega
theorem news_one (w : World) (x : Value) (T : TypeId) (H : Nat) (hH : w.heap.size = H) : ∀ j u, ([x] : List Value)[j]? = some u → (w.alloc (.cells #[x] T)).cell? ((⟨H, 0, none⟩ : Addr).add j) = some u := fun j u hu => by
  subst hH
  rw [Addr.add_mid, cell_of_row _ _ _ _ _ (0, 0) (heap_alloc_new w _), Nat.zero_add]; simpa using hu
theorem one_int (x : Int) : ∀ u ∈ ([.int .u8 x] : List Value), u.oneCell' = true := by
  intro u hu
  simp only [List.mem_singleton] at hu
  subst hu; rfl
theorem escT_len (t : List UInt8) : (escT t).length ≤ 4 * t.length := by
  induction t with
  | nil => simp [escT]
  | cons c t ih =>
    have e1 : escT (c :: t) = esc c ++ escT t := rfl
    have : (esc c).length ≤ 4 := by unfold esc; split <;> (try split) <;> simp
    rw [e1, List.length_append, List.length_cons]; omega
theorem escT_snoc (t : List UInt8) (k : Nat) (h : k < t.length) : escT (t.take (k + 1)) = escT (t.take k) ++ esc (t.getD k 0) := by
  unfold escT
  rw [List.take_succ_eq_append_getElem h, List.flatMap_append]
  simp [List.getD, h]
def HEX : ByteArray := ⟨#[48, 49, 50, 51, 52, 53, 54, 55, 56, 57, 97, 98, 99, 100, 101, 102]⟩
theorem run_hex (k : Nat) (h : k < 16) (w : World) : (Instr.index 9 (.string ⟨#[48, 49, 50, 51, 52, 53, 54, 55, 56, 57, 97, 98, 99, 100, 101, 102]⟩) (.int .u8 (k : Int))).run Tryz.prog w = .ok (.int .u8 ((hexC k).toNat : Int)) w := by
  have : ∀ i : Fin 16, ∀ w, (Instr.index 9 (.string ⟨#[48, 49, 50, 51, 52, 53, 54, 55, 56, 57, 97, 98, 99, 100, 101, 102]⟩) (.int .u8 (i.val : Int))).run Tryz.prog w = .ok (.int .u8 ((hexC i.val).toNat : Int)) w := by
    intro i w
    match i with
    | ⟨0, _⟩ => rfl
    | ⟨1, _⟩ => rfl
    | ⟨2, _⟩ => rfl
    | ⟨3, _⟩ => rfl
    | ⟨4, _⟩ => rfl
    | ⟨5, _⟩ => rfl
    | ⟨6, _⟩ => rfl
    | ⟨7, _⟩ => rfl
    | ⟨8, _⟩ => rfl
    | ⟨9, _⟩ => rfl
    | ⟨10, _⟩ => rfl
    | ⟨11, _⟩ => rfl
    | ⟨12, _⟩ => rfl
    | ⟨13, _⟩ => rfl
    | ⟨14, _⟩ => rfl
    | ⟨15, _⟩ => rfl
    | ⟨k + 16, h⟩ => omega
  exact this ⟨k, h⟩ w
theorem refPrint_text (n : Int) (t : List UInt8) (l : List Int) (ht : t.length ≤ 100000) (a : Option Addr) (cap : Nat) (w : World) :
    Calls Tryz.prog 101 #[valC ⟨3, n, t, l⟩ a cap] w fun e w' => e = .returned (.string (S (34 :: (escT t ++ [34])))) ∧ Below w.heap.size w w' := by
  obtain ⟨i0, hi, hz0, hz1, hz2⟩ := info_parts info8
  have hts : (S t).size = t.length := S_size t
  have hti : (t.length : Int) ≤ 100000 := by omega
  have HW0 := Lib.hid ((Below.refl w.heap.size w).alloc (Nat.le_refl _) (.cells #[.int .i64 3, .int .i64 n, .string (S t), .slice a l.length cap] 52))
  have HBOX := Lib.hid (heap_alloc_new w (.cells #[.int .i64 3, .int .i64 n, .string (S t), .slice a l.length cap] 52))
  have HB0 := Lib.hid (show Buf (w.heap.size + 1) (w.alloc (.cells #[.int .i64 3, .int .i64 n, .string (S t), .slice a l.length cap] 52)) (w.alloc (.cells #[.int .i64 3, .int .i64 n, .string (S t), .slice a l.length cap] 52)) (.slice none 0 0) [] from ⟨World.ownsRow_nil _ _ _ _, Below.refl _ _, by simp⟩)
  unfold valC
  simp only
  go_enter Tryz.func101, Tryz.ntmps101
  go_wp2_with (at_builtin; refine wpList_append_own _ rfl _ _ 67 rfl (w.heap.size + 1) 5 i0 _ 1 1 Tryz.underlying67 hi hz0 hz1 hz2 rfl (by omega) _ _ _ rfl (HB0.out.own.alloc _) ⟨_, 0, none⟩ 1 1 [.int .u8 34] rfl rfl (news_one _ _ _ _ (by first | rfl | simp)) (one_int _) (by decide) (by decide) (Nat.le_trans HB0.out.hi (by simp)) ?_; intro v1 w1 hown hgrow _; have HB1 := Lib.hid (HB0.out.step (c := 34) (by rfl) hown hgrow); clear hown hgrow)
  have hbuf : Buf (w.heap.size + 1) (w.alloc (.cells #[.int .i64 3, .int .i64 n, .string (S t), .slice a l.length cap] 52)) w1 v1 (34 :: escT (t.take 0)) := HB1.out
  have HBS := Lib.hid hbuf
  clear hbuf
  go_loopw [3, 4] (fun v i wr => ∃ k : Nat, k ≤ t.length ∧ i = .int .i64 k ∧ Buf (w.heap.size + 1) (w.alloc (.cells #[.int .i64 3, .int .i64 n, .string (S t), .slice a l.length cap] 52)) wr v (34 :: escT (t.take k))) (fun _ i _ => t.length - (intOf i).toNat)
  case atStart => exact ⟨0, by omega, rfl, HBS.out⟩
  case round =>
    obtain ⟨k, hk, rfl, hbr⟩ := hrel
    have HBR := Lib.hid hbr
    have hx0 := (hbr.below.block w.heap.size (by omega)).trans HBOX.out
    have p2 : wr.cell? ⟨w.heap.size, 2, none⟩ = some (.string (S t)) := (cell_of_row wr _ 2 _ _ (0, 0) hx0).trans rfl
    have hbl := escT_len (t.take k)
    rw [List.length_take] at hbl
    have hbk : (escT (t.take k)).length ≤ 400000 := by omega
    clear hbr hx0 hbl
    by_cases hlt : k < t.length
    · have hki : (k : Int) < (t.length : Int) := by omega
      have hg := getElem_list (S t) k (by omega)
      rw [S_toList] at hg
      have hsn := escT_snoc t k hlt
      have HSN := Lib.hid hsn
      have hcb := byte_lt (t.getD k 0)
      generalize t.getD k 0 = c at *
      have hc : (S t)[k]'(by omega) = c := hg.symm
      have HMK := Lib.hid (fun (wr' : World) (v' : Value) (l' : List UInt8) (h : Buf (w.heap.size + 1) (w.alloc (.cells #[.int .i64 3, .int .i64 n, .string (S t), .slice a l.length cap] 52)) wr' v' l') (e : l' = (34 :: escT (t.take k)) ++ esc c) => show Buf (w.heap.size + 1) (w.alloc (.cells #[.int .i64 3, .int .i64 n, .string (S t), .slice a l.length cap] 52)) wr' v' (34 :: escT (t.take (k + 1))) from by rw [HSN.out, ← List.cons_append, ← e]; exact h)
      clear hg hsn
      by_cases hA : c.toNat < 32 ∨ 126 < c.toNat
      · have hq1 : c.toNat / 16 < 16 := by have := c.toNat_lt; omega
        have hq2 : c.toNat % 16 < 16 := by omega
        have hi1 := fun w => run_hex (c.toNat / 16) hq1 w
        have hi2 := fun w => run_hex (c.toNat % 16) hq2 w
        have hdiv : (c.toNat : Int) / 16 = ((c.toNat / 16 : Nat) : Int) := by omega
        have hmod : (c.toNat : Int) % 16 = ((c.toNat % 16 : Nat) : Int) := by omega
        have hesc : esc c = [92, 120, hexC (c.toNat / 16), hexC (c.toNat % 16)] := by
          unfold esc
          rw [if_pos]
          simp only [Bool.or_eq_true, decide_eq_true_eq]
          rcases hA with h | h
          · exact .inl (UInt8.lt_iff_toNat_lt.2 h)
          · exact .inr (UInt8.lt_iff_toNat_lt.2 h)
        have HESC := Lib.hid hesc
        clear hesc
        have hx1 : ((hexC (c.toNat / 16)).toNat : Int) < 256 := byte_lt _
        have hx2 : ((hexC (c.toNat % 16)).toNat : Int) < 256 := byte_lt _
        generalize hexC (c.toNat / 16) = y1 at *
        generalize hexC (c.toNat % 16) = y2 at *
        generalize c.toNat / 16 = q1 at *
        generalize c.toNat % 16 = q2 at *
        rcases (by omega : c.toNat < 32 ∨ (¬ c.toNat < 32 ∧ 126 < c.toNat)) with hA1 | ⟨hA1, hA2⟩
        all_goals
          have hA1i : (c.toNat : Int) < 32 ∨ ((32 : Int) ≤ (c.toNat : Int) ∧ (126 : Int) < (c.toNat : Int)) := by omega
          clear hA
          go_wp2_with (first
            | (at_builtin; refine wpList_append_own _ rfl _ _ 67 rfl (w.heap.size + 1) 5 i0 _ 1 1 Tryz.underlying67 hi hz0 hz1 hz2 rfl (by omega) _ _ _ rfl (HB4.out.own.alloc _) ⟨_, 0, none⟩ 1 1 [.int .u8 (y2.toNat : Int)] rfl rfl (news_one _ _ _ _ (by first | rfl | simp)) (one_int _) (by simp only [List.length_append, List.length_cons, List.length_nil]; unfold maxLen; omega) (by simp only [List.length_append, List.length_cons, List.length_nil]; omega) (Nat.le_trans HB4.out.hi (by simp)) ?_; intro v5 w5 hown hgrow _; have HB5 := Lib.hid (HB4.out.step (c := y2) (by rfl) hown hgrow); clear hown hgrow)
            | (at_builtin; refine wpList_append_own _ rfl _ _ 67 rfl (w.heap.size + 1) 5 i0 _ 1 1 Tryz.underlying67 hi hz0 hz1 hz2 rfl (by omega) _ _ _ rfl (HB3.out.own.alloc _) ⟨_, 0, none⟩ 1 1 [.int .u8 (y1.toNat : Int)] rfl rfl (news_one _ _ _ _ (by first | rfl | simp)) (one_int _) (by simp only [List.length_append, List.length_cons, List.length_nil]; unfold maxLen; omega) (by simp only [List.length_append, List.length_cons, List.length_nil]; omega) (Nat.le_trans HB3.out.hi (by simp)) ?_; intro v4 w4 hown hgrow _; have HB4 := Lib.hid (HB3.out.step (c := y1) (by rfl) hown hgrow); clear hown hgrow)
            | (at_builtin; refine wpList_append_own _ rfl _ _ 67 rfl (w.heap.size + 1) 5 i0 _ 1 1 Tryz.underlying67 hi hz0 hz1 hz2 rfl (by omega) _ _ _ rfl (HB2.out.own.alloc _) ⟨_, 0, none⟩ 1 1 [.int .u8 120] rfl rfl (news_one _ _ _ _ (by first | rfl | simp)) (one_int _) (by simp only [List.length_append, List.length_cons, List.length_nil]; unfold maxLen; omega) (by simp only [List.length_append, List.length_cons, List.length_nil]; omega) (Nat.le_trans HB2.out.hi (by simp)) ?_; intro v3 w3 hown hgrow _; have HB3 := Lib.hid (HB2.out.step (c := 120) (by rfl) hown hgrow); clear hown hgrow)
            | (at_builtin; refine wpList_append_own _ rfl _ _ 67 rfl (w.heap.size + 1) 5 i0 _ 1 1 Tryz.underlying67 hi hz0 hz1 hz2 rfl (by omega) _ _ _ rfl (HBR.out.own.alloc _) ⟨_, 0, none⟩ 1 1 [.int .u8 92] rfl rfl (news_one _ _ _ _ (by first | rfl | simp)) (one_int _) (by simp only [List.length_append, List.length_cons, List.length_nil]; unfold maxLen; omega) (by simp only [List.length_append, List.length_cons, List.length_nil]; omega) (Nat.le_trans HBR.out.hi (by simp)) ?_; intro v2 w2 hown hgrow _; have HB2 := Lib.hid (HBR.out.step (c := 92) (by rfl) hown hgrow); clear hown hgrow))
          have HFIN := Lib.hid (HMK.out _ _ _ HB5.out (by simp [HESC.out]))
          go_roundw
          case rel => exact ⟨k + 1, by omega, by go_num, HFIN.out⟩
          case measure => simp [intOf]; omega
      · by_cases hE : c.toNat = 34 ∨ c.toNat = 92
        · have hesc : esc c = [92, c] := by
            unfold esc
            have h1 : (decide (c < 32) || decide (126 < c)) = false := by
              simp only [Bool.or_eq_false_iff, decide_eq_false_iff_not, UInt8.lt_iff_toNat_lt]
              exact ⟨fun h => hA (.inl h), fun h => hA (.inr h)⟩
            rw [h1, if_neg (by simp), if_pos]
            simp only [Bool.or_eq_true, beq_iff_eq]
            rcases hE with h | h
            · exact .inl (UInt8.toNat_inj.1 h)
            · exact .inr (UInt8.toNat_inj.1 h)
          have HESC := Lib.hid hesc
          have hA1 : (32 : Int) ≤ (c.toNat : Int) := by omega
          have hA2 : (c.toNat : Int) ≤ 126 := by omega
          clear hesc hA
          rcases hE with hE | hE
          · obtain rfl : c = 34 := UInt8.toNat_inj.1 hE
            clear hE
            go_wp2_with (first
              | (at_builtin; refine wpList_append_own _ rfl _ _ 67 rfl (w.heap.size + 1) 5 i0 _ 1 1 Tryz.underlying67 hi hz0 hz1 hz2 rfl (by omega) _ _ _ rfl (HB2.out.own.alloc _) ⟨_, 0, none⟩ 1 1 [.int .u8 34] rfl rfl (news_one _ _ _ _ (by first | rfl | simp)) (one_int _) (by simp only [List.length_append, List.length_cons, List.length_nil]; unfold maxLen; omega) (by simp only [List.length_append, List.length_cons, List.length_nil]; omega) (Nat.le_trans HB2.out.hi (by simp)) ?_; intro v3 w3 hown hgrow _; have HB3 := Lib.hid (HB2.out.step (c := 34) (by rfl) hown hgrow); clear hown hgrow)
              | (at_builtin; refine wpList_append_own _ rfl _ _ 67 rfl (w.heap.size + 1) 5 i0 _ 1 1 Tryz.underlying67 hi hz0 hz1 hz2 rfl (by omega) _ _ _ rfl (HBR.out.own.alloc _) ⟨_, 0, none⟩ 1 1 [.int .u8 92] rfl rfl (news_one _ _ _ _ (by first | rfl | simp)) (one_int _) (by simp only [List.length_append, List.length_cons, List.length_nil]; unfold maxLen; omega) (by simp only [List.length_append, List.length_cons, List.length_nil]; omega) (Nat.le_trans HBR.out.hi (by simp)) ?_; intro v2 w2 hown hgrow _; have HB2 := Lib.hid (HBR.out.step (c := 92) (by rfl) hown hgrow); clear hown hgrow))
            have HFIN := Lib.hid (HMK.out _ _ _ HB3.out (by simp [HESC.out]))
            go_roundw
            case rel => exact ⟨k + 1, by omega, by go_num, HFIN.out⟩
            case measure => simp [intOf]; omega
          · obtain rfl : c = 92 := UInt8.toNat_inj.1 hE
            clear hE
            go_wp2_with (first
              | (at_builtin; refine wpList_append_own _ rfl _ _ 67 rfl (w.heap.size + 1) 5 i0 _ 1 1 Tryz.underlying67 hi hz0 hz1 hz2 rfl (by omega) _ _ _ rfl (HB2.out.own.alloc _) ⟨_, 0, none⟩ 1 1 [.int .u8 92] rfl rfl (news_one _ _ _ _ (by first | rfl | simp)) (one_int _) (by simp only [List.length_append, List.length_cons, List.length_nil]; unfold maxLen; omega) (by simp only [List.length_append, List.length_cons, List.length_nil]; omega) (Nat.le_trans HB2.out.hi (by simp)) ?_; intro v3 w3 hown hgrow _; have HB3 := Lib.hid (HB2.out.step (c := 92) (by rfl) hown hgrow); clear hown hgrow)
              | (at_builtin; refine wpList_append_own _ rfl _ _ 67 rfl (w.heap.size + 1) 5 i0 _ 1 1 Tryz.underlying67 hi hz0 hz1 hz2 rfl (by omega) _ _ _ rfl (HBR.out.own.alloc _) ⟨_, 0, none⟩ 1 1 [.int .u8 92] rfl rfl (news_one _ _ _ _ (by first | rfl | simp)) (one_int _) (by simp only [List.length_append, List.length_cons, List.length_nil]; unfold maxLen; omega) (by simp only [List.length_append, List.length_cons, List.length_nil]; omega) (Nat.le_trans HBR.out.hi (by simp)) ?_; intro v2 w2 hown hgrow _; have HB2 := Lib.hid (HBR.out.step (c := 92) (by rfl) hown hgrow); clear hown hgrow))
            have HFIN := Lib.hid (HMK.out _ _ _ HB3.out (by simp [HESC.out]))
            go_roundw
            case rel => exact ⟨k + 1, by omega, by go_num, HFIN.out⟩
            case measure => simp [intOf]; omega
        · have hesc : esc c = [c] := by
            unfold esc
            have h1 : (decide (c < 32) || decide (126 < c)) = false := by
              simp only [Bool.or_eq_false_iff, decide_eq_false_iff_not, UInt8.lt_iff_toNat_lt]
              exact ⟨fun h => hA (.inl h), fun h => hA (.inr h)⟩
            have h2 : (c == 34 || c == 92) = false := by
              simp only [Bool.or_eq_false_iff, beq_eq_false_iff_ne, ne_eq]
              exact ⟨fun h => hE (.inl (by rw [h]; rfl)), fun h => hE (.inr (by rw [h]; rfl))⟩
            rw [h1, if_neg (by simp), h2, if_neg (by simp)]
          have HESC := Lib.hid hesc
          have hA1 : (32 : Int) ≤ (c.toNat : Int) := by omega
          have hA2 : (c.toNat : Int) ≤ 126 := by omega
          have hE1 : ((c.toNat : Int) == 34) = false := by simp; omega
          have hE2 : ((c.toNat : Int) == 92) = false := by simp; omega
          have hE3 : (c.toNat == 34) = false := by simp; omega
          have hE4 : (c.toNat == 92) = false := by simp; omega
          clear hesc hA hE
          go_wp2_with (at_builtin; refine wpList_append_own _ rfl _ _ 67 rfl (w.heap.size + 1) 5 i0 _ 1 1 Tryz.underlying67 hi hz0 hz1 hz2 rfl (by omega) _ _ _ rfl (HBR.out.own.alloc _) ⟨_, 0, none⟩ 1 1 [.int .u8 (c.toNat : Int)] rfl rfl (news_one _ _ _ _ (by first | rfl | simp)) (one_int _) (by simp only [List.length_append, List.length_cons, List.length_nil]; unfold maxLen; omega) (by simp only [List.length_append, List.length_cons, List.length_nil]; omega) (Nat.le_trans HBR.out.hi (by simp)) ?_; intro v2 w2 hown hgrow _; have HB2 := Lib.hid (HBR.out.step (c := c) (by rfl) hown hgrow); clear hown hgrow)
          have HFIN := Lib.hid (HMK.out _ _ _ HB2.out (by simp [HESC.out]))
          go_roundw
          case rel => exact ⟨k + 1, by omega, by go_num, HFIN.out⟩
          case measure => simp [intOf]; omega
    · obtain rfl : k = t.length := by omega
      have hbr2 := HBR.out
      rw [List.take_length] at hbr2 hbk
      have HBE := Lib.hid hbr2
      clear hbr2 HBR
      go_wp2_with (at_builtin; refine wpList_append_lies _ rfl _ _ 67 rfl (w.heap.size + 1) 5 i0 _ 1 1 Tryz.underlying67 hi hz0 hz1 hz2 rfl (by omega) _ _ _ rfl (HBE.out.own.alloc _) ⟨_, 0, none⟩ 1 1 [.int .u8 34] rfl rfl (news_one _ _ _ _ (by first | rfl | simp)) (one_int _) (by omega) (by simp only [List.length_cons]; unfold maxLen; omega) (by simp only [List.length_cons]; omega) (Nat.le_trans HBE.out.hi (by simp)) (wr.heap.size + 1) (by simp) ?_; intro g cp w2 hown hgrow _ _; have HB9 := Lib.hid (HBE.out.step (c := 34) (by rfl) hown hgrow); have h9 := HB9.out.own; rw [show ((34 :: escT t ++ [34] : List UInt8)).length = (34 :: escT t : List UInt8).length + 1 by simp] at h9; have hcv := (Row8.of_owns h9).back (P := Tryz.prog) 67 9 5 cp Tryz.underlying67 Tryz.underlying5 Tryz.underlying9 ((34 :: escT t : List UInt8).length + 1) (by simp); simp only [List.length_cons] at hcv; clear hown hgrow h9)
      go_ret
      exact ⟨ret_s (by rfl), HW0.out.trans (HB9.out.below.mono (by simp))⟩
end Go.Proofs.YtlmmfhbdebfgkaaGreatDoor.Va
namespace Go.Proofs.YtlmmfhbdebfgkaaGreatDoor.Va
open Go.RowKit
theorem decZ_len (n : Int) (h1 : -9223372036854775808 ≤ n) (h2 : n ≤ 9223372036854775807) : (decZ n).length ≤ 20 := by
  unfold decZ
  split
  · rw [List.length_cons]; have := digs_len19 n.natAbs (by omega); omega
  · have := digs_len19 n.toNat (by omega); omega
theorem numsT_len (l : List Int) (h : ∀ n ∈ l, -9223372036854775808 ≤ n ∧ n ≤ 9223372036854775807) : (numsT l).length ≤ 22 * l.length := by
  induction l with
  | nil => simp [numsT]
  | cons n r ih =>
    have h1 := decZ_len n (h n (by simp)).1 (h n (by simp)).2
    have h2 := ih (fun m hm => h m (by simp [hm]))
    cases r with
    | nil => show (decZ n).length ≤ _; simp; omega
    | cons m r =>
      show (decZ n ++ 44 :: 32 :: numsT (m :: r)).length ≤ _
      simp only [List.length_append, List.length_cons] at h2 ⊢
      omega
structure VIn (v : V) : Prop where
  num : -9223372036854775808 ≤ v.num ∧ v.num ≤ 9223372036854775807
  text : v.text.length ≤ 100000
  list : v.list.length ≤ 1000
  nums : ∀ n ∈ v.list, -9223372036854775808 ≤ n ∧ n ≤ 9223372036854775807
end Go.Proofs.YtlmmfhbdebfgkaaGreatDoor.Va
namespace Go.Proofs.YtlmmfhbdebfgkaaGreatDoor.Va
open Go.RowKit
def ValAt (w : World) (b o : Nat) (v : V) : Prop := ∃ a cap, w.cell? ⟨b, o, none⟩ = some (.int .i64 v.kind) ∧ w.cell? ⟨b, o + 1, none⟩ = some (.int .i64 v.num) ∧ w.cell? ⟨b, o + 2, none⟩ = some (.string (S v.text)) ∧
  w.cell? ⟨b, o + 3, none⟩ = some (.slice a v.list.length cap) ∧ NumsAt w a v.list
def ValsAt (w : World) (a : Option Addr) (vs : List V) : Prop := ∀ i, (h : i < vs.length) → ∃ b off, a = some ⟨b, off, none⟩ ∧ ValAt w b (off + i * 4) vs[i] ∧ b < w.heap.size
theorem ValAt.below {w w' : World} {b o : Nat} {v : V} (h : ValAt w b o v) (hl : b < w.heap.size) (k : Below w.heap.size w w') : ValAt w' b o v := by
  obtain ⟨a, cap, h0, h1, h2, h3, h4⟩ := h
  exact ⟨a, cap, (k.cell (p := ⟨b, o, none⟩) hl).trans h0, (k.cell (p := ⟨b, o + 1, none⟩) hl).trans h1, (k.cell (p := ⟨b, o + 2, none⟩) hl).trans h2, (k.cell (p := ⟨b, o + 3, none⟩) hl).trans h3, h4.below k⟩
theorem ValsAt.below {w w' : World} {a : Option Addr} {vs : List V} (h : ValsAt w a vs) (k : Below w.heap.size w w') : ValsAt w' a vs := fun i hi => by
  obtain ⟨b, off, e, hv, hl⟩ := h i hi
  exact ⟨b, off, e, hv.below hl k, Nat.lt_of_lt_of_le hl k.size⟩
end Go.Proofs.YtlmmfhbdebfgkaaGreatDoor.Va
namespace Go.Proofs.YtlmmfhbdebfgkaaGreatDoor.Va
open Go.RowKit
theorem wpList_app {P : Program} {ops : Array Oper} {rest : List Oper} {o : Oper} {a : Act} {w : World} {Q : Exit → Act → World → Prop} (hgd : o.guard = none) (s x : Operand) (t u : TypeId)
    (ho : o.op = .call { callee := .builtin .append, args := #[s, x], argTypes := #[t, u] }) {v vx : Value} (hs : a.eval s = v) (hx : a.eval x = vx) (v' : Value) (w' : World)
    (hr : (Builtin.append_ #[t, u] o.type #[v, vx]).run P w = .ok v' w') (h : wpList P ops Q rest (a.put o.dst v') w') : wpList P ops Q (o :: rest) a w := by
  refine wpList_plain hgd fun K hK => ?_
  unfold Oper.wp execOp
  simp only [ho, resolve, invoke, builtin, Sem.run_bind, Sem.run_pure, Result.andThen_ok, List.map_toArray, List.map_cons, List.map_nil, hs, hx, hr]
  exact hK _ _ h
def Grew (H n : Nat) (v : Value) (xs : List Value) (w : World) (v' : Value) (w' : World) : Prop :=
  w'.ownsRowF H 5 1 v' n xs ∧ w.grownBy w' v.ownBlock ∧ (v'.ownBlock = v.ownBlock ∨ ∃ g, v'.ownBlock = some g ∧ w.heap.size ≤ g)
theorem app_byte (H : Nat) (v : Value) (n : Nat) (xs : List Value) (w : World) (hown : w.ownsRowF H 5 1 v n xs) (ad : Addr) (c : Int) (hc : w.cell? ad = some (.int .u8 c)) (hsp : ad.add 0 = ad) (h63 : n + 1 ≤ 140737488355328) (hH : H ≤ w.heap.size) :
    ∃ v' w', (Builtin.append_ #[67, 67] 67 #[v, .slice (some ad) 1 1]).run Tryz.prog w = .ok v' w' ∧ Grew H (n + 1) v (xs ++ [.int .u8 c]) w v' w' := by
  obtain ⟨i0, hi, hz0, hz1, hz2⟩ := info_parts info8
  have hnews : ∀ j u, [Value.int .u8 c][j]? = some u → w.cell? (ad.add j) = some u := fun j u hj => by
    match j, hj with
    | 0, hj => simp at hj; subst hj; rw [hsp]; exact hc
  have h1 : ∀ u ∈ [Value.int .u8 c], u.oneCell' = true := fun u hu => by simp at hu; subst hu; rfl
  have hm : n + 1 ≤ maxLen := by unfold maxLen; omega
  obtain ⟨v', w', hr, h2, h3, _⟩ := run_append_ownF (P := Tryz.prog) w H 67 67 5 i0 (.int .u8 0) 1 1 Tryz.underlying67 hi hz0 hz1 hz2 rfl (by decide) v n xs hown ad 1 1 [.int .u8 c] rfl hnews h1 hm (by omega) hH
  refine ⟨v', w', hr, h2, h3, ?_⟩
  rcases hown.2 with ⟨rfl, rfl⟩ | ⟨g, cap, cur, fz, rfl, _, hg, hfz, hnc, _, hcs, _⟩
  · obtain ⟨v2, w2, hr2, h22, _, _⟩ := run_append_own (P := Tryz.prog) w w.heap.size 67 67 5 i0 (.int .u8 0) 1 1 Tryz.underlying67 hi hz0 hz1 hz2 rfl (by decide) (.slice none 0 0) 0 xs ⟨hown.1, .inl ⟨rfl, rfl⟩⟩ ad 1 1 [.int .u8 c] rfl hnews h1 hm (by omega) (Nat.le_refl _)
    rw [hr] at hr2
    obtain ⟨rfl, rfl⟩ : v' = v2 ∧ w' = w2 := by injection hr2 with e1 e2; exact ⟨e1, e2⟩
    rcases h22.2 with ⟨_, h0⟩ | ⟨g, cap, cur, rfl, hb, _⟩
    · omega
    · exact .inr ⟨g, rfl, hb⟩
  · by_cases hroom : n + 1 ≤ cap
    · have hr2 := run_append_roomF (P := Tryz.prog) w 67 67 5 i0 Tryz.underlying67 hi g n cap cur fz hg (by rw [hz1]; exact hfz) ad 1 1 [.int .u8 c] (by rw [hz1]; rfl) hnews h1 hroom (by rw [hcs, hz1]; simp; omega)
      rw [hr] at hr2
      injection hr2 with e1 _
      subst e1
      exact .inl rfl
    · have hr2 := run_append_grow (P := Tryz.prog) w 67 67 5 i0 (.int .u8 0) Tryz.underlying67 hi hz0 ⟨g, 0, none⟩ n cap xs (by rw [hz1]; exact hown.1) (hown.cells (g := g) rfl) ad 1 1 [.int .u8 c] (by rw [hz1]; rfl) hnews (by omega) (by omega) (by rw [hz2]; exact growslice_fits (by omega) (by omega))
      rw [hr] at hr2
      injection hr2 with e1 _
      subst e1
      exact .inr ⟨_, rfl, Nat.le_refl _⟩
theorem app_string (H : Nat) (v : Value) (n : Nat) (xs : List Value) (w : World) (hown : w.ownsRowF H 5 1 v n xs) (s : ByteArray) (hs1 : 0 < s.size) (h63 : n + s.size ≤ 140737488355328) (hH : H ≤ w.heap.size) :
    ∃ v' w', (Builtin.append_ #[67, 9] 67 #[v, .string s]).run Tryz.prog w = .ok v' w' ∧ Grew H (n + s.size) v (xs ++ Lib.strCells s) w v' w' := by
  obtain ⟨i0, hi, hz0, hz1, hz2⟩ := info_parts info8
  have hm : n + s.size ≤ maxLen := by unfold maxLen; omega
  obtain ⟨v', w', hr, h2, h3, _⟩ := Lib.run_append_own_stringF (P := Tryz.prog) w H 67 9 67 5 i0 Tryz.underlying67 Tryz.underlying9 hi hz0 hz1 hz2 v n xs hown s hm h63 hH
  refine ⟨v', w', hr, h2, h3, ?_⟩
  rcases hown.2 with ⟨rfl, rfl⟩ | ⟨g, cap, cur, fz, rfl, _, hg, hfz, hnc, _, hcs, _⟩
  · obtain ⟨v2, w2, hr2, h22, _, _⟩ := Lib.run_append_own_stringF (P := Tryz.prog) w w.heap.size 67 9 67 5 i0 Tryz.underlying67 Tryz.underlying9 hi hz0 hz1 hz2 (.slice none 0 0) 0 xs ⟨hown.1, .inl ⟨rfl, rfl⟩⟩ s hm h63 (Nat.le_refl _)
    rw [hr] at hr2
    obtain ⟨rfl, rfl⟩ : v' = v2 ∧ w' = w2 := by injection hr2 with e1 e2; exact ⟨e1, e2⟩
    rcases h22.2 with ⟨_, h0⟩ | ⟨g, cap, cur, fz, rfl, hb, _⟩
    · omega
    · exact .inr ⟨g, rfl, hb⟩
  · by_cases hroom : n + s.size ≤ cap
    · have hr2 := Lib.run_append_room_stringF (P := Tryz.prog) w 67 9 67 5 i0 Tryz.underlying67 Tryz.underlying9 hi hz1 g n cap cur fz hg (by simpa using hfz) s hroom (by rw [hcs]; omega)
      rw [hr] at hr2
      injection hr2 with e1 _
      subst e1
      exact .inl rfl
    · have hr2 := Lib.run_append_grow_string (P := Tryz.prog) w 67 9 67 5 i0 (.int .u8 0) Tryz.underlying67 Tryz.underlying9 hi hz0 ⟨g, 0, none⟩ n cap xs (by rw [hz1]; exact hown.1) (hown.cells (g := g) rfl) s (by omega) (by omega) (by rw [hz2]; exact growslice_fits (by omega) (by omega))
      rw [hr] at hr2
      injection hr2 with e1 _
      subst e1
      exact .inr ⟨_, rfl, Nat.le_refl _⟩
end Go.Proofs.YtlmmfhbdebfgkaaGreatDoor.Va
namespace Go.Proofs.YtlmmfhbdebfgkaaGreatDoor.Va
open Go.RowKit
def Away (b r : Nat) (w : World) : Prop := r ≠ b ∧ r < w.heap.size ∧ ∃ p v, w.heap[b]? = some (.cells #[p, v] 69 (0, 0)) ∧ v.ownBlock ≠ some r
def KeepsB (b : Nat) (w w' : World) : Prop := ∀ r, Away b r w → w'.heap[r]? = w.heap[r]? ∧ Away b r w'
def BldAt (H b : Nat) (l : List UInt8) (w : World) : Prop := Lib.IsBuilderF 69 5 H b (Lib.byteCells l) w
theorem copyCheck_o (H b : Nat) (l : List UInt8) (w : World) (h : BldAt H b l w) :
    Calls Tryz.prog 65 #[.pointer (some ⟨b, 0, none⟩)] w fun e w' => e = .returned (.tuple #[]) ∧ Lib.BuilderAtF 69 5 H b (.pointer (some ⟨b, 0, none⟩)) (Lib.byteCells l) w' ∧ Below H w w' ∧ w.heap.size ≤ w'.heap.size ∧ KeepsB b w w' := by
  rcases h with h | h
  · refine (Any.Builder_copyCheck_fresh { Tryz.lays156 with } Tryz.Builder_Extra_156.toX72 b w h.cell0 h.shape h.frozen0).mono ?_
    rintro e w' ⟨rfl, rfl⟩
    refine ⟨rfl, h.used _, (Below.refl H w).setCell (p := ⟨b, 0, none⟩) h.1 _, by simp [World.setCell], ?_⟩
    rintro r ⟨h1, h2, p, v, h3, h4⟩
    refine ⟨Below.heap_setCell _ _ _ _ h1, h1, by simpa [World.setCell] using h2, .pointer (some ⟨b, 0, none⟩), v, ?_, h4⟩
    simp [World.setCell, Array.getElem?_modify, h3]
  · refine (Any.Builder_copyCheck_used { Tryz.lays156 with } Tryz.Builder_Extra_156.toX72 b w h.cell0).mono ?_
    rintro e w' ⟨rfl, rfl⟩
    exact ⟨rfl, h, Below.refl H _, Nat.le_refl _, fun r hr => ⟨rfl, hr⟩⟩
theorem WriteByte_o (H b : Nat) (l : List UInt8) (c : UInt8) (w : World) (h : BldAt H b l w) (hlen : l.length + 1 ≤ 140737488355328) (hH : H ≤ w.heap.size) :
    Calls Tryz.prog 156 #[.pointer (some ⟨b, 0, none⟩), .int .u8 (c.toNat : Int)] w fun e w' => e = .returned .nilIface ∧ BldAt H b (l ++ [c]) w' ∧ Below H w w' ∧ w.heap.size ≤ w'.heap.size ∧ KeepsB b w w' := by
  obtain ⟨i0, hi, hz0, hz1, hz2⟩ := info_parts info8
  have hbl : (Lib.byteCells l).length = l.length := Lib.byteCells_length l
  have HC := Lib.hid (copyCheck_o H b l w h)
  clear h
  go_enter Tryz.func156, Tryz.ntmps156
  go_wp2_with fail
  refine HC.out.mono ?_
  rintro e w1 ⟨rfl, ⟨hB, v, hbk, hown, hne⟩, hb1, hsz1, hk1⟩
  have c0 : w1.cell? ⟨b, 0, none⟩ = some (.pointer (some ⟨b, 0, none⟩)) := by rw [Lib.cell_of_heap hbk]; rfl
  have c1 : w1.cell? ⟨b, 1, none⟩ = some v := by rw [Lib.cell_of_heap hbk]; rfl
  have hlt : b < w1.heap.size := lt_of_heapV hbk
  rw [hbl] at hown
  obtain ⟨v2, w2, hrun, hown2, hgrow, hwhere⟩ := app_byte H v l.length (Lib.byteCells l) (w1.alloc (.cells #[.int .u8 (c.toNat : Int)] 5)) (hown.alloc _) ⟨w1.heap.size, 0, none⟩ (c.toNat : Int) (by simp) rfl hlen (by simp; omega)
  have hb2 : w2.heap[b]? = some (.cells #[.pointer (some ⟨b, 0, none⟩), v] 69 (0, 0)) := by
    rw [hgrow.block b (by simp; omega) (fun e => hne e.symm), Below.heap_alloc _ _ _ hlt]
    exact hbk
  have d1 : w2.cell? ⟨b, 1, none⟩ = some v := by rw [Lib.cell_of_heap hb2]; rfl
  have hsz2 := hgrow.size
  have f1 : w2.frozen? ⟨b, 1, none⟩ = false := Lib.frozen_of_heap hb2 1
  obtain ⟨g, cap, rfl⟩ : ∃ g cap, v2 = .slice (some ⟨g, 0, none⟩) (l.length + 1) cap := by
    rcases hown2.2 with ⟨_, h0⟩ | ⟨g, cap, cur, fz, hv, _⟩
    · omega
    · exact ⟨g, cap, hv⟩
  have hfin : BldAt H b (l ++ [c]) (w2.setCell ⟨b, 1, none⟩ (.slice (some ⟨g, 0, none⟩) (l.length + 1) cap)) := by
    refine Or.inr (Lib.BuilderAtF.put (T := 69) (e := 5) hB hb2 (bs' := Lib.byteCells (l ++ [c])) ?_ Tryz.Builder_Extra_156.neB5)
    rw [Lib.byteCells_append, List.length_append, hbl]
    exact hown2
  have hbel : Below H w (w2.setCell ⟨b, 1, none⟩ (.slice (some ⟨g, 0, none⟩) (l.length + 1) cap)) :=
    ((hb1.alloc (by omega) _).grown hgrow (by simp; omega) (fun k hk => (hown.lt k hk).1)).setCell (p := ⟨b, 1, none⟩) hB _
  have hs2 : w1.heap.size + 1 ≤ w2.heap.size := by have := hgrow.size; simpa using this
  have hkeep : KeepsB b w (w2.setCell ⟨b, 1, none⟩ (.slice (some ⟨g, 0, none⟩) (l.length + 1) cap)) := by
    intro r hr
    obtain ⟨e1, n1, n2, p, v', n3, n4⟩ := hk1 r hr
    rw [hbk] at n3
    obtain ⟨rfl, rfl⟩ : (Value.pointer (some ⟨b, 0, none⟩)) = p ∧ v = v' := by simpa using n3
    have hr2 : w2.heap[r]? = w1.heap[r]? := by rw [hgrow.block r (by simp; omega) (fun e => n4 e.symm), Below.heap_alloc _ _ _ n2]
    refine ⟨by rw [Below.heap_setCell _ _ _ _ n1, hr2, e1], n1, by simp [World.setCell]; omega, .pointer (some ⟨b, 0, none⟩), .slice (some ⟨g, 0, none⟩) (l.length + 1) cap, by simp [World.setCell, Array.getElem?_modify, hb2], ?_⟩
    intro eg
    have eg' : g = r := by simpa [Value.ownBlock] using eg
    subst eg'
    rcases hwhere with e | ⟨g', e, hg'⟩
    · exact n4 (by rw [← e]; rfl)
    · have : g = g' := by simpa [Value.ownBlock] using e
      simp at hg'
      omega
  have hss : w.heap.size ≤ (w2.setCell ⟨b, 1, none⟩ (.slice (some ⟨g, 0, none⟩) (l.length + 1) cap)).heap.size := by simp [World.setCell]; omega
  have HF := Lib.hid hfin
  have HBE := Lib.hid hbel
  have HKE := Lib.hid hkeep
  have HSS := Lib.hid hss
  have HRUN := Lib.hid hrun
  clear hfin hbel hkeep hss hown hown2 hgrow hb1 hk1 hbl hrun hwhere hsz2 hb2
  go_wp2_with (at_builtin; refine wpList_app rfl _ _ _ _ rfl rfl rfl _ _ HRUN.out ?_)
  go_wp2_with fail
  go_ret
  exact ⟨rfl, HF.out, HBE.out, HSS.out, HKE.out⟩
theorem WriteString_o (H b : Nat) (l : List UInt8) (s : List UInt8) (hs : s ≠ []) (w : World) (h : BldAt H b l w) (hlen : l.length + s.length ≤ 140737488355328) (hH : H ≤ w.heap.size) :
    Calls Tryz.prog 38 #[.pointer (some ⟨b, 0, none⟩), .string (S s)] w fun e w' => e = .returned (.tuple #[.int .i64 (s.length : Int), .nilIface]) ∧ BldAt H b (l ++ s) w' ∧ Below H w w' ∧ w.heap.size ≤ w'.heap.size ∧ KeepsB b w w' := by
  obtain ⟨i0, hi, hz0, hz1, hz2⟩ := info_parts info8
  have hss0 : (S s).size = s.length := S_size s
  have hs0 : 0 < s.length := List.length_pos_iff.2 hs
  have hsc : Lib.strCells (S s) = Lib.byteCells s := by simp [Lib.strCells, Lib.byteCells, S]
  have hbl : (Lib.byteCells l).length = l.length := Lib.byteCells_length l
  have HC := Lib.hid (copyCheck_o H b l w h)
  clear h
  go_enter Tryz.func38, Tryz.ntmps38
  go_wp2_with fail
  refine HC.out.mono ?_
  rintro e w1 ⟨rfl, ⟨hB, v, hbk, hown, hne⟩, hb1, hsz1, hk1⟩
  have c0 : w1.cell? ⟨b, 0, none⟩ = some (.pointer (some ⟨b, 0, none⟩)) := by rw [Lib.cell_of_heap hbk]; rfl
  have c1 : w1.cell? ⟨b, 1, none⟩ = some v := by rw [Lib.cell_of_heap hbk]; rfl
  have hlt : b < w1.heap.size := lt_of_heapV hbk
  rw [hbl] at hown
  obtain ⟨v2, w2, hrun, hown2, hgrow, hwhere⟩ := app_string H v l.length (Lib.byteCells l) w1 hown (S s) (by rw [hss0]; omega) (by rw [hss0]; omega) (by omega)
  rw [hsc, hss0] at hown2
  have hb2 : w2.heap[b]? = some (.cells #[.pointer (some ⟨b, 0, none⟩), v] 69 (0, 0)) := by
    rw [hgrow.block b hlt (fun e => hne e.symm)]
    exact hbk
  have d1 : w2.cell? ⟨b, 1, none⟩ = some v := by rw [Lib.cell_of_heap hb2]; rfl
  have hsz2 := hgrow.size
  have f1 : w2.frozen? ⟨b, 1, none⟩ = false := Lib.frozen_of_heap hb2 1
  obtain ⟨g, cap, rfl⟩ : ∃ g cap, v2 = .slice (some ⟨g, 0, none⟩) (l.length + s.length) cap := by
    rcases hown2.2 with ⟨_, h0⟩ | ⟨g, cap, cur, fz, hv, _⟩
    · omega
    · exact ⟨g, cap, hv⟩
  have hfin : BldAt H b (l ++ s) (w2.setCell ⟨b, 1, none⟩ (.slice (some ⟨g, 0, none⟩) (l.length + s.length) cap)) := by
    refine Or.inr (Lib.BuilderAtF.put (T := 69) (e := 5) hB hb2 (bs' := Lib.byteCells (l ++ s)) ?_ Tryz.Builder_Extra_156.neB5)
    rw [Lib.byteCells_append, List.length_append, hbl, Lib.byteCells_length]
    exact hown2
  have hbel : Below H w (w2.setCell ⟨b, 1, none⟩ (.slice (some ⟨g, 0, none⟩) (l.length + s.length) cap)) :=
    (hb1.grown hgrow (by omega) (fun k hk => (hown.lt k hk).1)).setCell (p := ⟨b, 1, none⟩) hB _
  have hs2 : w1.heap.size ≤ w2.heap.size := hgrow.size
  have hkeep : KeepsB b w (w2.setCell ⟨b, 1, none⟩ (.slice (some ⟨g, 0, none⟩) (l.length + s.length) cap)) := by
    intro r hr
    obtain ⟨e1, n1, n2, p, v', n3, n4⟩ := hk1 r hr
    rw [hbk] at n3
    obtain ⟨rfl, rfl⟩ : (Value.pointer (some ⟨b, 0, none⟩)) = p ∧ v = v' := by simpa using n3
    have hr2 : w2.heap[r]? = w1.heap[r]? := by rw [hgrow.block r n2 (fun e => n4 e.symm)]
    refine ⟨by rw [Below.heap_setCell _ _ _ _ n1, hr2, e1], n1, by simp [World.setCell]; omega, .pointer (some ⟨b, 0, none⟩), .slice (some ⟨g, 0, none⟩) (l.length + s.length) cap, by simp [World.setCell, Array.getElem?_modify, hb2], ?_⟩
    intro eg
    have eg' : g = r := by simpa [Value.ownBlock] using eg
    subst eg'
    rcases hwhere with e | ⟨g', e, hg'⟩
    · exact n4 (by rw [← e]; rfl)
    · have : g = g' := by simpa [Value.ownBlock] using e
      omega
  have hss : w.heap.size ≤ (w2.setCell ⟨b, 1, none⟩ (.slice (some ⟨g, 0, none⟩) (l.length + s.length) cap)).heap.size := by simp [World.setCell]; omega
  have HF := Lib.hid hfin
  have HBE := Lib.hid hbel
  have HKE := Lib.hid hkeep
  have HSS := Lib.hid hss
  have HRUN := Lib.hid hrun
  clear hfin hbel hkeep hss hown hown2 hgrow hb1 hk1 hbl hrun hwhere hsz2 hb2 hsc
  go_wp2_with (at_builtin; refine wpList_app rfl _ _ _ _ rfl rfl rfl _ _ HRUN.out ?_)
  go_wp2_with fail
  go_ret2
  exact ⟨rfl, HF.out, HBE.out, HSS.out, HKE.out⟩
end Go.Proofs.YtlmmfhbdebfgkaaGreatDoor.Va
