/-
  LxUnquo, LxSym.
-/
import Derived.Test.YtlmmfhbdebfgkaaGreatDoorZLxUintQ
import Derived.Test.YtlmmfhbdebfgkaaGreatDoorZVlBldQ
import Derived.Test.YtlmmfhbdebfgkaaGreatDoorZLxGoodQ
namespace Go.Proofs.YtlmmfhbdebfgkaaGreatDoor.Lx
open Go.RowKit
open Va
theorem bld_later {H b : Nat} {l : List UInt8} {w w' : World} (h : BldAt H b l w) (hb : Below w.heap.size w w') : BldAt H b l w' := by
  have one : ∀ p, Lib.BuilderAtF 69 5 H b p (Lib.byteCells l) w → Lib.BuilderAtF 69 5 H b p (Lib.byteCells l) w' := by
    intro p h1
    obtain ⟨hH, v, hv, hown, hne⟩ := h1
    exact ⟨hH, v, (hb.block b (lt_of_heapV hv)).trans hv, hown.kept (row := none) ⟨hb.os, hb.tape, hb.output, hb.size, fun k hk _ => hb.block k hk⟩ (Classical.em _), hne⟩
  rcases h with h | h
  · exact .inl (one _ h)
  · exact .inr (one _ h)
structure Unq (r t0 : List UInt8) (k : Nat) : Prop where
  loose : Loose r t0 k
  le : k ≤ r.length
  len : t0.length ≤ k
  stop : k = r.length ∨ (r.drop k).head? = some 34
structure UnS (s : ByteArray) (w : World) (m : Nat) (t0 : List UInt8) (wr : World) : Prop where
  loose : Loose (s.data.toList.drop 1) t0 (m - 1)
  len : t0.length ≤ m - 1
  bld : BldAt w.heap.size w.heap.size t0 wr
  below : Below w.heap.size w wr
  size : w.heap.size ≤ wr.heap.size
set_option linter.unusedSimpArgs false
set_option maxRecDepth 100000 in
set_option maxHeartbeats 3200000 in
theorem unquote_any (s : ByteArray) (hs : s.size ≤ 100000) (hs1 : 1 ≤ s.size) (w : World) (he : ErrAt w 6) :
    Calls Tryz.prog 126 #[.string s] w fun e w' => (∃ t0 k, Unq (s.data.toList.drop 1) t0 k ∧ e = .returned (.tuple #[.string (S t0), .int .i64 ((min (k + 2) s.size : Nat) : Int)])) ∧ Below w.heap.size w w' := by
  have hls := list_size s
  have HWB := Lib.hid (fun (l : List UInt8) (c : UInt8) (wr : World) (h : BldAt w.heap.size w.heap.size l wr) (hl : l.length ≤ 5000000) (hH : w.heap.size ≤ wr.heap.size) => WriteByte_o w.heap.size w.heap.size l c wr h (by omega) hH)
  have HST := Lib.hid (fun (l : List UInt8) (wr : World) (h : BldAt w.heap.size w.heap.size l wr) (hH : w.heap.size ≤ wr.heap.size) => Tryz.Builder_String_any_k w.heap.size w.heap.size l wr h hH)
  have HB0 := Lib.hid (show UnS s w 1 [] (w.alloc (.cells #[.pointer none, .slice none 0 0] 69)) from ⟨loose_zero _, by simp, Lib.IsBuilderF.of (Lib.fresh_isBuilder _ _ w), (Below.refl w.heap.size w).alloc (Nat.le_refl _) _, by simp⟩)
  have HUN := Lib.hid (fun (m : Nat) (hm : m < s.size) (wr : World) (hb : Below w.heap.size w wr) => show Calls Tryz.prog 164 #[.string (s.extract m s.size)] wr fun e w' => (∃ (b : UInt8) (n : Nat), e = .returned (unV (b, n)) ∧ 1 ≤ n ∧ m + n ≤ s.size ∧ ∀ c q, (s.data.toList.drop 1).drop (m - 1) = esc c ++ q → m ≠ 0 → b = c ∧ n = (esc c).length) ∧ Below wr.heap.size wr w' from by
    have hz : (s.extract m s.size).size = s.size - m := by rw [ByteArray.size_extract]; omega
    have hl : (s.extract m s.size).data.toList = s.data.toList.drop m := by
      rw [S_extract, S_toList, List.take_of_length_le (by rw [List.length_drop, hls]; exact Nat.le_refl _)]
    refine (unescape_any (s.extract m s.size) (by omega) (by omega) wr (he.below hb)).mono ?_
    rintro e w' ⟨rfl, hb'⟩
    rw [hl]
    have hne : s.data.toList.drop m ≠ [] := by
      intro e
      have := congrArg List.length e
      rw [List.length_drop, hls] at this
      simp at this
      omega
    obtain ⟨h1, h2⟩ := unescM_len _ hne
    rw [List.length_drop, hls] at h2
    refine ⟨⟨(unescM (s.data.toList.drop m)).1, (unescM (s.data.toList.drop m)).2, rfl, h1, by omega, ?_⟩, hb'⟩
    intro c q hq hm0
    rw [List.drop_drop, show 1 + (m - 1) = m by omega] at hq
    rw [hq, unescM_esc]
    exact ⟨rfl, rfl⟩)
  have HHD := Lib.hid (fun (m : Nat) (hm : m < s.size) (h1 : 1 ≤ m) => show ((s.data.toList.drop 1).drop (m - 1)).head? = some s[m] from by
    rw [List.drop_drop, show 1 + (m - 1) = m by omega, List.head?_drop, ← getElem_list s m hm]
    simp [List.getD, List.getElem?_eq_getElem (show m < s.data.toList.length by omega)])
  have HLR := Lib.hid (show (s.data.toList.drop 1).length = s.size - 1 by rw [List.length_drop, hls])
  have hsi : (1 : Int) ≤ (s.size : Int) := by omega
  have hsj : (s.size : Int) ≤ 100000 := by omega
  clear he hls
  go_enter Tryz.func126, Tryz.ntmps126
  go_wp2_with fail
  go_loopw [5] (fun v wr => ∃ (m : Nat) (t0 : List UInt8), v = .int .i64 m ∧ 1 ≤ m ∧ m ≤ s.size ∧ UnS s w m t0 wr) (fun v _ => s.size - (intOf v).toNat)
  case atStart => exact ⟨1, [], rfl, by omega, by omega, HB0.out⟩
  case round =>
    obtain ⟨m, t0, rfl, hm1, hm2, hu⟩ := hrel
    have HU := Lib.hid hu
    clear hu
    have htl : t0.length ≤ 100000 := by have := HU.out.len; omega
    by_cases hlt : m < s.size
    · have hmi : (m : Int) < (s.size : Int) := by omega
      have HH := Lib.hid (HHD.out m hlt hm1)
      have hsm : s[m]'hlt = s[m] := rfl
      clear hsm
      obtain ⟨c, hc⟩ : ∃ c, s[m] = c := ⟨_, rfl⟩
      rw [hc] at HH
      by_cases h34 : c = 34
      · subst h34
        have HE := Lib.hid (show Unq (s.data.toList.drop 1) t0 (m - 1) from ⟨HU.out.loose, by have := HLR.out; omega, HU.out.len, .inr HH.out⟩)
        have hmin : ((min (m - 1 + 2) s.size : Nat) : Int) = min ((m : Int) + 1) (s.size : Int) := by omega
        have HMIN := Lib.hid hmin
        clear hmin
        go_wp2_with fail
        refine (HST.out _ _ HU.out.bld HU.out.size).mono ?_
        rintro e w4 ⟨rfl, _, be4, _⟩
        have HB4 := Lib.hid (HU.out.below.trans be4)
        clear be4
        go_wp2_with fail
        go_ret2
        exact ⟨⟨t0, m - 1, HE.out, by rw [HMIN.out]; rfl⟩, HB4.out⟩
      · have hcb : ((c.toNat : Int) == 34) = false := byte_ne c 34 h34
        have hcn : ((c.toNat : Int) != 34) = true := by simp only [bne, hcb, Bool.not_false]
        have HNE := Lib.hid (show ((s.data.toList.drop 1).drop (m - 1)).head? ≠ some 34 by rw [HH.out]; simpa using h34)
        clear h34
        go_wp2_with fail
        refine (HUN.out m hlt _ HU.out.below).mono ?_
        rintro e w3 ⟨⟨b, n, rfl, hn1, hn2, hnb⟩, b3⟩
        have HNB := Lib.hid hnb
        have HB3 := Lib.hid b3
        have hsz3 := b3.size
        clear hnb b3
        unfold unV
        go_wp2_with fail
        refine (HWB.out t0 b _ (bld_later HU.out.bld HB3.out) (by omega) (by have := HU.out.size; omega)).mono ?_
        rintro e w4 ⟨rfl, b4, be4, hs4, hk4⟩
        have HU4 := Lib.hid (show UnS s w (m + n) (t0 ++ [b]) w4 from ⟨by
            have := loose_step _ _ _ n b HU.out.loose HNE.out (fun c q hq => HNB.out c q hq (by omega))
            rw [show m + n - 1 = m - 1 + n by omega]; exact this, by have := HU.out.len; simp; omega, b4, (HU.out.below.trans (HB3.out.mono HU.out.size)).trans be4, by have := HU.out.size; omega⟩)
        clear b4 be4 hs4 hk4
        go_wp2_with fail
        go_roundw
        case rel => exact ⟨m + n, t0 ++ [b], by go_num, by omega, by omega, HU4.out⟩
        case measure => simp [intOf]; omega
    · obtain rfl : m = s.size := by omega
      have HE := Lib.hid (show Unq (s.data.toList.drop 1) t0 (s.size - 1) from ⟨HU.out.loose, by have := HLR.out; omega, HU.out.len, .inl (by have := HLR.out; omega)⟩)
      have HMIN := Lib.hid (show ((min (s.size - 1 + 2) s.size : Nat) : Int) = min ((s.size : Int) + 1) (s.size : Int) by omega)
      go_wp2_with fail
      refine (HST.out _ _ HU.out.bld HU.out.size).mono ?_
      rintro e w4 ⟨rfl, _, be4, _⟩
      have HB4 := Lib.hid (HU.out.below.trans be4)
      clear be4
      go_wp2_with fail
      go_ret2
      exact ⟨⟨t0, s.size - 1, HE.out, by rw [HMIN.out]; rfl⟩, HB4.out⟩
end Go.Proofs.YtlmmfhbdebfgkaaGreatDoor.Lx
namespace Go.Proofs.YtlmmfhbdebfgkaaGreatDoor.Lx
open Go.RowKit
open Va
theorem alloc_cell (X : World) (o : Obj) (b j : Nat) (h : b < X.heap.size) : (X.alloc o).cell? ⟨b, j, none⟩ = X.cell? ⟨b, j, none⟩ := by
  unfold World.cell?
  simp only [Below.heap_alloc X o b h]
def symM (l : List UInt8) : Option Tok := match nameM l with
  | none => none
  | some x => some ⟨4, x.text, 0, x.len + 1⟩
theorem nameM_cases (l : List UInt8) : nameM l = none ∨ ∃ n, nameM l = some ⟨1, n, 0, n.length⟩ ∧ 1 ≤ n.length ∧ n.length ≤ l.length := by
  unfold nameM
  by_cases h : nameB (l.takeWhile wordB) = true
  · right
    refine ⟨l.takeWhile wordB, by simp only [h, if_true], ?_, takeWhile_le _ _⟩
    have := (nameB_ne h).1
    exact List.length_pos_iff.2 this
  · left
    simp only [if_neg h]
set_option linter.unusedSimpArgs false
set_option maxRecDepth 100000 in
set_option maxHeartbeats 1600000 in
theorem symbol_any (s : ByteArray) (hs : s.size ≤ 100000) (hs1 : 1 ≤ s.size) (w : World) :
    Calls Tryz.prog 76 #[.string s] w fun e w' => e = .returned (ansV (symM (s.data.toList.drop 1))) ∧ Below w.heap.size w w' := by
  have hls := list_size s
  have hex : (s.extract 1 s.size).data.toList = s.data.toList.drop 1 := by
    rw [S_extract, S_toList, List.take_of_length_le (by rw [List.length_drop, hls]; exact Nat.le_refl _)]
  have hNM := name_any (s.extract 1 s.size) (by rw [ByteArray.size_extract]; omega)
  rw [hex] at hNM
  have HNM := Lib.hid hNM
  have HG0 := Lib.hid (Good.refl (w.alloc (tokO 0 [] 0 0)))
  have HBOX := Lib.hid (box_here w 0 [] 0 0)
  have HFIN := Lib.hid (fun (wr : World) (h : Good (w.alloc (tokO 0 [] 0 0)) wr) => ((Below.refl w.heap.size w).alloc (Nat.le_refl _) (tokO 0 [] 0 0)).trans (h.mono (by simp)))
  have hsi : (1 : Int) ≤ (s.size : Int) := by omega
  have hll : (s.data.toList.drop 1).length ≤ s.size := by rw [List.length_drop, hls]; omega
  have hSY : symM (s.data.toList.drop 1) = match nameM (s.data.toList.drop 1) with
    | none => none
    | some x => some ⟨4, x.text, 0, x.len + 1⟩ := rfl
  have hcs := nameM_cases (s.data.toList.drop 1)
  generalize s.data.toList.drop 1 = l at *
  clear hls hex hNM
  rcases hcs with hn | ⟨n, hn, hn1, hn2⟩
  · rw [hn] at HNM hSY
    have HSY := Lib.hid hSY
    clear hSY hn
    go_enter Tryz.func76, Tryz.ntmps76
    go_wp2_with fail
    refine (HNM.out _).mono ?_
    rintro e w1 ⟨rfl, b1⟩
    have HG1 := Lib.hid (HG0.out.step b1)
    have hlt : w.heap.size < w1.heap.size := by have := b1.size; simp at this; omega
    obtain ⟨⟨c0, c1, c2, c3⟩, f0, f1, f2, f3⟩ := HBOX.out _ HG1.out
    clear b1
    unfold ansV tokC
    go_wp2_with fail
    rw [HSY.out]
    obtain ⟨d0, d1, d2, d3⟩ := put4 c0 c1 c2 c3 (.int .i64 0) (.string ⟨#[]⟩) (.int .i64 0) (.int .i64 0)
    have hX : ∀ (o : Obj) (j : Nat), (((((w1.setCell ⟨w.heap.size, 0, none⟩ (.int .i64 0)).setCell ⟨w.heap.size, 1, none⟩ (.string ⟨#[]⟩)).setCell ⟨w.heap.size, 2, none⟩ (.int .i64 0)).setCell ⟨w.heap.size, 3, none⟩ (.int .i64 0)).alloc o).cell? ⟨w.heap.size, j, none⟩ = ((((w1.setCell ⟨w.heap.size, 0, none⟩ (.int .i64 0)).setCell ⟨w.heap.size, 1, none⟩ (.string ⟨#[]⟩)).setCell ⟨w.heap.size, 2, none⟩ (.int .i64 0)).setCell ⟨w.heap.size, 3, none⟩ (.int .i64 0)).cell? ⟨w.heap.size, j, none⟩ := fun o j => alloc_cell _ o _ j (by simp [World.setCell]; exact hlt)
    exact bodyPost_ret (v := ansV none) (by simp [results, hX, d0, d1, d2, d3, S, Tryz.results76, go_sem, ansV, tokC]) rfl ⟨rfl, (((((HFIN.out _ HG1.out).setCell (p := ⟨w.heap.size, 0, none⟩) (Nat.le_refl _) _).setCell (p := ⟨w.heap.size, 1, none⟩) (Nat.le_refl _) _).setCell (p := ⟨w.heap.size, 2, none⟩) (Nat.le_refl _) _).setCell (p := ⟨w.heap.size, 3, none⟩) (Nat.le_refl _) _).alloc (by simp [World.setCell]; omega) _⟩
  · rw [hn] at HNM hSY
    have HSY := Lib.hid hSY
    have hni : ((n.length : Int) == 0) = false := by rw [beq_eq_false_iff_ne]; omega
    have hnn : (n.length == 0) = false := by rw [beq_eq_false_iff_ne]; omega
    have hnl : (n.length : Int) ≤ 100000 := by omega
    have hn1i : (1 : Int) ≤ (n.length : Int) := by omega
    clear hSY hn
    go_enter Tryz.func76, Tryz.ntmps76
    go_wp2_with fail
    refine (HNM.out _).mono ?_
    rintro e w1 ⟨rfl, b1⟩
    have HG1 := Lib.hid (HG0.out.step b1)
    have hlt : w.heap.size < w1.heap.size := by have := b1.size; simp at this; omega
    obtain ⟨⟨c0, c1, c2, c3⟩, f0, f1, f2, f3⟩ := HBOX.out _ HG1.out
    clear b1
    unfold ansV tokC
    go_wp2_with fail
    rw [HSY.out]
    obtain ⟨d0, d1, d2, d3⟩ := put4 c0 c1 c2 c3 (.int .i64 4) (.string (S n)) (.int .i64 0) (.int .i64 0)
    have hX : ∀ (o : Obj) (j : Nat), (((((w1.setCell ⟨w.heap.size, 0, none⟩ (.int .i64 4)).setCell ⟨w.heap.size, 1, none⟩ (.string (S n))).setCell ⟨w.heap.size, 2, none⟩ (.int .i64 0)).setCell ⟨w.heap.size, 3, none⟩ (.int .i64 0)).alloc o).cell? ⟨w.heap.size, j, none⟩ = ((((w1.setCell ⟨w.heap.size, 0, none⟩ (.int .i64 4)).setCell ⟨w.heap.size, 1, none⟩ (.string (S n))).setCell ⟨w.heap.size, 2, none⟩ (.int .i64 0)).setCell ⟨w.heap.size, 3, none⟩ (.int .i64 0)).cell? ⟨w.heap.size, j, none⟩ := fun o j => alloc_cell _ o _ j (by simp [World.setCell]; exact hlt)
    exact bodyPost_ret (v := ansV (some ⟨4, n, 0, n.length + 1⟩)) (by simp [results, hX, d0, d1, d2, d3, Tryz.results76, go_sem, ansV, tokC, Int.add_comm]) rfl ⟨rfl, (((((HFIN.out _ HG1.out).setCell (p := ⟨w.heap.size, 0, none⟩) (Nat.le_refl _) _).setCell (p := ⟨w.heap.size, 1, none⟩) (Nat.le_refl _) _).setCell (p := ⟨w.heap.size, 2, none⟩) (Nat.le_refl _) _).setCell (p := ⟨w.heap.size, 3, none⟩) (Nat.le_refl _) _).alloc (by simp [World.setCell]; omega) _⟩
end Go.Proofs.YtlmmfhbdebfgkaaGreatDoor.Lx
