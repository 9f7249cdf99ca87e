/-
  LxUnquo, LxSym, LxQuoted.
-/
import Derived.Test.YtlmmfhbdebfgkaaGreatDoorWLxGoodQ
import Derived.Test.YtlmmfhbdebfgkaaGreatDoorWVlQuoteQ
import Derived.Test.YtlmmfhbdebfgkaaGreatDoorWVlKeyQ
import Derived.Deep.RegionHeld3
import Derived.Deep.RegionWith
set_option linter.unusedVariables false
set_option linter.unusedSimpArgs false
set_option maxRecDepth 100000
set_option maxHeartbeats 6400000
namespace Go.Proofs.YtlmmfhbdebfgkaaGreatDoor.Lx
open Go.RowKit
open Va
theorem bld_later {H b : Nat} {l : List UInt8} {w w' : World} (h : BldAt H b l w) (hb : Below w.heap.size w w') : BldAt H b l w' := by
  have one : ∀ p, Lib.BuilderAtF 69 5 H b p (Lib.byteCells l) w → Lib.BuilderAtF 69 5 H b p (Lib.byteCells l) w' := by
    intro p h1
    obtain ⟨hH, v, hv, hown, hne⟩ := h1
    exact ⟨hH, v, (hb.block b (lt_of_heapV hv)).trans hv, hown.kept (row := none) ⟨hb.os, hb.tape, hb.output, hb.size, fun k hk _ => hb.block k hk⟩ (Classical.em _), hne⟩
  rcases h with h | h
  · exact .inl (one _ h)
  · exact .inr (one _ h)
structure Unq (r t0 : List UInt8) (k : Nat) : Prop where
  loose : Loose r t0 k
  le : k ≤ r.length
  len : t0.length ≤ k
  stop : k = r.length ∨ (r.drop k).head? = some 34
structure UnS (s : ByteArray) (w : World) (m : Nat) (t0 : List UInt8) (wr : World) : Prop where
  loose : Loose (s.data.toList.drop 1) t0 (m - 1)
  len : t0.length ≤ m - 1
  bld : BldAt w.heap.size w.heap.size t0 wr
  below : Below w.heap.size w wr
  size : w.heap.size ≤ wr.heap.size
theorem unquote_any (s : ByteArray) (hs : s.size ≤ 100000) (hs1 : 1 ≤ s.size) (w : World) (he : ErrAt w 6) :
    Calls Tryz.prog 126 #[.string s] w fun e w' => (∃ t0 k, Unq (s.data.toList.drop 1) t0 k ∧ e = .returned (.tuple #[.string (S t0), .int .i64 ((min (k + 2) s.size : Nat) : Int)])) ∧ Below w.heap.size w w' := by
  have hls := list_size s
  have HWB := Lib.hid (fun (l : List UInt8) (c : UInt8) (wr : World) (h : BldAt w.heap.size w.heap.size l wr) (hl : l.length ≤ 5000000) (hH : w.heap.size ≤ wr.heap.size) => WriteByte_o w.heap.size w.heap.size l c wr h (by omega) hH)
  have HST := Lib.hid (fun (l : List UInt8) (wr : World) (h : BldAt w.heap.size w.heap.size l wr) (hH : w.heap.size ≤ wr.heap.size) => Tryz.Builder_String_any_k w.heap.size w.heap.size l wr h hH)
  have HB0 := Lib.hid (show UnS s w 1 [] (w.alloc (.cells #[.pointer none, .slice none 0 0] 69)) from ⟨loose_zero _, by simp, Lib.IsBuilderF.of (Lib.fresh_isBuilder _ _ w), (Below.refl w.heap.size w).alloc (Nat.le_refl _) _, by simp⟩)
  have HUN := Lib.hid (fun (m : Nat) (hm : m < s.size) (wr : World) (hb : Below w.heap.size w wr) => show Calls Tryz.prog 164 #[.string (s.extract m s.size)] wr fun e w' => (∃ (b : UInt8) (n : Nat), e = .returned (unV (b, n)) ∧ 1 ≤ n ∧ m + n ≤ s.size ∧ ∀ c q, (s.data.toList.drop 1).drop (m - 1) = esc c ++ q → m ≠ 0 → b = c ∧ n = (esc c).length) ∧ Below wr.heap.size wr w' from by
    have hz : (s.extract m s.size).size = s.size - m := by rw [ByteArray.size_extract]; omega
    have hl : (s.extract m s.size).data.toList = s.data.toList.drop m := by
      rw [S_extract, S_toList, List.take_of_length_le (by rw [List.length_drop, hls]; exact Nat.le_refl _)]
    refine (unescape_any (s.extract m s.size) (by omega) (by omega) wr (he.below hb)).mono ?_
    rintro e w' ⟨rfl, hb'⟩
    rw [hl]
    have hne : s.data.toList.drop m ≠ [] := by
      intro e
      have := congrArg List.length e
      rw [List.length_drop, hls] at this
      simp at this
      omega
    obtain ⟨h1, h2⟩ := unescM_len _ hne
    rw [List.length_drop, hls] at h2
    refine ⟨⟨(unescM (s.data.toList.drop m)).1, (unescM (s.data.toList.drop m)).2, rfl, h1, by omega, ?_⟩, hb'⟩
    intro c q hq hm0
    rw [List.drop_drop, show 1 + (m - 1) = m by omega] at hq
    rw [hq, unescM_esc]
    exact ⟨rfl, rfl⟩)
  have HHD := Lib.hid (fun (m : Nat) (hm : m < s.size) (h1 : 1 ≤ m) => show ((s.data.toList.drop 1).drop (m - 1)).head? = some s[m] from by
    rw [List.drop_drop, show 1 + (m - 1) = m by omega, List.head?_drop, ← getElem_list s m hm]
    simp [List.getD, List.getElem?_eq_getElem (show m < s.data.toList.length by omega)])
  have HLR := Lib.hid (show (s.data.toList.drop 1).length = s.size - 1 by rw [List.length_drop, hls])
  have hsi : (1 : Int) ≤ (s.size : Int) := by omega
  have hsj : (s.size : Int) ≤ 100000 := by omega
  clear he hls
  go_enter Tryz.func126, Tryz.ntmps126
  go_wp2_with fail
  go_loopw [5] (fun v wr => ∃ (m : Nat) (t0 : List UInt8), v = .int .i64 m ∧ 1 ≤ m ∧ m ≤ s.size ∧ UnS s w m t0 wr) (fun v _ => s.size - (intOf v).toNat)
  case atStart => exact ⟨1, [], rfl, by omega, by omega, HB0.out⟩
  case round =>
    obtain ⟨m, t0, rfl, hm1, hm2, hu⟩ := hrel
    have HU := Lib.hid hu
    clear hu
    have htl : t0.length ≤ 100000 := by have := HU.out.len; omega
    by_cases hlt : m < s.size
    · have hmi : (m : Int) < (s.size : Int) := by omega
      have HH := Lib.hid (HHD.out m hlt hm1)
      have hsm : s[m]'hlt = s[m] := rfl
      clear hsm
      obtain ⟨c, hc⟩ : ∃ c, s[m] = c := ⟨_, rfl⟩
      rw [hc] at HH
      by_cases h34 : c = 34
      · subst h34
        have HE := Lib.hid (show Unq (s.data.toList.drop 1) t0 (m - 1) from ⟨HU.out.loose, by have := HLR.out; omega, HU.out.len, .inr HH.out⟩)
        have hmin : ((min (m - 1 + 2) s.size : Nat) : Int) = min ((m : Int) + 1) (s.size : Int) := by omega
        have HMIN := Lib.hid hmin
        clear hmin
        go_wp2_with fail
        refine (HST.out _ _ HU.out.bld HU.out.size).mono ?_
        rintro e w4 ⟨rfl, _, be4, _⟩
        have HB4 := Lib.hid (HU.out.below.trans be4)
        clear be4
        go_wp2_with fail
        go_ret2
        exact ⟨⟨t0, m - 1, HE.out, by rw [HMIN.out]; rfl⟩, HB4.out⟩
      · have hcb : ((c.toNat : Int) == 34) = false := byte_ne c 34 h34
        have hcn : ((c.toNat : Int) != 34) = true := by simp only [bne, hcb, Bool.not_false]
        have HNE := Lib.hid (show ((s.data.toList.drop 1).drop (m - 1)).head? ≠ some 34 by rw [HH.out]; simpa using h34)
        clear h34
        go_wp2_with fail
        refine (HUN.out m hlt _ HU.out.below).mono ?_
        rintro e w3 ⟨⟨b, n, rfl, hn1, hn2, hnb⟩, b3⟩
        have HNB := Lib.hid hnb
        have HB3 := Lib.hid b3
        have hsz3 := b3.size
        clear hnb b3
        unfold unV
        go_wp2_with fail
        refine (HWB.out t0 b _ (bld_later HU.out.bld HB3.out) (by omega) (by have := HU.out.size; omega)).mono ?_
        rintro e w4 ⟨rfl, b4, be4, hs4, hk4⟩
        have HU4 := Lib.hid (show UnS s w (m + n) (t0 ++ [b]) w4 from ⟨by
            have := loose_step _ _ _ n b HU.out.loose HNE.out (fun c q hq => HNB.out c q hq (by omega))
            rw [show m + n - 1 = m - 1 + n by omega]; exact this, by have := HU.out.len; simp; omega, b4, (HU.out.below.trans (HB3.out.mono HU.out.size)).trans be4, by have := HU.out.size; omega⟩)
        clear b4 be4 hs4 hk4
        go_wp2_with fail
        go_roundw
        case rel => exact ⟨m + n, t0 ++ [b], by go_num, by omega, by omega, HU4.out⟩
        case measure => simp [intOf]; omega
    · obtain rfl : m = s.size := by omega
      have HE := Lib.hid (show Unq (s.data.toList.drop 1) t0 (s.size - 1) from ⟨HU.out.loose, by have := HLR.out; omega, HU.out.len, .inl (by have := HLR.out; omega)⟩)
      have HMIN := Lib.hid (show ((min (s.size - 1 + 2) s.size : Nat) : Int) = min ((s.size : Int) + 1) (s.size : Int) by omega)
      go_wp2_with fail
      refine (HST.out _ _ HU.out.bld HU.out.size).mono ?_
      rintro e w4 ⟨rfl, _, be4, _⟩
      have HB4 := Lib.hid (HU.out.below.trans be4)
      clear be4
      go_wp2_with fail
      go_ret2
      exact ⟨⟨t0, s.size - 1, HE.out, by rw [HMIN.out]; rfl⟩, HB4.out⟩
end Go.Proofs.YtlmmfhbdebfgkaaGreatDoor.Lx
namespace Go.Proofs.YtlmmfhbdebfgkaaGreatDoor.Lx
open Go.RowKit
open Va
theorem alloc_cell (X : World) (o : Obj) (b j : Nat) (h : b < X.heap.size) : (X.alloc o).cell? ⟨b, j, none⟩ = X.cell? ⟨b, j, none⟩ := by
  unfold World.cell?
  simp only [Below.heap_alloc X o b h]
def symM (l : List UInt8) : Option Tok := match nameM l with
  | none => none
  | some x => some ⟨4, x.text, 0, x.len + 1⟩
theorem nameM_cases (l : List UInt8) : nameM l = none ∨ ∃ n, nameM l = some ⟨1, n, 0, n.length⟩ ∧ 1 ≤ n.length ∧ n.length ≤ l.length := by
  unfold nameM
  by_cases h : nameB (l.takeWhile wordB) = true
  · right
    refine ⟨l.takeWhile wordB, by simp only [h, if_true], ?_, takeWhile_le _ _⟩
    have := (nameB_ne h).1
    exact List.length_pos_iff.2 this
  · left
    simp only [if_neg h]
theorem symbol_any (s : ByteArray) (hs : s.size ≤ 100000) (hs1 : 1 ≤ s.size) (w : World) :
    Calls Tryz.prog 76 #[.string s] w fun e w' => e = .returned (ansV (symM (s.data.toList.drop 1))) ∧ Below w.heap.size w w' := by
  have hls := list_size s
  have hex : (s.extract 1 s.size).data.toList = s.data.toList.drop 1 := by
    rw [S_extract, S_toList, List.take_of_length_le (by rw [List.length_drop, hls]; exact Nat.le_refl _)]
  have hNM := name_any (s.extract 1 s.size) (by rw [ByteArray.size_extract]; omega)
  rw [hex] at hNM
  have HNM := Lib.hid hNM
  have HG0 := Lib.hid (Good.refl (w.alloc (tokO 0 [] 0 0)))
  have HBOX := Lib.hid (box_here w 0 [] 0 0)
  have HFIN := Lib.hid (fun (wr : World) (h : Good (w.alloc (tokO 0 [] 0 0)) wr) => ((Below.refl w.heap.size w).alloc (Nat.le_refl _) (tokO 0 [] 0 0)).trans (h.mono (by simp)))
  have hsi : (1 : Int) ≤ (s.size : Int) := by omega
  have hll : (s.data.toList.drop 1).length ≤ s.size := by rw [List.length_drop, hls]; omega
  have hSY : symM (s.data.toList.drop 1) = match nameM (s.data.toList.drop 1) with
    | none => none
    | some x => some ⟨4, x.text, 0, x.len + 1⟩ := rfl
  have hcs := nameM_cases (s.data.toList.drop 1)
  generalize s.data.toList.drop 1 = l at *
  clear hls hex hNM
  rcases hcs with hn | ⟨n, hn, hn1, hn2⟩
  · rw [hn] at HNM hSY
    have HSY := Lib.hid hSY
    clear hSY hn
    go_enter Tryz.func76, Tryz.ntmps76
    go_wp2_with fail
    refine (HNM.out _).mono ?_
    rintro e w1 ⟨rfl, b1⟩
    have HG1 := Lib.hid (HG0.out.step b1)
    have hlt : w.heap.size < w1.heap.size := by have := b1.size; simp at this; omega
    obtain ⟨⟨c0, c1, c2, c3⟩, f0, f1, f2, f3⟩ := HBOX.out _ HG1.out
    clear b1
    unfold ansV tokC
    go_wp2_with fail
    rw [HSY.out]
    obtain ⟨d0, d1, d2, d3⟩ := put4 c0 c1 c2 c3 (.int .i64 0) (.string ⟨#[]⟩) (.int .i64 0) (.int .i64 0)
    have hX : ∀ (o : Obj) (j : Nat), (((((w1.setCell ⟨w.heap.size, 0, none⟩ (.int .i64 0)).setCell ⟨w.heap.size, 1, none⟩ (.string ⟨#[]⟩)).setCell ⟨w.heap.size, 2, none⟩ (.int .i64 0)).setCell ⟨w.heap.size, 3, none⟩ (.int .i64 0)).alloc o).cell? ⟨w.heap.size, j, none⟩ = ((((w1.setCell ⟨w.heap.size, 0, none⟩ (.int .i64 0)).setCell ⟨w.heap.size, 1, none⟩ (.string ⟨#[]⟩)).setCell ⟨w.heap.size, 2, none⟩ (.int .i64 0)).setCell ⟨w.heap.size, 3, none⟩ (.int .i64 0)).cell? ⟨w.heap.size, j, none⟩ := fun o j => alloc_cell _ o _ j (by simp [World.setCell]; exact hlt)
    exact bodyPost_ret (v := ansV none) (by simp [results, hX, d0, d1, d2, d3, S, Tryz.results76, go_sem, ansV, tokC]) rfl ⟨rfl, (((((HFIN.out _ HG1.out).setCell (p := ⟨w.heap.size, 0, none⟩) (Nat.le_refl _) _).setCell (p := ⟨w.heap.size, 1, none⟩) (Nat.le_refl _) _).setCell (p := ⟨w.heap.size, 2, none⟩) (Nat.le_refl _) _).setCell (p := ⟨w.heap.size, 3, none⟩) (Nat.le_refl _) _).alloc (by simp [World.setCell]; omega) _⟩
  · rw [hn] at HNM hSY
    have HSY := Lib.hid hSY
    have hni : ((n.length : Int) == 0) = false := by rw [beq_eq_false_iff_ne]; omega
    have hnn : (n.length == 0) = false := by rw [beq_eq_false_iff_ne]; omega
    have hnl : (n.length : Int) ≤ 100000 := by omega
    have hn1i : (1 : Int) ≤ (n.length : Int) := by omega
    clear hSY hn
    go_enter Tryz.func76, Tryz.ntmps76
    go_wp2_with fail
    refine (HNM.out _).mono ?_
    rintro e w1 ⟨rfl, b1⟩
    have HG1 := Lib.hid (HG0.out.step b1)
    have hlt : w.heap.size < w1.heap.size := by have := b1.size; simp at this; omega
    obtain ⟨⟨c0, c1, c2, c3⟩, f0, f1, f2, f3⟩ := HBOX.out _ HG1.out
    clear b1
    unfold ansV tokC
    go_wp2_with fail
    rw [HSY.out]
    obtain ⟨d0, d1, d2, d3⟩ := put4 c0 c1 c2 c3 (.int .i64 4) (.string (S n)) (.int .i64 0) (.int .i64 0)
    have hX : ∀ (o : Obj) (j : Nat), (((((w1.setCell ⟨w.heap.size, 0, none⟩ (.int .i64 4)).setCell ⟨w.heap.size, 1, none⟩ (.string (S n))).setCell ⟨w.heap.size, 2, none⟩ (.int .i64 0)).setCell ⟨w.heap.size, 3, none⟩ (.int .i64 0)).alloc o).cell? ⟨w.heap.size, j, none⟩ = ((((w1.setCell ⟨w.heap.size, 0, none⟩ (.int .i64 4)).setCell ⟨w.heap.size, 1, none⟩ (.string (S n))).setCell ⟨w.heap.size, 2, none⟩ (.int .i64 0)).setCell ⟨w.heap.size, 3, none⟩ (.int .i64 0)).cell? ⟨w.heap.size, j, none⟩ := fun o j => alloc_cell _ o _ j (by simp [World.setCell]; exact hlt)
    exact bodyPost_ret (v := ansV (some ⟨4, n, 0, n.length + 1⟩)) (by simp [results, hX, d0, d1, d2, d3, Tryz.results76, go_sem, ansV, tokC, Int.add_comm]) rfl ⟨rfl, (((((HFIN.out _ HG1.out).setCell (p := ⟨w.heap.size, 0, none⟩) (Nat.le_refl _) _).setCell (p := ⟨w.heap.size, 1, none⟩) (Nat.le_refl _) _).setCell (p := ⟨w.heap.size, 2, none⟩) (Nat.le_refl _) _).setCell (p := ⟨w.heap.size, 3, none⟩) (Nat.le_refl _) _).alloc (by simp [World.setCell]; omega) _⟩
end Go.Proofs.YtlmmfhbdebfgkaaGreatDoor.Lx
namespace Go.Proofs.YtlmmfhbdebfgkaaGreatDoor.Lx
open Go.RowKit
open Va
def quoM (l : List UInt8) : Option Tok := match quo ((l.drop 1).length + 1) (l.drop 1) with
  | none => none
  | some (t, n) => if t.length ≤ 64 then some ⟨3, t, 0, n + 1⟩ else none
theorem right_text (t : List UInt8) : rightB ⟨3, 0, t, []⟩ = decide (t.length ≤ 64) := by
  unfold rightB
  simp
theorem print_text (t : List UInt8) : printV ⟨3, 0, t, []⟩ = 34 :: (escT t ++ [34]) := rfl
theorem quoM_yes (l t0 : List UInt8) (k : Nat) (h : Unq (l.drop 1) t0 k) (ht : t0.length ≤ 64) (e : (l.drop 1).take (k + 1) = escT t0 ++ [34]) :
    quoM l = some ⟨3, t0, 0, k + 2⟩ ∧ k + 2 ≤ (l.drop 1).length + 1 := by
  have h2 := (loose_end _ _ _ h.loose h.le h.stop).2 e
  refine ⟨by unfold quoM; rw [h2]; simp only [if_pos ht], ?_⟩
  have hl := congrArg List.length e
  rw [List.length_take] at hl
  simp only [List.length_append, List.length_cons, List.length_nil] at hl
  have hle := h.le
  rcases Nat.lt_or_ge k (l.drop 1).length with hk | hk
  · omega
  · exfalso
    have hkk : k = (l.drop 1).length := by omega
    have h3 := quo_len _ _ _ _ h2
    omega
theorem quoM_no (l t0 : List UInt8) (k : Nat) (h : Unq (l.drop 1) t0 k) (e : (l.drop 1).take (k + 1) ≠ escT t0 ++ [34]) : quoM l = none := by
  unfold quoM
  cases hq : quo ((l.drop 1).length + 1) (l.drop 1) with
  | none => rfl
  | some tn =>
    obtain ⟨t, n⟩ := tn
    obtain ⟨rfl, rfl, h3⟩ := (loose_end _ _ _ h.loose h.le h.stop).1 t n hq
    exact absurd h3 e
theorem quoM_long (l t0 : List UInt8) (k : Nat) (h : Unq (l.drop 1) t0 k) (ht : ¬ t0.length ≤ 64) : quoM l = none := by
  unfold quoM
  cases hq : quo ((l.drop 1).length + 1) (l.drop 1) with
  | none => rfl
  | some tn =>
    obtain ⟨t, n⟩ := tn
    obtain ⟨rfl, _, _⟩ := (loose_end _ _ _ h.loose h.le h.stop).1 t n hq
    simp only [if_neg ht]
def valO (t : List UInt8) : Obj := .cells #[.int .i64 3, .int .i64 0, .string (S t), .slice none 0 0] 52
theorem vbox_here (w : World) (t : List UInt8) (w1 : World) (g : Good (w.alloc (valO t)) w1) :
    w1.cell? ⟨w.heap.size, 0, none⟩ = some (.int .i64 3) ∧ w1.cell? ⟨w.heap.size, 1, none⟩ = some (.int .i64 0) ∧ w1.cell? ⟨w.heap.size, 2, none⟩ = some (.string (S t)) ∧ w1.cell? ⟨w.heap.size, 3, none⟩ = some (.slice none 0 0) := by
  have h0 := heap_alloc_new w (valO t)
  have h := (g.block w.heap.size (lt_of_heapV h0)).trans h0
  exact ⟨(cell_of_row w1 _ 0 _ _ (0, 0) h).trans rfl, (cell_of_row w1 _ 1 _ _ (0, 0) h).trans rfl, (cell_of_row w1 _ 2 _ _ (0, 0) h).trans rfl, (cell_of_row w1 _ 3 _ _ (0, 0) h).trans rfl⟩
theorem quoted_any (s : ByteArray) (hs : s.size ≤ 100000) (h34 : s.data.toList.head? = some 34) (w : World) (he : ErrAt w 6) (htab : Tab w) :
    Calls Tryz.prog 75 #[.string s] w fun e w' => e = .returned (ansV (quoM s.data.toList)) ∧ Below w.heap.size w w' := by
  have hls := list_size s
  have hs1 : 1 ≤ s.size := by
    rw [← hls]
    cases h : s.data.toList with
    | nil => rw [h] at h34; cases h34
    | cons => simp
  have hb0 := (Below.refl w.heap.size w).alloc (Nat.le_refl _) (tokO 0 [] 0 0)
  have HG0 := Lib.hid (Good.refl (w.alloc (tokO 0 [] 0 0)))
  have HBOX := Lib.hid (box_here w 0 [] 0 0)
  have HFIN := Lib.hid (fun (wr : World) (h : Good (w.alloc (tokO 0 [] 0 0)) wr) => hb0.trans (h.mono (by simp)))
  have HUQ := Lib.hid (unquote_any s hs hs1 (w.alloc (tokO 0 [] 0 0)) (he.below hb0))
  have HRI := Lib.hid (fun (t : List UInt8) (ht : t.length ≤ 100000) (wr : World) => show Calls Tryz.prog 127 #[.agg #[.int .i64 3, .int .i64 0, .string (S t), .slice none 0 0]] wr fun e w' => e = .returned (.bool (rightB ⟨3, 0, t, []⟩)) ∧ Below wr.heap.size wr w' from Right_any ⟨3, 0, t, []⟩ ⟨by simp only; omega, by simp⟩ none 0 wr (NumsAt_nil _ _))
  have HPR := Lib.hid (fun (t : List UInt8) (ht : t.length ≤ 64) (wr : World) (h : Good (w.alloc (tokO 0 [] 0 0)) wr) => show Calls Tryz.prog 66 #[.agg #[.int .i64 3, .int .i64 0, .string (S t), .slice none 0 0]] wr fun e w' => e = .returned (.string (S (printV ⟨3, 0, t, []⟩))) ∧ Below wr.heap.size wr w' from Print_any ⟨3, 0, t, []⟩ ⟨by simp only; omega, by simp only; omega, by simp, by simp⟩ (by rw [right_text]; simpa using ht) none 0 wr (NumsAt_nil _ _) (htab.below (hb0.trans (h.mono (by simp)))))
  have HVB := Lib.hid vbox_here
  have HEX := Lib.hid (fun (k : Nat) => show s.extract 0 (min (k + 2) s.size) = S (34 :: (s.data.toList.drop 1).take (k + 1)) from by
    rw [S_extract, List.drop_zero, Nat.sub_zero]
    congr 1
    cases h : s.data.toList with
    | nil => rw [h] at h34; cases h34
    | cons c r =>
      rw [h] at h34
      obtain rfl : c = 34 := by simpa using h34
      have hr : r.length + 1 = s.size := by rw [← hls, h]; simp
      rw [List.drop_one, List.tail_cons, ← hr, show min (k + 2) (r.length + 1) = (min (k + 1) r.length) + 1 by omega, List.take_succ_cons]
      congr 1
      rcases Nat.le_total (k + 1) r.length with hk | hk
      · rw [Nat.min_eq_left hk]
      · rw [Nat.min_eq_right hk, List.take_of_length_le (Nat.le_refl _), List.take_of_length_le hk])
  have HL := Lib.hid (show (s.data.toList.drop 1).length + 1 = s.size by rw [List.length_drop, hls]; omega)
  have hsj : (s.size : Int) ≤ 100000 := by omega
  clear he htab hls h34 hb0
  go_enter Tryz.func75, Tryz.ntmps75
  go_wp2_with fail
  refine HUQ.out.mono ?_
  rintro e w1 ⟨⟨t0, k, hq, rfl⟩, b1⟩
  have HQ := Lib.hid hq
  have HG1 := Lib.hid (HG0.out.step b1)
  obtain ⟨W2, hW2⟩ : ∃ W2, W2 = w1.alloc (valO t0) := ⟨_, rfl⟩
  have HW2 := Lib.hid hW2
  have HSTP := Lib.hid (fun (wr : World) (h : Good W2 wr) => show Good (w.alloc (tokO 0 [] 0 0)) wr from HG1.out.step (((Below.refl w1.heap.size w1).alloc (Nat.le_refl _) (valO t0)).trans (by rw [hW2] at h; exact h.mono (by simp))))
  have HG3 := Lib.hid (Good.refl W2)
  have HKP := Lib.hid (fun (wr : World) (h : Good W2 wr) => HVB.out w1 t0 wr (by rw [← hW2]; exact h))
  clear hW2
  have htl : t0.length ≤ 100000 := by have := hq.len; have := hq.le; have := HL.out; omega
  have hn0 : ((min (k + 2) s.size : Nat) : Int) ≤ (s.size : Int) := by omega
  have hn00 : (0 : Int) ≤ ((min (k + 2) s.size : Nat) : Int) := by omega
  have hex := HEX.out k
  generalize hn : min (k + 2) s.size = N at *
  have HN := Lib.hid hn
  clear hn hq b1
  by_cases ht : t0.length ≤ 64
  · have hRT := HRI.out t0 htl
    rw [right_text, show decide (t0.length ≤ 64) = true by simpa using ht] at hRT
    have HRT := Lib.hid (fun (wr : World) (h : Good W2 wr) => (hRT wr).mono fun e w' (⟨he, hb⟩ : _ ∧ _) => (⟨he, h.step hb⟩ : e = _ ∧ Good W2 w'))
    have hPT := HPR.out t0 ht
    rw [print_text] at hPT
    obtain ⟨p, hp⟩ : ∃ p, S (34 :: (escT t0 ++ [34])) = p := ⟨_, rfl⟩
    rw [hp] at hPT
    have HPT := Lib.hid (fun (wr : World) (h : Good W2 wr) => (hPT wr (HSTP.out wr h)).mono fun e w' (⟨he, hb⟩ : _ ∧ _) => (⟨he, h.step hb⟩ : e = _ ∧ Good W2 w'))
    clear hRT hPT
    by_cases heq : (s.data.toList.drop 1).take (k + 1) = escT t0 ++ [34]
    · obtain ⟨hy1, hy2⟩ := quoM_yes _ _ _ HQ.out ht heq
      have hNk : N = k + 2 := by have := HN.out; have := HL.out; omega
      rw [← hNk] at hy1
      have HR := Lib.hid hy1
      rw [heq, hp] at hex
      have hpp : (p.toList == p.toList) = true := by simp
      clear hp heq hy1 hy2 ht HEX HPR HRI HUQ
      clear hNk
      go_wp2_with fail
      have hw2 := HW2.out
      unfold valO at hw2
      rw [← hw2]
      clear hw2
      have HST := Lib.hid (HKP.out _ HG3.out.drew)
      go_region_held3 (fun w7 => (w7.cell? ⟨w1.heap.size, 0, none⟩ = some (.int .i64 3) ∧ w7.cell? ⟨w1.heap.size, 1, none⟩ = some (.int .i64 0) ∧ w7.cell? ⟨w1.heap.size, 2, none⟩ = some (.string (S t0)) ∧ w7.cell? ⟨w1.heap.size, 3, none⟩ = some (.slice none 0 0)))
        (first | assumption | exact HST.out | exact HK7.out)
        (first
          | (go_at_call 127; with_reducible refine (HRT.out _ (by first | exact good_id (by assumption) | exact good_drew (by assumption))).mono ?_; rintro e w7 ⟨rfl, b7⟩; have HG7 := Lib.hid b7; have HK7 := Lib.hid (HKP.out _ b7); clear b7)
          | (go_at_call 66; with_reducible refine (HPT.out _ (by first | exact good_id (by assumption) | exact good_drew (by assumption))).mono ?_; rintro e w7 ⟨rfl, b7⟩; have HG7 := Lib.hid b7; have HK7 := Lib.hid (HKP.out _ b7); clear b7))
      all_goals
        have HGE := Lib.hid (HSTP.out _ (by first | exact good_id (by assumption) | exact good_drew (by assumption)))
        obtain ⟨⟨c0, c1, c2, c3⟩, f0, f1, f2, f3⟩ := HBOX.out _ HGE.out
        go_wp2_with fail
        rw [HR.out]
        obtain ⟨d0, d1, d2, d3⟩ := put4 c0 c1 c2 c3 (.int .i64 3) (.string (S t0)) (.int .i64 0) (.int .i64 0)
        exact bodyPost_ret (v := ansV (some ⟨3, t0, 0, N⟩)) (by simp [results, d0, d1, d2, d3, Tryz.results75, go_sem, ansV, tokC]) rfl ⟨rfl, (((((HFIN.out _ HGE.out).setCell (p := ⟨w.heap.size, 0, none⟩) (Nat.le_refl _) _).setCell (p := ⟨w.heap.size, 1, none⟩) (Nat.le_refl _) _).setCell (p := ⟨w.heap.size, 2, none⟩) (Nat.le_refl _) _).setCell (p := ⟨w.heap.size, 3, none⟩) (Nat.le_refl _) _)⟩
    · have HR := Lib.hid (quoM_no _ _ _ HQ.out heq)
      have hpp : (p.toList == (s.extract 0 N).toList) = false := by
        rw [beq_eq_false_iff_ne, hex, ← hp, ByteArray.toList_eq, ByteArray.toList_eq, S_toList, S_toList]
        intro e
        exact heq (List.cons.inj e).2.symm
      clear hp heq ht HEX HPR HRI HUQ hex
      go_wp2_with fail
      have hw2 := HW2.out
      unfold valO at hw2
      rw [← hw2]
      clear hw2
      have HST := Lib.hid (HKP.out _ HG3.out.drew)
      go_region_held3 (fun w7 => (w7.cell? ⟨w1.heap.size, 0, none⟩ = some (.int .i64 3) ∧ w7.cell? ⟨w1.heap.size, 1, none⟩ = some (.int .i64 0) ∧ w7.cell? ⟨w1.heap.size, 2, none⟩ = some (.string (S t0)) ∧ w7.cell? ⟨w1.heap.size, 3, none⟩ = some (.slice none 0 0)))
        (first | assumption | exact HST.out | exact HK7.out)
        (first
          | (go_at_call 127; with_reducible refine (HRT.out _ (by first | exact good_id (by assumption) | exact good_drew (by assumption))).mono ?_; rintro e w7 ⟨rfl, b7⟩; have HG7 := Lib.hid b7; have HK7 := Lib.hid (HKP.out _ b7); clear b7)
          | (go_at_call 66; with_reducible refine (HPT.out _ (by first | exact good_id (by assumption) | exact good_drew (by assumption))).mono ?_; rintro e w7 ⟨rfl, b7⟩; have HG7 := Lib.hid b7; have HK7 := Lib.hid (HKP.out _ b7); clear b7))
      all_goals
        have HGE := Lib.hid (HSTP.out _ (by first | exact good_id (by assumption) | exact good_drew (by assumption)))
        obtain ⟨⟨c0, c1, c2, c3⟩, f0, f1, f2, f3⟩ := HBOX.out _ HGE.out
        go_wp2_with fail
        rw [HR.out]
        obtain ⟨d0, d1, d2, d3⟩ := put4 c0 c1 c2 c3 (.int .i64 0) (.string ⟨#[]⟩) (.int .i64 0) (.int .i64 0)
        exact bodyPost_ret (v := ansV none) (by simp [results, d0, d1, d2, d3, S, Tryz.results75, go_sem, ansV, tokC]) rfl ⟨rfl, (((((HFIN.out _ HGE.out).setCell (p := ⟨w.heap.size, 0, none⟩) (Nat.le_refl _) _).setCell (p := ⟨w.heap.size, 1, none⟩) (Nat.le_refl _) _).setCell (p := ⟨w.heap.size, 2, none⟩) (Nat.le_refl _) _).setCell (p := ⟨w.heap.size, 3, none⟩) (Nat.le_refl _) _)⟩
  · have HR := Lib.hid (quoM_long _ _ _ HQ.out ht)
    have hRT := HRI.out t0 htl
    rw [right_text, show decide (t0.length ≤ 64) = false by simpa using ht] at hRT
    have HRT := Lib.hid (fun (wr : World) (h : Good W2 wr) => (hRT wr).mono fun e w' (⟨he, hb⟩ : _ ∧ _) => (⟨he, h.step hb⟩ : e = _ ∧ Good W2 w'))
    clear hRT ht HEX HPR HRI HUQ hex
    go_wp2_with fail
    have hw2 := HW2.out
    unfold valO at hw2
    rw [← hw2]
    clear hw2
    have HST := Lib.hid (HKP.out _ HG3.out.drew)
    obtain ⟨v0, v1, v2, v3⟩ := HST.out
    first
      | (go_region_with ((go_at_call 127; with_reducible refine (HRT.out _ (by first | exact good_id (by assumption) | exact good_drew (by assumption))).mono ?_; rintro e w7 ⟨rfl, b7⟩; have HG7 := Lib.hid b7; obtain ⟨v0, v1, v2, v3⟩ := HKP.out _ b7; clear b7)))
      | fail
    all_goals
      have HGE := Lib.hid (HSTP.out _ (by first | exact good_id (by assumption) | exact good_drew (by assumption)))
      obtain ⟨⟨c0, c1, c2, c3⟩, f0, f1, f2, f3⟩ := HBOX.out _ HGE.out
      go_wp2_with fail
      rw [HR.out]
      obtain ⟨d0, d1, d2, d3⟩ := put4 c0 c1 c2 c3 (.int .i64 0) (.string ⟨#[]⟩) (.int .i64 0) (.int .i64 0)
      exact bodyPost_ret (v := ansV none) (by simp [results, d0, d1, d2, d3, S, Tryz.results75, go_sem, ansV, tokC]) rfl ⟨rfl, (((((HFIN.out _ HGE.out).setCell (p := ⟨w.heap.size, 0, none⟩) (Nat.le_refl _) _).setCell (p := ⟨w.heap.size, 1, none⟩) (Nat.le_refl _) _).setCell (p := ⟨w.heap.size, 2, none⟩) (Nat.le_refl _) _).setCell (p := ⟨w.heap.size, 3, none⟩) (Nat.le_refl _) _)⟩
end Go.Proofs.YtlmmfhbdebfgkaaGreatDoor.Lx
