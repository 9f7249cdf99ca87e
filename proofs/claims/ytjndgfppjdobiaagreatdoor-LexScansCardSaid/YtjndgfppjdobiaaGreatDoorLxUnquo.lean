/-
  A quoted string, read loosely: the program's reader.
-/
import Derived.Test.YtjndgfppjdobiaaGreatDoorLxUnesc
import Derived.Test.YtjndgfppjdobiaaGreatDoorVlQuote
namespace Go.Proofs.YtjndgfppjdobiaaGreatDoor.Lx
open Go.RowKit
open Va

/-- A builder stays one where nothing that was there has changed. -/
theorem bld_later {H b : Nat} {l : List UInt8} {w w' : World} (h : BldAt H b l w) (hb : Below w.heap.size w w') : BldAt H b l w' := by
  have one : ∀ p, Lib.BuilderAtF 80 5 H b p (Lib.byteCells l) w → Lib.BuilderAtF 80 5 H b p (Lib.byteCells l) w' := by
    intro p h1
    obtain ⟨hH, v, hv, hown, hne⟩ := h1
    exact ⟨hH, v, (hb.block b (lt_of_heapV hv)).trans hv, hown.kept (row := none) ⟨hb.os, hb.tape, hb.output, hb.size, fun k hk _ => hb.block k hk⟩ (Classical.em _), hne⟩
  rcases h with h | h
  · exact .inl (one _ h)
  · exact .inr (one _ h)
/-- What the loose reader has found: the text, and how many bytes of what stands behind the quote it has read. -/
structure Unq (r t0 : List UInt8) (k : Nat) : Prop where
  loose : Loose r t0 k
  le : k ≤ r.length
  len : t0.length ≤ k
  stop : k = r.length ∨ (r.drop k).head? = some 34
/-- The reader's own state. -/
structure UnS (s : ByteArray) (w : World) (m : Nat) (t0 : List UInt8) (wr : World) : Prop where
  loose : Loose (s.data.toList.drop 1) t0 (m - 1)
  len : t0.length ≤ m - 1
  bld : BldAt w.heap.size w.heap.size t0 wr
  below : Below w.heap.size w wr
  size : w.heap.size ≤ wr.heap.size

set_option linter.unusedSimpArgs false
set_option maxRecDepth 100000 in
set_option maxHeartbeats 3200000 in
theorem unquote_any (s : ByteArray) (hs : s.size ≤ 100000) (hs1 : 1 ≤ s.size) (w : World) (he : ErrAt w 4) :
    Calls Tryz.prog 39 #[.string s] w fun e w' => (∃ t0 k, Unq (s.data.toList.drop 1) t0 k ∧ e = .returned (.tuple #[.string (S t0), .int .i64 ((min (k + 2) s.size : Nat) : Int)])) ∧ Below w.heap.size w w' := by
  have hls := list_size s
  have HWB := Lib.hid (fun (l : List UInt8) (c : UInt8) (wr : World) (h : BldAt w.heap.size w.heap.size l wr) (hl : l.length ≤ 5000000) (hH : w.heap.size ≤ wr.heap.size) => WriteByte_o w.heap.size w.heap.size l c wr h (by omega) hH)
  have HST := Lib.hid (fun (l : List UInt8) (wr : World) (h : BldAt w.heap.size w.heap.size l wr) (hH : w.heap.size ≤ wr.heap.size) => Tryz.Builder_String_any_k w.heap.size w.heap.size l wr h hH)
  have HB0 := Lib.hid (show UnS s w 1 [] (w.alloc (.cells #[.pointer none, .slice none 0 0] 80)) from ⟨loose_zero _, by simp, Lib.IsBuilderF.of (Lib.fresh_isBuilder _ _ w), (Below.refl w.heap.size w).alloc (Nat.le_refl _) _, by simp⟩)
  have HUN := Lib.hid (fun (m : Nat) (hm : m < s.size) (wr : World) (hb : Below w.heap.size w wr) => show Calls Tryz.prog 53 #[.string (s.extract m s.size)] wr fun e w' => (∃ (b : UInt8) (n : Nat), e = .returned (unV (b, n)) ∧ 1 ≤ n ∧ m + n ≤ s.size ∧ ∀ c q, (s.data.toList.drop 1).drop (m - 1) = esc c ++ q → m ≠ 0 → b = c ∧ n = (esc c).length) ∧ Below wr.heap.size wr w' from by
    have hz : (s.extract m s.size).size = s.size - m := by rw [ByteArray.size_extract]; omega
    have hl : (s.extract m s.size).data.toList = s.data.toList.drop m := by
      rw [S_extract, S_toList, List.take_of_length_le (by rw [List.length_drop, hls]; exact Nat.le_refl _)]
    refine (unescape_any (s.extract m s.size) (by omega) (by omega) wr (he.below hb)).mono ?_
    rintro e w' ⟨rfl, hb'⟩
    rw [hl]
    have hne : s.data.toList.drop m ≠ [] := by
      intro e
      have := congrArg List.length e
      rw [List.length_drop, hls] at this
      simp at this
      omega
    obtain ⟨h1, h2⟩ := unescM_len _ hne
    rw [List.length_drop, hls] at h2
    refine ⟨⟨(unescM (s.data.toList.drop m)).1, (unescM (s.data.toList.drop m)).2, rfl, h1, by omega, ?_⟩, hb'⟩
    intro c q hq hm0
    rw [List.drop_drop, show 1 + (m - 1) = m by omega] at hq
    rw [hq, unescM_esc]
    exact ⟨rfl, rfl⟩)
  have HHD := Lib.hid (fun (m : Nat) (hm : m < s.size) (h1 : 1 ≤ m) => show ((s.data.toList.drop 1).drop (m - 1)).head? = some s[m] from by
    rw [List.drop_drop, show 1 + (m - 1) = m by omega, List.head?_drop, ← getElem_list s m hm]
    simp [List.getD, List.getElem?_eq_getElem (show m < s.data.toList.length by omega)])
  have HLR := Lib.hid (show (s.data.toList.drop 1).length = s.size - 1 by rw [List.length_drop, hls])
  have hsi : (1 : Int) ≤ (s.size : Int) := by omega
  have hsj : (s.size : Int) ≤ 100000 := by omega
  clear he hls
  go_enter Tryz.func39, Tryz.ntmps39
  go_wp2_with fail
  go_loopw [5] (fun v wr => ∃ (m : Nat) (t0 : List UInt8), v = .int .i64 m ∧ 1 ≤ m ∧ m ≤ s.size ∧ UnS s w m t0 wr) (fun v _ => s.size - (intOf v).toNat)
  case atStart => exact ⟨1, [], rfl, by omega, by omega, HB0.out⟩
  case round =>
    obtain ⟨m, t0, rfl, hm1, hm2, hu⟩ := hrel
    have HU := Lib.hid hu
    clear hu
    have htl : t0.length ≤ 100000 := by have := HU.out.len; omega
    by_cases hlt : m < s.size
    · have hmi : (m : Int) < (s.size : Int) := by omega
      have HH := Lib.hid (HHD.out m hlt hm1)
      have hsm : s[m]'hlt = s[m] := rfl
      clear hsm
      obtain ⟨c, hc⟩ : ∃ c, s[m] = c := ⟨_, rfl⟩
      rw [hc] at HH
      by_cases h34 : c = 34
      · subst h34
        have HE := Lib.hid (show Unq (s.data.toList.drop 1) t0 (m - 1) from ⟨HU.out.loose, by have := HLR.out; omega, HU.out.len, .inr HH.out⟩)
        have hmin : ((min (m - 1 + 2) s.size : Nat) : Int) = min ((m : Int) + 1) (s.size : Int) := by omega
        have HMIN := Lib.hid hmin
        clear hmin
        go_wp2_with fail
        refine (HST.out _ _ HU.out.bld HU.out.size).mono ?_
        rintro e w4 ⟨rfl, _, be4, _⟩
        have HB4 := Lib.hid (HU.out.below.trans be4)
        clear be4
        go_wp2_with fail
        go_ret2
        exact ⟨⟨t0, m - 1, HE.out, by rw [HMIN.out]; rfl⟩, HB4.out⟩
      · have hcb : ((c.toNat : Int) == 34) = false := byte_ne c 34 h34
        have hcn : ((c.toNat : Int) != 34) = true := by simp only [bne, hcb, Bool.not_false]
        have HNE := Lib.hid (show ((s.data.toList.drop 1).drop (m - 1)).head? ≠ some 34 by rw [HH.out]; simpa using h34)
        clear h34
        go_wp2_with fail
        refine (HUN.out m hlt _ HU.out.below).mono ?_
        rintro e w3 ⟨⟨b, n, rfl, hn1, hn2, hnb⟩, b3⟩
        have HNB := Lib.hid hnb
        have HB3 := Lib.hid b3
        have hsz3 := b3.size
        clear hnb b3
        unfold unV
        go_wp2_with fail
        refine (HWB.out t0 b _ (bld_later HU.out.bld HB3.out) (by omega) (by have := HU.out.size; omega)).mono ?_
        rintro e w4 ⟨rfl, b4, be4, hs4, hk4⟩
        have HU4 := Lib.hid (show UnS s w (m + n) (t0 ++ [b]) w4 from ⟨by
            have := loose_step _ _ _ n b HU.out.loose HNE.out (fun c q hq => HNB.out c q hq (by omega))
            rw [show m + n - 1 = m - 1 + n by omega]; exact this, by have := HU.out.len; simp; omega, b4, (HU.out.below.trans (HB3.out.mono HU.out.size)).trans be4, by have := HU.out.size; omega⟩)
        clear b4 be4 hs4 hk4
        go_wp2_with fail
        go_roundw
        case rel => exact ⟨m + n, t0 ++ [b], by go_num, by omega, by omega, HU4.out⟩
        case measure => simp [intOf]; omega
    · obtain rfl : m = s.size := by omega
      have HE := Lib.hid (show Unq (s.data.toList.drop 1) t0 (s.size - 1) from ⟨HU.out.loose, by have := HLR.out; omega, HU.out.len, .inl (by have := HLR.out; omega)⟩)
      have HMIN := Lib.hid (show ((min (s.size - 1 + 2) s.size : Nat) : Int) = min ((s.size : Int) + 1) (s.size : Int) by omega)
      go_wp2_with fail
      refine (HST.out _ _ HU.out.bld HU.out.size).mono ?_
      rintro e w4 ⟨rfl, _, be4, _⟩
      have HB4 := Lib.hid (HU.out.below.trans be4)
      clear be4
      go_wp2_with fail
      go_ret2
      exact ⟨⟨t0, s.size - 1, HE.out, by rw [HMIN.out]; rfl⟩, HB4.out⟩

end Go.Proofs.YtjndgfppjdobiaaGreatDoor.Lx
