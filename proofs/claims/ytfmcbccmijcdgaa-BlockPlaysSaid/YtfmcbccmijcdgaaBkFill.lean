/-
  Fill.
-/
import Derived.Test.YtfmcbccmijcdgaaBkFlush
import Derived.Test.YtfmcbccmijcdgaaBkPair
namespace Go.Proofs.Ytfmcbccmijcdgaa.Bk
open Go.RowKit

/-- The first sector of a text, filled up with noughts. -/
def fill1 (l : List UInt8) : List UInt8 := l.take 64 ++ List.replicate (64 - l.length) 0
theorem fill1_len (l : List UInt8) : (fill1 l).length = 64 := by unfold fill1; rw [List.length_append, List.length_take, List.length_replicate]; omega
def fillK (l : List UInt8) (s : List (List UInt8)) : Nat → List (List UInt8)
  | 0 => s
  | k + 1 => (fillK l s k).set k (fill1 (l.drop (k * 64)))
theorem fillK_length (l : List UInt8) (s : List (List UInt8)) : ∀ k, (fillK l s k).length = s.length
  | 0 => rfl
  | k + 1 => by rw [fillK, List.length_set]; exact fillK_length l s k

theorem secZ : secC Z64 = List.replicate 64 (.int .u8 0) := by unfold secC Z64; rw [List.map_replicate]; rfl
theorem copy_sec (w : World) (s : ByteArray) :
    (Builtin.copy_ #[69, 9] 3 #[.slice (some ⟨w.heap.size, 0, none⟩) 64 64, .string s]).run Try.prog (w.alloc (.cells (secC Z64).toArray 66)) =
      .ok (.int .i64 ((min s.size 64 : Nat) : Int)) (w.alloc (.cells (secC (fill1 s.data.toList)).toArray 66)) := by
  have hl := list_size s
  have hz : (secC Z64).length = 64 := by rw [secC_length, Z64_length]
  by_cases h : s.size ≤ 64
  · have hh := Lib.run_copy_row_string (P := Try.prog) (w.alloc (.cells (secC Z64).toArray 66)) 69 9 3 5 w.heap.size 0 64 64 s (secC Z64).toArray 66
      Try.underlying69 (by kernel_rfl) (heap_alloc_new w _) h (by rw [List.size_toArray, hz]; omega)
    rw [setRow_fresh] at hh
    have e : ((secC Z64).toArray.toList.take 0 ++ Lib.byteCells s.data.toList ++ (secC Z64).toArray.toList.drop (0 + s.size)).toArray = (secC (fill1 s.data.toList)).toArray := by
      show (([] : List Value) ++ Lib.byteCells s.data.toList ++ (secC Z64).drop (0 + s.size)).toArray = _
      rw [secZ, List.drop_replicate, Nat.zero_add, List.nil_append]
      unfold fill1 secC
      rw [List.map_append, List.map_replicate, List.take_of_length_le (by omega), hl]
      rfl
    rw [e] at hh
    rw [hh, Nat.min_eq_left h]
    rfl
  · have hst := run_storeCells_at Try.prog w.heap.size 0 66 (Lib.byteCells (s.data.toList.take 64)) 0 (secC Z64).toArray (w.alloc (.cells (secC Z64).toArray 66)) (heap_alloc_new w _)
      (by rw [Lib.byteCells_length, List.length_take, List.size_toArray, hz]; omega) (Lib.byteCells_one _)
    rw [setRow_fresh] at hst
    have hmin : Nat.min s.size 64 = 64 := Nat.min_eq_right (by omega)
    have hmin2 : min s.size 64 = 64 := Nat.min_eq_right (by omega)
    have hsz : ∀ w, (Go.sizeOf 5).run Try.prog w = .ok 1 w := fun w => by kernel_rfl
    have e : ((secC Z64).toArray.toList.take (0 + 0) ++ Lib.byteCells (s.data.toList.take 64) ++ (secC Z64).toArray.toList.drop (0 + 0 + (Lib.byteCells (s.data.toList.take 64)).length)).toArray = (secC (fill1 s.data.toList)).toArray := by
      have hb : (Lib.byteCells (s.data.toList.take 64)).length = 64 := by rw [Lib.byteCells_length, List.length_take]; omega
      have hd : (secC Z64).toArray.toList.drop (0 + 0 + 64) = [] := List.drop_eq_nil_of_le (by simp [hz])
      rw [hb, hd]
      unfold fill1
      rw [show 64 - s.data.toList.length = 0 by omega]
      simp [secC, Lib.byteCells]
    rw [e] at hst
    have htk : List.take 64 (List.map (fun b : UInt8 => Value.int IntKind.u8 (b.toNat : Int)) s.data.toList) = Lib.byteCells (s.data.toList.take 64) := by
      simp [Lib.byteCells, List.map_take]
    simp [Builtin.copy_, run_underlying Try.underlying69, Builtin.lenOf, Builtin.firstCells, hsz, hmin]
    rw [← List.map_take] at htk
    simp only [← List.map_take, htk]
    rw [hst]
    rfl

set_option maxRecDepth 100000 in
set_option maxHeartbeats 3200000 in
theorem fill_any {w : World} {D R : Nat} {pv : Value} {d : Dev} (h : DevAt w D R pv d) (l : List UInt8) :
    Calls Try.prog 17 #[.pointer (some ⟨D, 0, none⟩), .string (S l)] w fun e w' =>
      e = .returned (.tuple #[]) ∧ DevAt w' D R (.slice none 0 0) { d with dur := fillK l d.dur d.dur.length, pend := [] } ∧ Onl [D, R] w w' := by
  obtain ⟨⟨c0, c1, c2, c3, c4, c5, c6⟩, ⟨f0, f1, f2, f3, f4, f5, f6⟩, hlt⟩ := h.cells
  have hzs := zero_sec
  have hmost := h.ok.most
  have H := Lib.hid h
  clear h c1 c2 c3 c4 c5 c6 f1 f2 f3 f4 f5 f6
  go_enter Try.func17, Try.ntmps17
  go_wp2_with fail
  go_loopw [1, 13] (fun sv i wr => ∃ k : Nat, k ≤ d.dur.length ∧ i = .int .i64 k ∧ sv = .string (S (l.drop (k * 64))) ∧ DevAt wr D R pv { d with dur := fillK l d.dur k } ∧ Onl [R] w wr) (fun _ i _ => d.dur.length - (intOf i).toNat)
  case atStart => exact ⟨0, by omega, rfl, by simp, H.out, Onl.refl _ _⟩
  case round =>
    obtain ⟨k, hkm, rfl, rfl, hdev, hon⟩ := hrel
    have HDEV := Lib.hid hdev
    have HON := Lib.hid hon
    by_cases hlt2 : k < d.dur.length
    · obtain ⟨⟨a0, a1, a2, a3, a4, a5, a6⟩, ⟨g0, g1, g2, g3, g4, g5, g6⟩, hltr⟩ := hdev.cells
      have hal : k < (fillK l d.dur k).length := by rw [fillK_length]; exact hlt2
      have hsec := hdev.sec k hal
      have hcp := copy_sec wr (S (l.drop (k * 64)))
      rw [S_toList, S_size] at hcp
      have hfk : fillK l d.dur (k + 1) = (fillK l d.dur k).set k (fill1 (l.drop (k * 64))) := rfl
      have hsx : (S (l.drop (k * 64))).extract (min (l.drop (k * 64)).length 64) (S (l.drop (k * 64))).size = S (l.drop ((k + 1) * 64)) := by
        rw [S_extract, S_toList, S_size]
        congr 1
        rw [List.take_of_length_le (by rw [List.length_drop]; omega), List.drop_drop, List.drop_eq_drop_iff]
        simp only [List.length_drop]
        omega
      have hss : (S (l.drop (k * 64))).size = (l.drop (k * 64)).length := S_size _
      have hsx2 : (S (l.drop (k * 64))).extract (min (l.drop (k * 64)).length 64) (l.length - k * 64) = S (l.drop ((k + 1) * 64)) := by
        rw [hss] at hsx
        rw [show l.length - k * 64 = (l.drop (k * 64)).length by rw [List.length_drop]]
        exact hsx
      replace hsx := hsx2
      clear hsx2
      have hmle : min (l.drop (k * 64)).length 64 ≤ (l.drop (k * 64)).length := Nat.min_le_left _ _
      have hB := Lib.hid (hdev.later ((Onl.refl [] wr).alloc (.cells (secC (fill1 (l.drop (k * 64)))).toArray 66)).drew (by simp))
      have HSEC := Lib.hid (hB.out.setSec k hal (fill1 (l.drop (k * 64))) (fill1_len _))
      have hls := fill1_len (l.drop (k * 64))
      generalize fill1 (l.drop (k * 64)) = x at *
      generalize min (l.drop (k * 64)).length 64 = m at *
      generalize S (l.drop (k * 64)) = sv at *
      have hmi : (m : Int) ≤ (sv.size : Int) := by omega
      have HFK := Lib.hid hfk
      clear hdev hon hfk a1 a2 a3 a4 a5 a6 g1 g2 g3 g4 g5 g6 c0 f0
      go_wp2_with (at_builtin; refine Lib.wpList_copy_run _ rfl _ _ 69 9 rfl _ _ rfl rfl hcp ?_)
      have hne1 : D ≠ wr.heap.size := by omega
      have hRn : R ≠ wr.heap.size := by have := lt_of_heap HDEV.out.row; omega
      have hx0 : (wr.alloc (.cells (secC x).toArray 66)).drew.rangeAt wr.heap.size 0 (secC x) := fun j v hv => by
        rw [World.cell?_drew, Nat.zero_add, cell_of_row _ wr.heap.size j _ _ (0, 0) (heap_alloc_new wr _), List.getElem?_toArray]; exact hv
      have hth : (wr.alloc (.cells (secC x).toArray 66)).drew.there R (k * 64) 64 := fun j hj => by
        rw [World.cell?_drew, World.frozen?_drew, World.cell?_alloc_old _ _ _ hRn, World.frozen?_alloc_old _ _ _ hRn]
        exact hsec.2 j hj
      have hls2 : (secC x).length = 64 := by rw [secC_length, hls]
      have hu := Try.underlying66
      have hi : (Try.prog.info? 66).map (·.size) = some (secC x).length := by rw [hls2]; exact size_sec
      have h1c := secC_one x
      have hS : (wr.alloc (.cells (secC x).toArray 66)).drew.cell? ⟨D, 0, none⟩ = some (.slice (some ⟨R, 0, none⟩) d.dur.length d.dur.length) ∧
          (wr.alloc (.cells (secC x).toArray 66)).drew.rangeAt wr.heap.size 0 (secC x) ∧ (wr.alloc (.cells (secC x).toArray 66)).drew.there R (k * 64) 64 :=
        ⟨by rw [World.cell?_drew, World.cell?_alloc_old _ _ _ hne1, a0]; simp only [fillK_length], hx0, hth⟩
      have hS2 : ((wr.alloc (.cells (secC x).toArray 66)).drew.setCells R (k * 64) (secC x)).cell? ⟨D, 0, none⟩ = some (.slice (some ⟨R, 0, none⟩) d.dur.length d.dur.length) ∧
          ((wr.alloc (.cells (secC x).toArray 66)).drew.setCells R (k * 64) (secC x)).rangeAt wr.heap.size 0 (secC x) ∧ ((wr.alloc (.cells (secC x).toArray 66)).drew.setCells R (k * 64) (secC x)).there R (k * 64) 64 := by
        have hDR := HDEV.out.DR
        exact ⟨by rw [World.cell?_setCells_out _ _ _ _ _ (fun e => absurd e hDR)]; exact hS.1, World.rangeAt_setCells_apart hx0 _ _ _ (Or.inl (Ne.symm hRn)), World.there_setCells hth _ _ _⟩
      have hki : (k : Int) < (d.dur.length : Int) := by omega
      have HS := Lib.hid hS
      have HS2 := Lib.hid hS2
      clear hS hS2 hx0 hth hsec a0
      go_region_held3 (fun w' => w'.cell? ⟨D, 0, none⟩ = some (.slice (some ⟨R, 0, none⟩) d.dur.length d.dur.length) ∧ w'.rangeAt wr.heap.size 0 (secC x) ∧ w'.there R (k * 64) 64)
        (first | assumption | exact HS.out | exact HS2.out)
        (fail)
      go_wp2_with fail
      go_roundw
      case rel =>
        refine ⟨k + 1, by omega, by go_num, rfl, ?_, ?_⟩
        · rw [HFK.out]
          exact HSEC.out
        · exact Onl.setCells (by simp) _ _ (HON.out.alloc _).drew
      case measure => simp [intOf]; omega
    · obtain rfl : k = d.dur.length := by omega
      obtain ⟨⟨a0, a1, a2, a3, a4, a5, a6⟩, ⟨g0, g1, g2, g3, g4, g5, g6⟩, hltr⟩ := hdev.cells
      have HFIN := Lib.hid (HDEV.out.setPend (pv' := .slice none 0 0) [] rfl rfl (World.ownsRow_nil _ _ _ _) (by simp [Value.ownBlock]) (by simp [Value.ownBlock]) (by simp))
      have HO := Lib.hid ((HON.out.mono (B' := [D, R]) (by simp)).setCell (p := ⟨D, 1, none⟩) (by simp) (.slice none 0 0))
      clear hdev hon a0 a2 a3 a4 a5 a6 g0 g2 g3 g4 g5 g6 c0 f0
      go_wp2_with fail
      go_end0
      exact ⟨rfl, HFIN.out, HO.out⟩

end Go.Proofs.Ytfmcbccmijcdgaa.Bk
