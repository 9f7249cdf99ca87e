/-
  The walk over package block's lose: what a loss of power does.
-/
import Derived.Test.YtfmcbccmijcdgaaBkSmall
import Derived.Deep.RegionHeld3
import Derived.Deep.DeepCutAuto
import Derived.Outline
namespace Go.Proofs.Ytfmcbccmijcdgaa.Bk
open Go.RowKit

/-- What becomes of a pending write, the k-th. -/
def loseS (keep : Nat) (torn at_ : Int) (k : Nat) (x : Nat × List UInt8) (s : List (List UInt8)) : List (List UInt8) :=
  if (k : Int) = torn then s.set x.1 (x.2.take (tornN at_) ++ (s.getD x.1 []).drop (tornN at_))
  else if keep.testBit (k % 64) = true then s.set x.1 x.2 else s
def loseK (keep : Nat) (torn at_ : Int) (p : List (Nat × List UInt8)) (s : List (List UInt8)) : Nat → List (List UInt8)
  | 0 => s
  | k + 1 => loseS keep torn at_ k (p.getD k (0, [])) (loseK keep torn at_ p s k)
def loseD (d : Dev) (keep : Nat) (torn at_ : Int) : Dev := { d with dur := loseK keep torn at_ d.pend d.dur d.pend.length, pend := [] }

theorem loseS_length (keep : Nat) (torn at_ : Int) (k : Nat) (x : Nat × List UInt8) (s : List (List UInt8)) : (loseS keep torn at_ k x s).length = s.length := by
  unfold loseS; split
  · simp
  · split <;> simp
theorem loseK_length (keep : Nat) (torn at_ : Int) (p : List (Nat × List UInt8)) (s : List (List UInt8)) : ∀ k, (loseK keep torn at_ p s k).length = s.length := by
  intro k
  induction k with
  | zero => rfl
  | succ k ih => rw [loseK, loseS_length, ih]

theorem half_and (v : Nat) (h : v < 18446744073709551616) : (bits .and .u64 (v : Int) 1 == 1) = decide (v % 2 = 1) := by
  have := u64_and_nat v 1 h (by omega)
  have e2 : (1 : Int) = ((1 : Nat) : Int) := rfl
  rw [e2, this, Nat.and_one_is_mod, Bool.eq_iff_iff]
  simp
  omega
theorem bit_test (keep j : Nat) (h : keep < 18446744073709551616) : (bits .and .u64 ((keep : Int) / 2 ^ j) 1 == 1) = keep.testBit j := by
  have e : ((keep : Int) / 2 ^ j) = ((keep / 2 ^ j : Nat) : Int) := by simp
  rw [e, half_and _ (Nat.lt_of_le_of_lt (Nat.div_le_self _ _) h), Nat.testBit_eq_decide_div_mod_eq]

set_option maxRecDepth 100000 in
set_option maxHeartbeats 3200000 in
theorem lose_any {w : World} {D R g cap : Nat} {d : Dev} (h : DevAt w D R (.slice (some ⟨g, 0, none⟩) d.pend.length cap) d) (hm : d.pend.length ≤ 1000) (keep : Nat) (hk : keep < 18446744073709551616) (torn at_ : Int) :
    Calls Try.prog 33 #[.pointer (some ⟨D, 0, none⟩), .agg #[.int .u64 (keep : Int), .int .i64 torn, .int .i64 at_]] w fun e w' =>
      e = .returned (.tuple #[]) ∧ DevAt w' D R (.slice none 0 0) (loseD d keep torn at_) ∧ Onl [D, R] w w' := by
  obtain ⟨⟨c0, c1, c2, c3, c4, c5, c6⟩, ⟨f0, f1, f2, f3, f4, f5, f6⟩, hlt⟩ := h.cells
  have hzw := zero_wr
  have hwn := wr_ne
  have H := Lib.hid h
  clear h c2 c3 c4 c5 c6 f2 f3 f4 f5 f6
  go_enter Try.func33, Try.ntmps33
  go_wp2_with fail
  go_loopw [11] (fun i wr => ∃ k : Nat, k ≤ d.pend.length ∧ i = .int .i64 k ∧ DevAt wr D R (.slice (some ⟨g, 0, none⟩) d.pend.length cap) { d with dur := loseK keep torn at_ d.pend d.dur k } ∧
      wr.heap[w.heap.size]? = some (.cells #[.int .u64 (keep : Int), .int .i64 torn, .int .i64 at_] 30 (0, 0)) ∧ Onl [R] w wr) (fun i _ => d.pend.length - (intOf i).toNat)
  case atStart =>
    exact ⟨0, by omega, rfl, H.out.later ((Onl.refl [] _).alloc _) (by simp), heap_alloc_new w _, (Onl.refl _ _).alloc _⟩
  case round =>
    obtain ⟨k, hkm, rfl, hdev, hcr, hon⟩ := hrel
    have HDEV := Lib.hid hdev
    have HCR := Lib.hid hcr
    have HON := Lib.hid hon
    by_cases hlt2 : k < d.pend.length
    · have hx := H.out.ok.pend (d.pend.getD k (0, [])) (by simp [List.getD, hlt2])
      obtain ⟨⟨a0, a1, a2, a3, a4, a5, a6⟩, ⟨g0, g1, g2, g3, g4, g5, g6⟩, hltr⟩ := hdev.cells
      have hload := hdev.load rfl k hlt2
      generalize hxv : d.pend.getD k (0, []) = x at *
      obtain ⟨a, l⟩ := x
      simp only at hx hload
      have HXV := Lib.hid hxv
      clear hxv
      have hsz : (Try.prog.info? 68).map (·.size) = some (wrC a l).length := by rw [wrC_length, hx.2]; exact size_wr
      have HLD := Lib.hid hload
      have HSZ := Lib.hid hsz
      have hst := store_fresh wr 68 (wrC 0 Z64) (wrC a l) (by rw [wrC_length, hx.2]; exact size_wr) (by rw [wrC_length, wrC_length, hx.2, Z64_length]) (wrC_one a l)
      have k0 : wr.cell? ⟨w.heap.size, 0, none⟩ = some (.int .u64 (keep : Int)) := (cell_of_row wr _ _ _ _ (0, 0) hcr).trans rfl
      have k1 : wr.cell? ⟨w.heap.size, 1, none⟩ = some (.int .i64 torn) := (cell_of_row wr _ _ _ _ (0, 0) hcr).trans rfl
      have k2 : wr.cell? ⟨w.heap.size, 2, none⟩ = some (.int .i64 at_) := (cell_of_row wr _ _ _ _ (0, 0) hcr).trans rfl
      have hcl := lt_of_heap hcr
      have h65 : (wrC a l).length = 65 := by rw [wrC_length, hx.2]
      have hal : a < (loseK keep torn at_ d.pend d.dur k).length := by rw [loseK_length]; exact hx.1
      have hsec := hdev.sec a hal
      have hB := Lib.hid (hdev.later ((Onl.refl [] wr).alloc (.cells (wrC a l).toArray 68)).drew (by simp))
      clear hdev hcr hon hload hsz a2 a3 a4 a5 a6 g2 g3 g4 g5 g6 c0 c1 f0 f1
      by_cases ht : (k : Int) = torn
      · have ht1 : ((k : Int) == torn) = true := by simpa using ht
        have HT := Lib.hid ht
        clear ht
        go_wp2_with (refine wpList_load_mid rfl 68 _ rfl g (k * 65) rfl (wrC a l) _ HLD.out Try.underlying68 rfl HSZ.out ?_)
        have hne1 : D ≠ wr.heap.size := by omega
        have hne2 : w.heap.size ≠ wr.heap.size := by omega
        have hn0 : (wr.alloc (.cells (wrC a l).toArray 68)).cell? ⟨wr.heap.size, 0, none⟩ = some (.int .i64 (a : Int)) := by
          rw [cell_of_row _ wr.heap.size 0 _ _ (0, 0) (heap_alloc_new wr _)]; simp [wrC]
        have hn1 : ∀ j v, (secC l)[j]? = some v → (wr.alloc (.cells (wrC a l).toArray 68)).cell? ⟨wr.heap.size, 1 + j, none⟩ = some v := fun j v hv => by
          rw [cell_of_row _ wr.heap.size (1 + j) _ _ (0, 0) (heap_alloc_new wr _), List.getElem?_toArray, Nat.add_comm 1 j]; simpa [wrC] using hv
        have hln : (secC (l.take (tornN at_))).length = tornN at_ := by rw [secC_length, List.length_take, hx.2]; have := tornN_lt at_; omega
        have hRn : R ≠ wr.heap.size := by have := lt_of_heap HDEV.out.row; omega
        have hcp := run_copy_cells (P := Try.prog) (wr.alloc (.cells (wrC a l).toArray 68)).drew 69 69 3 5 R (a * 64) 64 64 ⟨wr.heap.size, 1, none⟩ (tornN at_) 64 (secC (l.take (tornN at_)))
          Try.underlying69 (by kernel_rfl) (by rw [hln]; have := tornN_lt at_; exact (Nat.min_eq_left (by omega)).symm)
          (fun j v hv => by
            rw [Addr.add_mid, World.cell?_drew]
            refine hn1 j v ?_
            rw [secC_take, List.getElem?_take] at hv
            split at hv
            · exact hv
            · cases hv)
          (fun j hj => by
            rw [hln] at hj
            have := tornN_lt at_
            rw [World.cell?_drew, World.cell?_alloc_old _ _ _ hRn]
            exact (hsec.2 j (by omega)).1)
          (fun j hj => by
            rw [hln] at hj
            have := tornN_lt at_
            rw [World.frozen?_drew, World.frozen?_alloc_old _ _ _ hRn]
            exact (hsec.2 j (by omega)).2) (secC_one _)
        rw [hln] at hcp
        have htl := tornN_lt at_
        have htl2 : ((tornN at_ : Nat) : Int) ≤ 64 := by omega
        have htl3 : (0 : Int) ≤ ((tornN at_ : Nat) : Int) := by omega
        have htl4 : tornN at_ ≤ 64 := by omega
        have hS : (wr.alloc (.cells (wrC a l).toArray 68)).drew.cell? ⟨D, 0, none⟩ = some (.slice (some ⟨R, 0, none⟩) (loseK keep torn at_ d.pend d.dur k).length (loseK keep torn at_ d.pend d.dur k).length) ∧
            (wr.alloc (.cells (wrC a l).toArray 68)).drew.cell? ⟨wr.heap.size, 0, none⟩ = some (.int .i64 (a : Int)) ∧
            (wr.alloc (.cells (wrC a l).toArray 68)).drew.cell? ⟨w.heap.size, 2, none⟩ = some (.int .i64 at_) :=
          ⟨by rw [World.cell?_drew, World.cell?_alloc_old _ _ _ hne1]; exact a0, by rw [World.cell?_drew]; exact hn0, by rw [World.cell?_drew, World.cell?_alloc_old _ _ _ hne2]; exact k2⟩
        have hS2 : ((wr.alloc (.cells (wrC a l).toArray 68)).drew.setCells R (a * 64) (secC (l.take (tornN at_)))).cell? ⟨D, 0, none⟩ = some (.slice (some ⟨R, 0, none⟩) (loseK keep torn at_ d.pend d.dur k).length (loseK keep torn at_ d.pend d.dur k).length) ∧
            ((wr.alloc (.cells (wrC a l).toArray 68)).drew.setCells R (a * 64) (secC (l.take (tornN at_)))).cell? ⟨wr.heap.size, 0, none⟩ = some (.int .i64 (a : Int)) ∧
            ((wr.alloc (.cells (wrC a l).toArray 68)).drew.setCells R (a * 64) (secC (l.take (tornN at_)))).cell? ⟨w.heap.size, 2, none⟩ = some (.int .i64 at_) := by
          have hDR := HDEV.out.DR
          have hCR : w.heap.size ≠ R := by have := lt_of_heap H.out.row; omega
          exact ⟨by rw [World.cell?_setCells_out _ _ _ _ _ (fun e => absurd e hDR)]; exact hS.1, by rw [World.cell?_setCells_out _ _ _ _ _ (fun e => absurd e (Ne.symm hRn))]; exact hS.2.1, by rw [World.cell?_setCells_out _ _ _ _ _ (fun e => absurd e hCR)]; exact hS.2.2⟩
        have hali : (a : Int) < ((loseK keep torn at_ d.pend d.dur k).length : Int) := by omega
        have HS := Lib.hid hS
        have HS2 := Lib.hid hS2
        have HPART := Lib.hid (hB.out.setPart a hal (l.take (tornN at_)) (by rw [List.length_take]; omega))
        clear hS hS2 hn1 hsec
        generalize hsk : loseK keep torn at_ d.pend d.dur k = sk at *
        have HSK := Lib.hid hsk
        clear hsk
        go_region_held3 (fun w' => w'.cell? ⟨D, 0, none⟩ = some (.slice (some ⟨R, 0, none⟩) sk.length sk.length) ∧ w'.cell? ⟨wr.heap.size, 0, none⟩ = some (.int .i64 (a : Int)) ∧ w'.cell? ⟨w.heap.size, 2, none⟩ = some (.int .i64 at_))
          (first | assumption | exact HS.out | exact HS2.out)
          (first
            | (go_at_call 36; (with_reducible refine (torn_any _ _).mono ?_); rintro e w' ⟨rfl, rfl⟩)
            | (rw [if_pos (by rfl)]; refine Lib.wp_copy_run _ _ _ _ _ rfl _ _ rfl rfl hcp ?_))
        go_wp2_with fail
        go_roundw
        case rel =>
          refine ⟨k + 1, by omega, by go_num, ?_, ?_, ?_⟩
          · have e : loseK keep torn at_ d.pend d.dur (k + 1) = sk.set a (l.take (tornN at_) ++ (sk.getD a []).drop (l.take (tornN at_)).length) := by
              rw [loseK, HXV.out, HSK.out]
              unfold loseS
              rw [if_pos HT.out, List.length_take, hx.2, Nat.min_eq_left (by omega)]
            rw [e]
            exact HPART.out
          · rw [World.heap_setCells_other _ R _ _ (by simpa using Nat.lt_succ_of_lt hcl) (by have := lt_of_heap H.out.row; omega)]
            exact (Below.heap_alloc wr _ _ hcl).trans HCR.out
          · exact Onl.setCells (by simp) _ _ (HON.out.alloc _).drew
        case measure => simp [intOf]; omega
      · have ht1 : ((k : Int) == torn) = false := by simpa using ht
        have HT := Lib.hid ht
        clear ht
        have hbt := bit_test keep (k % 64) hk
        cases hbit : keep.testBit (k % 64) with
        | false =>
          rw [hbit] at hbt
          have HBIT := Lib.hid hbit
          clear hbit
          go_wp2_with (refine wpList_load_mid rfl 68 _ rfl g (k * 65) rfl (wrC a l) _ HLD.out Try.underlying68 rfl HSZ.out ?_)
          go_roundw
          case rel =>
            refine ⟨k + 1, by omega, by go_num, ?_, ?_, ?_⟩
            · have e : loseK keep torn at_ d.pend d.dur (k + 1) = loseK keep torn at_ d.pend d.dur k := by
                show loseS keep torn at_ k (d.pend.getD k (0, [])) (loseK keep torn at_ d.pend d.dur k) = _
                unfold loseS
                rw [if_neg HT.out, if_neg (by rw [HBIT.out]; simp)]
              rw [e]
              exact HDEV.out.later ((Onl.refl [] wr).alloc _) (by simp)
            · exact (Below.heap_alloc wr _ _ hcl).trans HCR.out
            · exact HON.out.alloc _
          case measure => simp [intOf]; omega
        | true =>
          rw [hbit] at hbt
          have HBIT := Lib.hid hbit
          clear hbit
          have hne1 : D ≠ wr.heap.size := by omega
          have hRn : R ≠ wr.heap.size := by have := lt_of_heap HDEV.out.row; omega
          have hn0 : (wr.alloc (.cells (wrC a l).toArray 68)).cell? ⟨wr.heap.size, 0, none⟩ = some (.int .i64 (a : Int)) := by
            rw [cell_of_row _ wr.heap.size 0 _ _ (0, 0) (heap_alloc_new wr _)]; simp [wrC]
          have hn1 : (wr.alloc (.cells (wrC a l).toArray 68)).drew.rangeAt wr.heap.size 1 (secC l) := fun j v hv => by
            rw [World.cell?_drew, cell_of_row _ wr.heap.size (1 + j) _ _ (0, 0) (heap_alloc_new wr _), List.getElem?_toArray, Nat.add_comm 1 j]; simpa [wrC] using hv
          have hth : (wr.alloc (.cells (wrC a l).toArray 68)).drew.there R (a * 64) 64 := fun j hj => by
            rw [World.cell?_drew, World.frozen?_drew, World.cell?_alloc_old _ _ _ hRn, World.frozen?_alloc_old _ _ _ hRn]
            exact hsec.2 j hj
          have hls : (secC l).length = 64 := by rw [secC_length, hx.2]
          have hu := Try.underlying66
          have hi : (Try.prog.info? 66).map (·.size) = some (secC l).length := by rw [hls]; exact size_sec
          have h1c := secC_one l
          have hS : (wr.alloc (.cells (wrC a l).toArray 68)).drew.cell? ⟨D, 0, none⟩ = some (.slice (some ⟨R, 0, none⟩) (loseK keep torn at_ d.pend d.dur k).length (loseK keep torn at_ d.pend d.dur k).length) ∧
              (wr.alloc (.cells (wrC a l).toArray 68)).drew.cell? ⟨wr.heap.size, 0, none⟩ = some (.int .i64 (a : Int)) ∧
              (wr.alloc (.cells (wrC a l).toArray 68)).drew.rangeAt wr.heap.size 1 (secC l) ∧ (wr.alloc (.cells (wrC a l).toArray 68)).drew.there R (a * 64) 64 :=
            ⟨by rw [World.cell?_drew, World.cell?_alloc_old _ _ _ hne1]; exact a0, by rw [World.cell?_drew]; exact hn0, hn1, hth⟩
          have hS2 : ((wr.alloc (.cells (wrC a l).toArray 68)).drew.setCells R (a * 64) (secC l)).cell? ⟨D, 0, none⟩ = some (.slice (some ⟨R, 0, none⟩) (loseK keep torn at_ d.pend d.dur k).length (loseK keep torn at_ d.pend d.dur k).length) ∧
              ((wr.alloc (.cells (wrC a l).toArray 68)).drew.setCells R (a * 64) (secC l)).cell? ⟨wr.heap.size, 0, none⟩ = some (.int .i64 (a : Int)) ∧
              ((wr.alloc (.cells (wrC a l).toArray 68)).drew.setCells R (a * 64) (secC l)).rangeAt wr.heap.size 1 (secC l) ∧ ((wr.alloc (.cells (wrC a l).toArray 68)).drew.setCells R (a * 64) (secC l)).there R (a * 64) 64 := by
            have hDR := HDEV.out.DR
            exact ⟨by rw [World.cell?_setCells_out _ _ _ _ _ (fun e => absurd e hDR)]; exact hS.1, by rw [World.cell?_setCells_out _ _ _ _ _ (fun e => absurd e (Ne.symm hRn))]; exact hS.2.1,
              World.rangeAt_setCells_apart hn1 _ _ _ (Or.inl (Ne.symm hRn)), World.there_setCells hth _ _ _⟩
          have hali : (a : Int) < ((loseK keep torn at_ d.pend d.dur k).length : Int) := by omega
          have HS := Lib.hid hS
          have HS2 := Lib.hid hS2
          have HSEC := Lib.hid (hB.out.setSec a hal l hx.2)
          clear hS hS2 hn1 hth hsec
          generalize hsk : loseK keep torn at_ d.pend d.dur k = sk at *
          have HSK := Lib.hid hsk
          clear hsk
          go_wp2_with (refine wpList_load_mid rfl 68 _ rfl g (k * 65) rfl (wrC a l) _ HLD.out Try.underlying68 rfl HSZ.out ?_)
          go_region_held3 (fun w' => w'.cell? ⟨D, 0, none⟩ = some (.slice (some ⟨R, 0, none⟩) sk.length sk.length) ∧ w'.cell? ⟨wr.heap.size, 0, none⟩ = some (.int .i64 (a : Int)) ∧ w'.rangeAt wr.heap.size 1 (secC l) ∧ w'.there R (a * 64) 64)
            (first | assumption | exact HS.out | exact HS2.out)
            (fail)
          go_wp2_with fail
          go_roundw
          case rel =>
            refine ⟨k + 1, by omega, by go_num, ?_, ?_, ?_⟩
            · have e : loseK keep torn at_ d.pend d.dur (k + 1) = sk.set a l := by
                rw [loseK, HXV.out, HSK.out]
                unfold loseS
                rw [if_neg HT.out, if_pos HBIT.out]
              rw [e]
              exact HSEC.out
            · rw [World.heap_setCells_other _ R _ _ (by simpa using Nat.lt_succ_of_lt hcl) (by have := lt_of_heap H.out.row; omega)]
              exact (Below.heap_alloc wr _ _ hcl).trans HCR.out
            · exact Onl.setCells (by simp) _ _ (HON.out.alloc _).drew
          case measure => simp [intOf]; omega
    · obtain rfl : k = d.pend.length := by omega
      have hd2 := hdev.cells
      obtain ⟨⟨a0, a1, a2, a3, a4, a5, a6⟩, ⟨g0, g1, g2, g3, g4, g5, g6⟩, hltr⟩ := hd2
      have hfin := HDEV.out.setPend (pv' := .slice none 0 0) [] rfl rfl (World.ownsRow_nil _ _ _ _) (by simp [Value.ownBlock]) (by simp [Value.ownBlock]) (by simp)
      have HFIN := Lib.hid hfin
      have HO := Lib.hid ((HON.out.mono (B' := [D, R]) (by simp)).setCell (p := ⟨D, 1, none⟩) (by simp) (.slice none 0 0))
      clear hdev hcr hon hfin a0 a2 a3 a4 a5 a6 g0 g2 g3 g4 g5 g6 c0 c1 f0 f1
      go_wp2_with fail
      go_end0
      exact ⟨rfl, HFIN.out, HO.out⟩

end Go.Proofs.Ytfmcbccmijcdgaa.Bk
