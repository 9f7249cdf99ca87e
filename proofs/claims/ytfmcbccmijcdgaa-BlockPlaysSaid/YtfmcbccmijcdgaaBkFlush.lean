/-
  Flush.
-/
import Derived.Test.YtfmcbccmijcdgaaBkWrite
namespace Go.Proofs.Ytfmcbccmijcdgaa.Bk
open Go.RowKit

/-- What lasts when the first k of the writes have been made. -/
def flushK (p : List (Nat × List UInt8)) (s : List (List UInt8)) : Nat → List (List UInt8)
  | 0 => s
  | k + 1 => (flushK p s k).set (p.getD k (0, [])).1 (p.getD k (0, [])).2
theorem flushK_length (p : List (Nat × List UInt8)) (s : List (List UInt8)) : ∀ k, (flushK p s k).length = s.length
  | 0 => rfl
  | k + 1 => by rw [flushK, List.length_set]; exact flushK_length p s k
def flushD (d : Dev) : Dev :=
  if d.off = true then d else if burnE d ≠ 0 then burnD d else { burnD d with dur := flushK (burnD d).pend (burnD d).dur (burnD d).pend.length, pend := [] }
def flushE (d : Dev) : Nat := if d.off = true then 10 else burnE d

set_option maxRecDepth 100000 in
set_option maxHeartbeats 3200000 in
/-- Flush whose fuse does not blow. -/
theorem flush_main {w : World} {D R : Nat} {pv : Value} {d : Dev} (h : DevAt w D R pv d) (hm : d.pend.length ≤ 1000) (hoff : d.off = false) (hb : burnE d = 0) :
    Calls Try.prog 9 #[.pointer (some ⟨D, 0, none⟩)] w fun e w' =>
      e = .returned (.int .i64 0) ∧ DevAt w' D R (.slice none 0 0) { burnD d with dur := flushK (burnD d).pend (burnD d).dur (burnD d).pend.length, pend := [] } ∧ Onl [D, R] w w' := by
  have hdead := dead_any h
  have hburn := burn_any h hm
  have hd0 : deadE d = 0 := by unfold deadE; rw [hoff]; rfl
  rw [hd0] at hdead
  rw [hb] at hburn
  have hbd : (burnD d).pend = d.pend := by
    unfold burnE at hb
    unfold burnD
    by_cases h0 : d.calls = 0
    · rw [if_pos h0]
    · rw [if_neg h0]
      by_cases h1 : 1 < d.calls
      · rw [if_pos h1]
      · rw [if_pos (by omega)] at hb; omega
  have hpl : (burnD d).pend.length ≤ 1000 := by rw [hbd]; exact hm
  have HD := Lib.hid hdead
  have HBU := Lib.hid hburn
  have hzw := zero_wr
  have hwn := wr_ne
  clear hdead hburn hd0 hb hoff
  generalize burnD d = db at *
  go_enter Try.func9, Try.ntmps9
  go_wp2_with fail
  refine HD.out.mono ?_
  rintro e w1 ⟨rfl, rfl⟩
  go_wp2_with fail
  refine HBU.out.mono ?_
  rintro e w2 ⟨rfl, ⟨pv2, k2, -⟩, o2⟩
  obtain ⟨⟨c0, c1, c2, c3, c4, c5, c6⟩, ⟨f0, f1, f2, f3, f4, f5, f6⟩, hlt⟩ := k2.cells
  have K2 := Lib.hid k2
  have O2 := Lib.hid o2
  have hform := own_form k2.own
  clear k2 o2 c2 c3 c4 c5 c6 f2 f3 f4 f5 f6 h hbd
  rcases hform with ⟨rfl, h0⟩ | ⟨g, cap, rfl⟩
  · have hp0 : db.pend = [] := List.eq_nil_of_length_eq_zero h0
    have HFIN := Lib.hid (K2.out.setPend (pv' := .slice none 0 0) [] rfl rfl (World.ownsRow_nil _ _ _ _) (by simp [Value.ownBlock]) (by simp [Value.ownBlock]) (by simp))
    have HP0 := Lib.hid hp0
    clear hp0 h0 hpl
    go_wp2_with fail
    go_loopw [22] (fun i wr => i = .int .i64 0 ∧ wr = w2) (fun _ _ => 0)
    case atStart => exact ⟨rfl, rfl⟩
    case round =>
      obtain ⟨rfl, rfl⟩ := hrel
      go_wp2_with fail
      go_ret
      refine ⟨rfl, ?_, O2.out.setCell (p := ⟨D, 1, none⟩) (by simp) _⟩
      rw [HP0.out]
      exact HFIN.out
  · clear f1
    go_wp2_with fail
    go_loopw [22] (fun i wr => ∃ k : Nat, k ≤ db.pend.length ∧ i = .int .i64 k ∧ DevAt wr D R (.slice (some ⟨g, 0, none⟩) db.pend.length cap) { db with dur := flushK db.pend db.dur k } ∧ Onl [D, R] w wr) (fun i _ => db.pend.length - (intOf i).toNat)
    case atStart => exact ⟨0, by omega, rfl, K2.out, O2.out⟩
    case round =>
      obtain ⟨k, hkm, rfl, hdev, hon⟩ := hrel
      have HDEV := Lib.hid hdev
      have HON := Lib.hid hon
      by_cases hlt2 : k < db.pend.length
      · have hx := K2.out.ok.pend (db.pend.getD k (0, [])) (by simp [List.getD, hlt2])
        obtain ⟨⟨a0, a1, a2, a3, a4, a5, a6⟩, ⟨g0, g1, g2, g3, g4, g5, g6⟩, hltr⟩ := hdev.cells
        have hload := hdev.load rfl k hlt2
        have hfk : flushK db.pend db.dur (k + 1) = (flushK db.pend db.dur k).set (db.pend.getD k (0, [])).1 (db.pend.getD k (0, [])).2 := rfl
        generalize hxv : db.pend.getD k (0, []) = x at *
        obtain ⟨a, l⟩ := x
        simp only at hx hload hfk
        have HFK := Lib.hid hfk
        clear hxv hfk
        have hsz : (Try.prog.info? 68).map (·.size) = some (wrC a l).length := by rw [wrC_length, hx.2]; exact size_wr
        have HLD := Lib.hid hload
        have HSZ := Lib.hid hsz
        have hst := store_fresh wr 68 (wrC 0 Z64) (wrC a l) (by rw [wrC_length, hx.2]; exact size_wr) (by rw [wrC_length, wrC_length, hx.2, Z64_length]) (wrC_one a l)
        have h65 : (wrC a l).length = 65 := by rw [wrC_length, hx.2]
        have hal : a < (flushK db.pend db.dur k).length := by rw [flushK_length]; exact hx.1
        have hsec := hdev.sec a hal
        have hB := Lib.hid (hdev.later ((Onl.refl [] wr).alloc (.cells (wrC a l).toArray 68)).drew (by simp))
        clear hdev hon hload hsz a2 a3 a4 a5 a6 g2 g3 g4 g5 g6 c0 c1 f0
        have hne1 : D ≠ wr.heap.size := by omega
        have hRn : R ≠ wr.heap.size := by have := lt_of_heap HDEV.out.row; omega
        have hn0 : (wr.alloc (.cells (wrC a l).toArray 68)).cell? ⟨wr.heap.size, 0, none⟩ = some (.int .i64 (a : Int)) := by
          rw [cell_of_row _ wr.heap.size 0 _ _ (0, 0) (heap_alloc_new wr _)]; simp [wrC]
        have hn1 : (wr.alloc (.cells (wrC a l).toArray 68)).drew.rangeAt wr.heap.size 1 (secC l) := fun j v hv => by
          rw [World.cell?_drew, cell_of_row _ wr.heap.size (1 + j) _ _ (0, 0) (heap_alloc_new wr _), List.getElem?_toArray, Nat.add_comm 1 j]; simpa [wrC] using hv
        have hth : (wr.alloc (.cells (wrC a l).toArray 68)).drew.there R (a * 64) 64 := fun j hj => by
          rw [World.cell?_drew, World.frozen?_drew, World.cell?_alloc_old _ _ _ hRn, World.frozen?_alloc_old _ _ _ hRn]
          exact hsec.2 j hj
        have hls : (secC l).length = 64 := by rw [secC_length, hx.2]
        have hu := Try.underlying66
        have hi : (Try.prog.info? 66).map (·.size) = some (secC l).length := by rw [hls]; exact size_sec
        have h1c := secC_one l
        have hS : (wr.alloc (.cells (wrC a l).toArray 68)).drew.cell? ⟨D, 0, none⟩ = some (.slice (some ⟨R, 0, none⟩) (flushK db.pend db.dur k).length (flushK db.pend db.dur k).length) ∧
            (wr.alloc (.cells (wrC a l).toArray 68)).drew.cell? ⟨wr.heap.size, 0, none⟩ = some (.int .i64 (a : Int)) ∧
            (wr.alloc (.cells (wrC a l).toArray 68)).drew.rangeAt wr.heap.size 1 (secC l) ∧ (wr.alloc (.cells (wrC a l).toArray 68)).drew.there R (a * 64) 64 :=
          ⟨by rw [World.cell?_drew, World.cell?_alloc_old _ _ _ hne1]; exact a0, by rw [World.cell?_drew]; exact hn0, hn1, hth⟩
        have hS2 : ((wr.alloc (.cells (wrC a l).toArray 68)).drew.setCells R (a * 64) (secC l)).cell? ⟨D, 0, none⟩ = some (.slice (some ⟨R, 0, none⟩) (flushK db.pend db.dur k).length (flushK db.pend db.dur k).length) ∧
            ((wr.alloc (.cells (wrC a l).toArray 68)).drew.setCells R (a * 64) (secC l)).cell? ⟨wr.heap.size, 0, none⟩ = some (.int .i64 (a : Int)) ∧
            ((wr.alloc (.cells (wrC a l).toArray 68)).drew.setCells R (a * 64) (secC l)).rangeAt wr.heap.size 1 (secC l) ∧ ((wr.alloc (.cells (wrC a l).toArray 68)).drew.setCells R (a * 64) (secC l)).there R (a * 64) 64 := by
          have hDR := HDEV.out.DR
          exact ⟨by rw [World.cell?_setCells_out _ _ _ _ _ (fun e => absurd e hDR)]; exact hS.1, by rw [World.cell?_setCells_out _ _ _ _ _ (fun e => absurd e (Ne.symm hRn))]; exact hS.2.1,
            World.rangeAt_setCells_apart hn1 _ _ _ (Or.inl (Ne.symm hRn)), World.there_setCells hth _ _ _⟩
        have hali : (a : Int) < ((flushK db.pend db.dur k).length : Int) := by omega
        have HS := Lib.hid hS
        have HS2 := Lib.hid hS2
        have HSEC := Lib.hid (hB.out.setSec a hal l hx.2)
        clear hS hS2 hn1 hth hsec
        generalize hsk : flushK db.pend db.dur k = sk at *
        have HSK := Lib.hid hsk
        clear hsk
        go_wp2_with (refine wpList_load_mid rfl 68 _ rfl g (k * 65) rfl (wrC a l) _ HLD.out Try.underlying68 rfl HSZ.out ?_)
        go_region_held3 (fun w' => w'.cell? ⟨D, 0, none⟩ = some (.slice (some ⟨R, 0, none⟩) sk.length sk.length) ∧ w'.cell? ⟨wr.heap.size, 0, none⟩ = some (.int .i64 (a : Int)) ∧ w'.rangeAt wr.heap.size 1 (secC l) ∧ w'.there R (a * 64) 64)
          (first | assumption | exact HS.out | exact HS2.out)
          (fail)
        go_wp2_with fail
        go_roundw
        case rel =>
          refine ⟨k + 1, by omega, by go_num, ?_, ?_⟩
          · rw [HFK.out]
            exact HSEC.out
          · exact Onl.setCells (by simp) _ _ (HON.out.alloc _).drew
        case measure => simp [intOf]; omega
      · obtain rfl : k = db.pend.length := by omega
        have hd2 := hdev.cells
        obtain ⟨⟨a0, a1, a2, a3, a4, a5, a6⟩, ⟨g0, g1, g2, g3, g4, g5, g6⟩, hltr⟩ := hd2
        have hfin := HDEV.out.setPend (pv' := .slice none 0 0) [] rfl rfl (World.ownsRow_nil _ _ _ _) (by simp [Value.ownBlock]) (by simp [Value.ownBlock]) (by simp)
        have HFIN := Lib.hid hfin
        have HO := Lib.hid (HON.out.setCell (p := ⟨D, 1, none⟩) (by simp) (.slice none 0 0))
        clear hdev hon hfin a0 a2 a3 a4 a5 a6 g0 g2 g3 g4 g5 g6 c0 c1 f0
        go_wp2_with fail
        go_ret
        exact ⟨rfl, HFIN.out, HO.out⟩

set_option maxRecDepth 100000 in
theorem flush_any {w : World} {D R : Nat} {pv : Value} {d : Dev} (h : DevAt w D R pv d) (hm : d.pend.length ≤ 1000) :
    Calls Try.prog 9 #[.pointer (some ⟨D, 0, none⟩)] w fun e w' =>
      e = .returned (.int .i64 (flushE d : Nat)) ∧ (∃ pv', DevAt w' D R pv' (flushD d) ∧ (pv' = pv ∨ pv' = .slice none 0 0)) ∧ Onl [D, R] w w' := by
  cases hoff : d.off with
  | true =>
    have hdead := dead_any h
    have e1 : deadE d = 10 := by unfold deadE; rw [hoff]; rfl
    have e2 : flushE d = 10 := by unfold flushE; rw [hoff]; rfl
    have e3 : flushD d = d := by unfold flushD; rw [hoff]; rfl
    rw [e2, e3]
    rw [e1] at hdead
    have HD := Lib.hid hdead
    have H := Lib.hid h
    clear hdead h e1 e2 e3 hoff hm
    go_enter Try.func9, Try.ntmps9
    go_wp2_with fail
    refine HD.out.mono ?_
    rintro e w1 ⟨rfl, rfl⟩
    go_wp2_with fail
    go_ret
    exact ⟨rfl, ⟨_, H.out, .inl rfl⟩, Onl.refl _ _⟩
  | false =>
    by_cases hb : burnE d = 0
    · have e2 : flushE d = 0 := by unfold flushE; rw [hoff]; exact hb
      have e3 : flushD d = { burnD d with dur := flushK (burnD d).pend (burnD d).dur (burnD d).pend.length, pend := [] } := by unfold flushD; rw [hoff, if_neg (by simp), if_neg (by omega)]
      rw [e2, e3]
      exact (flush_main h hm hoff hb).mono fun e w' ⟨x, y, z⟩ => ⟨x, ⟨_, y, .inr rfl⟩, z⟩
    · have hdead := dead_any h
      have hburn := burn_any h hm
      have e0 : burnE d = 10 := by unfold burnE at hb ⊢; split <;> simp_all
      have e1 : deadE d = 0 := by unfold deadE; rw [hoff]; rfl
      have e2 : flushE d = 10 := by unfold flushE; rw [hoff]; exact e0
      have e3 : flushD d = burnD d := by unfold flushD; rw [hoff, if_neg (by simp), if_pos (by omega)]
      rw [e2, e3]
      rw [e1] at hdead
      rw [e0] at hburn
      have HD := Lib.hid hdead
      have HBU := Lib.hid hburn
      clear hdead hburn h e1 e2 e3 e0 hb hoff hm
      go_enter Try.func9, Try.ntmps9
      go_wp2_with fail
      refine HD.out.mono ?_
      rintro e w1 ⟨rfl, rfl⟩
      go_wp2_with fail
      refine HBU.out.mono ?_
      rintro e w2 ⟨rfl, k2, o2⟩
      have K2 := Lib.hid k2
      have O2 := Lib.hid o2
      clear k2 o2
      go_wp2_with fail
      go_ret
      exact ⟨rfl, K2.out, O2.out⟩

end Go.Proofs.Ytfmcbccmijcdgaa.Bk
