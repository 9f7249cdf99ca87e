/-
  BlockLasts' walk.
-/
import Derived.Test.YtndnfalkpkbpjaaBkLasts
import Derived.BigQuiet
namespace Go.Proofs.Ytndnfalkpkbpjaa.Bk
open Go.RowKit

/-- A row of texts among the arguments. -/
def Strs (w : World) (a : Option Addr) (n : Nat) (T : Nat → ByteArray) : Prop :=
  ∀ i, i < n → ∃ b off, a = some ⟨b, off, none⟩ ∧ w.cell? ⟨b, off + i, none⟩ = some (.string (T i)) ∧ b < w.heap.size

theorem tx_call (s : ByteArray) (w : World) :
    Calls Try.prog 24 #[.string (s.extract 0 (min s.size 60))] w fun e w' => e = .returned (.string (S (tx s))) ∧ Below w.heap.size w w' := by
  have hl := list_size s
  have e : s.extract 0 (min s.size 60) = S (s.data.toList.take 60) := by
    rw [S_extract, List.drop_zero, Nat.sub_zero]
    congr 1
    rw [← hl, List.take_eq_take_iff]; omega
  have := sector_any (S (s.data.toList.take 60)) (by rw [S_size, List.length_take]; omega) w
  rw [S_toList] at this
  rw [e]
  exact this
theorem put_call {n0 : Nat} {w : World} {D R : Nat} {pv : Value} {dur : List (List UInt8)} {T : Nat → ByteArray} {k : Nat} (h : One n0 w D R pv (dev dur (wl T k))) (hn : n0 ≤ w.heap.size) (hk : k < 20) (hd : dur.length = 20) :
    Calls Try.prog 23 #[.pointer (some ⟨D, 0, none⟩), .int .i64 (k : Int), .string (S (tx (T k)))] w fun e w' =>
      e = .returned (.int .i64 0) ∧ (∃ pv', One n0 w' D R pv' (dev dur (wl T (k + 1)))) ∧ Below n0 w w' := by
  have hw := dev_write dur (wl T k) k (by omega) (tx (T k)) (tx_len _)
  have := write_any h.at_ (by show (wl T k).length < 1000; rw [wl_len]; omega) (k : Int) (S (tx (T k)))
  rw [S_toList, S_size, tx_len, hw.1, hw.2, ← wl_succ] at this
  refine this.mono ?_
  rintro e w' ⟨he, ⟨pv', k', f'⟩, o'⟩
  exact ⟨he, ⟨pv', (h.step hn k' f' o').1⟩, (h.step hn k' f' o').2⟩

theorem flush_call {n0 : Nat} {w : World} {D R : Nat} {pv : Value} {dur : List (List UInt8)} {T : Nat → ByteArray} {k : Nat} (h : One n0 w D R pv (dev dur (wl T k))) (hn : n0 ≤ w.heap.size) (hk : k ≤ 20) :
    Calls Try.prog 13 #[.pointer (some ⟨D, 0, none⟩)] w fun e w' =>
      e = .returned (.int .i64 0) ∧ (∃ pv', One n0 w' D R pv' (dev (flushK (wl T k) dur k) [])) ∧ Below n0 w w' := by
  have hf := dev_flush dur (wl T k)
  have := flush_any h.at_ (by show (wl T k).length ≤ 1000; rw [wl_len]; omega)
  rw [hf.1, hf.2, wl_len] at this
  refine this.mono ?_
  rintro e w' ⟨he, ⟨pv', k', f'⟩, o'⟩
  have f2 : Fresh w pv pv' := by
    rcases f' with rfl | rfl
    · exact Fresh.refl _ _
    · exact Fresh.nil _ _
  have o2 := o'.mono (B' := blocks D R pv) (by simp [blocks])
  exact ⟨he, ⟨pv', (h.step hn k' f2 o2).1⟩, (h.step hn k' f2 o2).2⟩
theorem kill_call {n0 : Nat} {w : World} {D R : Nat} {pv : Value} {dur : List (List UInt8)} {T : Nat → ByteArray} {k : Nat} (h : One n0 w D R pv (dev dur (wl T k))) (hn : n0 ≤ w.heap.size) (hk : k ≤ 20)
    (keep : Nat) (hkp : keep < 18446744073709551616) (torn at_ : Int) :
    Calls Try.prog 15 #[.pointer (some ⟨D, 0, none⟩), .agg #[.int .u64 (keep : Int), .int .i64 torn, .int .i64 at_]] w fun e w' =>
      e = .returned (.tuple #[]) ∧ DevAt w' D R (.slice none 0 0) (dev (loseK keep torn at_ (wl T k) dur k) []) ∧ Below n0 w w' := by
  have hd := dev_kill dur (wl T k) keep torn at_
  have := kill_any h.at_ (by show (wl T k).length ≤ 1000; rw [wl_len]; omega) keep hkp torn at_
  rw [hd, wl_len] at this
  refine this.mono ?_
  rintro e w' ⟨he, k', o'⟩
  have o2 := o'.mono (B' := blocks D R pv) (by simp [blocks])
  exact ⟨he, k', (h.step hn k' (Fresh.nil _ _) o2).2⟩

theorem str_ne {a b : ByteArray} (h : a ≠ b) : (a.toList == b.toList) = false := by
  rw [ByteArray.toList_eq, ByteArray.toList_eq]
  simp only [beq_eq_false_iff_ne, ne_eq]
  intro e
  exact h (ByteArray.ext (Array.ext' e))

set_option maxRecDepth 100000 in
set_option maxHeartbeats 3200000 in
theorem BlockLasts_main (a1 a2 : Option Addr) (n1 c1 n2 c2 : Nat) (T1 T2 : Nat → ByteArray) (keep : Nat) (torn at_ : Int) (hk : keep < 18446744073709551616) (hn1 : n1 ≤ 20) (hn2 : n2 ≤ 20) (w : World)
    (h1 : Strs w a1 n1 T1) (h2 : Strs w a2 n2 T2) :
    Calls Try.prog 5 #[.slice a1 n1 c1, .slice a2 n2 c2, .agg #[.int .u64 (keep : Int), .int .i64 torn, .int .i64 at_]] w fun e w' => e = .returned (.bool true) ∧ Below w.heap.size w w' := by
  have hi1 : ¬ (20 : Int) < (n1 : Int) := by omega
  have hi2 : ¬ (20 : Int) < (n2 : Int) := by omega
  have B0 := Lib.hid ((Below.refl w.heap.size w).alloc (Nat.le_refl _) (.cells #[.int .u64 (keep : Int), .int .i64 torn, .int .i64 at_] 30))
  have hbox := heap_alloc_new w (.cells #[.int .u64 (keep : Int), .int .i64 torn, .int .i64 at_] 30)
  have hs0 : (w.alloc (.cells #[.int .u64 (keep : Int), .int .i64 torn, .int .i64 at_] 30)).heap.size = w.heap.size + 1 := by simp
  have HBOX := Lib.hid hbox
  have HK := Lib.hid hk
  have H1 := Lib.hid h1
  have H2 := Lib.hid h2
  clear hbox hk h1 h2
  go_enter Try.func5, Try.ntmps5
  go_wp2_with fail
  generalize (w.alloc (.cells #[.int .u64 (keep : Int), .int .i64 torn, .int .i64 at_] 30)) = W0 at *
  refine (awake_any _).mono ?_
  rintro e w1 ⟨rfl, b1⟩
  have B1 := Lib.hid b1
  clear b1
  go_wp2_with fail
  have hnw := new_any 20 w1
  rw [show newN 20 = 20 from rfl, dev_new] at hnw
  refine hnw.mono ?_
  clear hnw
  rintro e w2 ⟨rfl, d2, b2⟩
  have hdl : (List.replicate 20 Z64).length = 20 := by simp
  generalize List.replicate 20 Z64 = Z at *
  have O2 := Lib.hid (show One W0.heap.size w2 (w1.heap.size + 1) w1.heap.size (.slice none 0 0) (dev Z (wl T1 0)) from ⟨d2, fun k hk => by have := B1.out.size; simp only [mem_blocks, Value.ownBlock] at hk; simp at hk; omega⟩)
  have B2 := Lib.hid (two B1.out b2)
  clear d2 b2 B1
  generalize w1.heap.size + 1 = D at *
  generalize w1.heap.size = R at *
  go_wp2_with fail
  go_loopw [32] (fun i wr => ∃ k : Nat, k ≤ n1 ∧ i = .int .i64 k ∧ (∃ pv, One W0.heap.size wr D R pv (dev Z (wl T1 k))) ∧ Below W0.heap.size W0 wr) (fun i _ => n1 - (intOf i).toNat)
  case atStart => exact ⟨0, by omega, rfl, ⟨_, O2.out⟩, B2.out⟩
  case round =>
    obtain ⟨k, hkm, rfl, ⟨pv, ho⟩, hb⟩ := hrel
    have HO := Lib.hid ho
    have HB := Lib.hid hb
    clear ho hb O2 B2
    by_cases hlt : k < n1
    · obtain ⟨b, off, rfl, hcell, hbl⟩ := H1.out k hlt
      have hcell : wr.cell? ⟨b, off + k, none⟩ = some (.string (T1 k)) := (HB.out.cell (p := ⟨b, off + k, none⟩) (by show b < _; omega)).trans ((B0.out.cell (p := ⟨b, off + k, none⟩) hbl).trans hcell)
      have htx := tx_call (T1 k)
      have hput := fun {w} {pv} (h : One W0.heap.size w D R pv (dev Z (wl T1 k))) hn => put_call h hn (by omega) hdl
      generalize T1 k = s at *
      have hmin : min (s.size : Int) 60 = ((min s.size 60 : Nat) : Int) := by omega
      have hm1 : ((min s.size 60 : Nat) : Int) ≤ (s.size : Int) := by omega
      have hm2 : min s.size 60 ≤ s.size := by omega
      have HTX := Lib.hid htx
      clear htx
      generalize min s.size 60 = m at *
      go_wp2_with fail
      refine (HTX.out _).mono ?_
      rintro e w3 ⟨rfl, b3⟩
      have O3 := Lib.hid (HO.out.later (Onl.of_below b3 []))
      have B3 := Lib.hid (HB.out.trans (b3.mono HB.out.size))
      clear b3
      go_wp2_with fail
      refine (hput O3.out B3.out.size).mono ?_
      rintro e w4 ⟨rfl, o4, b4⟩
      have O4 := Lib.hid o4
      have B4 := Lib.hid (B3.out.trans b4)
      clear o4 b4
      go_wp2_with fail
      go_roundw
      case rel => exact ⟨k + 1, by omega, by go_num, O4.out, B4.out⟩
      case measure => simp [intOf]; omega
    · obtain rfl : k = n1 := by omega
      go_wp2_with fail
      refine (flush_call HO.out HB.out.size (by omega)).mono ?_
      rintro e w3 ⟨rfl, ⟨pv3, o3⟩, b3⟩
      have hfl : (flushK (wl T1 k) Z k).length = 20 := by rw [flushK_length]; exact hdl
      generalize flushK (wl T1 k) Z k = F at *
      have O3 := Lib.hid o3
      have B3 := Lib.hid (HB.out.trans b3)
      clear o3 b3 HO HB
      go_wp2_with fail
      refine (lasting_any O3.out.at_).mono ?_
      rintro e w4 ⟨rfl, b4⟩
      have O4 := Lib.hid (show One W0.heap.size w4 D R pv3 (dev F (wl T2 0)) from O3.out.later (Onl.of_below b4 []))
      have B4 := Lib.hid (B3.out.trans (b4.mono B3.out.size))
      have h64 := O3.out.at_.ok.dur
      change ∀ x ∈ F, x.length = 64 at h64
      have H64 := Lib.hid h64
      have hfs : (S (dev F []).dur.flatten) = S F.flatten := rfl
      rw [hfs]
      have hsz : ((S F.flatten).size : Int) = 1280 := by
        rw [S_size]
        have := durC_length F h64
        rw [durC_flat, List.length_map] at this
        omega
      clear b4 O3 B3 h64 hfs
      go_wp2_with fail
      go_loopw [54] (fun i wr => ∃ k : Nat, k ≤ n2 ∧ i = .int .i64 k ∧ (∃ pv, One W0.heap.size wr D R pv (dev F (wl T2 k))) ∧ Below W0.heap.size W0 wr) (fun i _ => n2 - (intOf i).toNat)
      case atStart => exact ⟨0, by omega, rfl, ⟨_, O4.out⟩, B4.out⟩
      case round =>
        obtain ⟨j, hjm, rfl, ⟨pv5, ho⟩, hb⟩ := hrel
        have HO := Lib.hid ho
        have HB := Lib.hid hb
        clear ho hb O4 B4
        by_cases hlt2 : j < n2
        · obtain ⟨b, off, rfl, hcell, hbl⟩ := H2.out j hlt2
          have hcell : wr.cell? ⟨b, off + j, none⟩ = some (.string (T2 j)) := (HB.out.cell (p := ⟨b, off + j, none⟩) (by show b < _; omega)).trans ((B0.out.cell (p := ⟨b, off + j, none⟩) hbl).trans hcell)
          have htx := tx_call (T2 j)
          have hput := fun {w} {pv} (h : One W0.heap.size w D R pv (dev F (wl T2 j))) hn => put_call h hn (by omega) hfl
          generalize T2 j = s at *
          have hmin : min (s.size : Int) 60 = ((min s.size 60 : Nat) : Int) := by omega
          have hm1 : ((min s.size 60 : Nat) : Int) ≤ (s.size : Int) := by omega
          have hm2 : min s.size 60 ≤ s.size := by omega
          have HTX := Lib.hid htx
          clear htx
          generalize min s.size 60 = m at *
          go_wp2_with fail
          refine (HTX.out _).mono ?_
          rintro e w5 ⟨rfl, b5⟩
          have O5 := Lib.hid (HO.out.later (Onl.of_below b5 []))
          have B5 := Lib.hid (HB.out.trans (b5.mono HB.out.size))
          clear b5
          go_wp2_with fail
          refine (hput O5.out B5.out.size).mono ?_
          rintro e w6 ⟨rfl, o6, b6⟩
          have O6 := Lib.hid o6
          have B6 := Lib.hid (B5.out.trans b6)
          clear o6 b6
          go_wp2_with fail
          go_roundw
          case rel => exact ⟨j + 1, by omega, by go_num, O6.out, B6.out⟩
          case measure => simp [intOf]; omega
        · obtain rfl : j = n2 := by omega
          have hbx := (HB.out.block w.heap.size (by omega)).trans HBOX.out
          have b0 : wr.cell? ⟨w.heap.size, 0, none⟩ = some (.int .u64 (keep : Int)) := (cell_of_row wr _ _ _ _ (0, 0) hbx).trans rfl
          have b1 : wr.cell? ⟨w.heap.size, 1, none⟩ = some (.int .i64 torn) := (cell_of_row wr _ _ _ _ (0, 0) hbx).trans rfl
          have b2 : wr.cell? ⟨w.heap.size, 2, none⟩ = some (.int .i64 at_) := (cell_of_row wr _ _ _ _ (0, 0) hbx).trans rfl
          clear hbx
          go_wp2_with fail
          refine (kill_call HO.out HB.out.size (by omega) keep HK.out torn at_).mono ?_
          rintro e w5 ⟨rfl, d5, b5⟩
          have hgl : (loseK keep torn at_ (wl T2 j) F j).length = 20 := by rw [loseK_length]; exact hfl
          have hget := fun i h => lose_get keep torn at_ T2 j F i h j (Nat.le_refl _)
          generalize loseK keep torn at_ (wl T2 j) F j = G at *
          have D5 := Lib.hid d5
          have B5 := Lib.hid (HB.out.trans b5)
          have HGET := Lib.hid hget
          have hx1 := (B5.out.block w.heap.size (by omega)).trans HBOX.out
          clear d5 b5 HO HB hget b0 b1 b2
          go_wp2_with fail
          refine (lasting_any D5.out).mono ?_
          rintro e w6 ⟨rfl, b6⟩
          have B6 := Lib.hid (B5.out.trans (b6.mono B5.out.size))
          have hg64 := D5.out.ok.dur
          change ∀ x ∈ G, x.length = 64 at hg64
          have hgs : (S (dev G []).dur.flatten) = S G.flatten := rfl
          rw [hgs]
          have hsz2 : ((S G.flatten).size : Int) = 1280 := by
            rw [S_size]
            have := durC_length G hg64
            rw [durC_flat, List.length_map] at this
            omega
          have hxF : ∀ q, q < 20 → (S F.flatten).extract (q * 64) ((q + 1) * 64) = S (F.getD q []) := fun q hq => by
            rw [S_extract, S_toList, show (q + 1) * 64 - q * 64 = 64 by omega, flat_get F H64.out q (by omega)]
          have hxG : ∀ q, q < 20 → (S G.flatten).extract (q * 64) ((q + 1) * 64) = S (G.getD q []) := fun q hq => by
            rw [S_extract, S_toList, show (q + 1) * 64 - q * 64 = 64 by omega, flat_get G hg64 q (by omega)]
          have HXF := Lib.hid hxF
          have HXG := Lib.hid hxG
          generalize S F.flatten = SF at *
          generalize S G.flatten = SG at *
          clear b6 hg64 hgs hxF hxG B5 hx1 D5
          go_wp2_with fail
          go_loopw [74] (fun i wr => ∃ q : Nat, q ≤ 20 ∧ i = .int .i64 q ∧ Below W0.heap.size W0 wr) (fun i _ => 20 - (intOf i).toNat)
          case atStart => exact ⟨0, by omega, rfl, B6.out⟩
          case round =>
            obtain ⟨q, hqm, rfl, hb⟩ := hrel
            have HB := Lib.hid hb
            clear hb B6
            by_cases hq : q < 20
            · have hbx := (HB.out.block w.heap.size (by omega)).trans HBOX.out
              have b1 : wr.cell? ⟨w.heap.size, 1, none⟩ = some (.int .i64 torn) := (cell_of_row wr _ _ _ _ (0, 0) hbx).trans rfl
              clear hbx
              have hw1 : IntKind.i64.wrap ((q : Int) * 64) = (q : Int) * 64 := by rw [IntKind.wrap_i64]; omega
              have hw2 : IntKind.i64.wrap ((q : Int) + 1) = (q : Int) + 1 := by rw [IntKind.wrap_i64]; omega
              have hw3 : IntKind.i64.wrap (((q : Int) + 1) * 64) = ((q : Int) + 1) * 64 := by rw [IntKind.wrap_i64]; omega
              have ht1 : ((q : Int) * 64).toNat = q * 64 := by omega
              have ht2 : (((q : Int) + 1) * 64).toNat = (q + 1) * 64 := by omega
              have hxa := HXF.out q hq
              have hxb := HXG.out q hq
              have hg := HGET.out q
              generalize hsa : S (F.getD q []) = sa at *
              generalize hsb : S (G.getD q []) = sb at *
              have HSA := Lib.hid hsa
              have HSB := Lib.hid hsb
              have HG := Lib.hid hg
              have l1 : (0 : Int) ≤ (q : Int) * 64 := by omega
              have l2 : (q : Int) * 64 ≤ ((q : Int) + 1) * 64 := by omega
              have l3 : ((q : Int) + 1) * 64 ≤ (SF.size : Int) := by omega
              have l4 : ((q : Int) + 1) * 64 ≤ (SG.size : Int) := by omega
              clear hsa hsb hg
              go_wp2_with fail
              go_quiet (fail)
              have hbq : Below W0.heap.size W0 (wr.drewN nq) := ⟨HB.out.os, HB.out.tape, HB.out.output, HB.out.size, HB.out.block⟩
              have b1q : (wr.drewN nq).cell? ⟨w.heap.size, 1, none⟩ = some (.int .i64 torn) := by rw [World.cell?_drewN]; exact b1
              generalize wr.drewN nq = wq at *
              have HBQ := Lib.hid hbq
              clear hbq b1 HB hxa hxb hw1 hw2 hw3 ht1 ht2 l1 l2 l3 l4
              by_cases hqj : q < j
              · obtain ⟨b, off, rfl, hcell, hbl⟩ := H2.out q hqj
                have hcell : wq.cell? ⟨b, off + q, none⟩ = some (.string (T2 q)) := (HBQ.out.cell (p := ⟨b, off + q, none⟩) (by show b < _; omega)).trans ((B0.out.cell (p := ⟨b, off + q, none⟩) hbl).trans hcell)
                have htx := tx_call (T2 q)
                have hfin : sb = sa ∨ sb = S (tx (T2 q)) ∨ (q : Int) = torn := by
                  by_cases ht : (q : Int) = torn
                  · exact .inr (.inr ht)
                  · rcases HG.out ht with h | ⟨_, h⟩
                    · exact .inl (by rw [← HSA.out, ← HSB.out, h])
                    · exact .inr (.inl (by rw [← HSB.out, h]))
                generalize S (tx (T2 q)) = n at *
                generalize T2 q = s at *
                have hmin : min (s.size : Int) 60 = ((min s.size 60 : Nat) : Int) := by omega
                have hm1 : ((min s.size 60 : Nat) : Int) ≤ (s.size : Int) := by omega
                have hm2 : min s.size 60 ≤ s.size := by omega
                have HTX := Lib.hid htx
                have HFIN := Lib.hid hfin
                have HC := Lib.hid hcell
                have hbw : b < wq.heap.size := by have := HBQ.out.size; omega
                clear htx hfin
                generalize min s.size 60 = m at *
                go_wp2_with fail
                go_region_held3 (fun w' => w'.cell? ⟨b, off + q, none⟩ = some (.string s)) (first | assumption | (simp only [World.cell?_drew]; assumption))
                  ((go_at_call 24; refine (HTX.out _).mono ?_; rintro e w7 ⟨rfl, b7⟩; have hc7 : w7.cell? ⟨b, off + q, none⟩ = some (.string s) := (b7.cell (p := ⟨b, off + q, none⟩) hbw).trans HC.out; have B7 := Lib.hid b7; clear b7))
                have HBN := Lib.hid (HBQ.out.drew.trans (B7.out.mono HBQ.out.drew.size))
                have b17 : w7.cell? ⟨w.heap.size, 1, none⟩ = some (.int .i64 torn) := (cell_of_row w7 _ _ _ _ (0, 0) ((HBN.out.block w.heap.size (by omega)).trans HBOX.out)).trans rfl
                clear HG HSA HSB HGET
                rcases HFIN.out with hf | hf | hf
                · subst hf
                  go_wp2_with fail
                  go_roundw
                  case rel => exact ⟨q + 1, by omega, by go_num, HBN.out⟩
                  case measure => simp [intOf]; omega
                · by_cases hab : sb = sa
                  · subst hab
                    go_wp2_with fail
                    go_roundw
                    case rel => exact ⟨q + 1, by omega, by go_num, HBN.out⟩
                    case measure => simp [intOf]; omega
                  · have e1 := str_ne hab
                    have HAB := Lib.hid hab
                    clear hab
                    subst hf
                    go_wp2_with fail
                    go_roundw
                    case rel => exact ⟨q + 1, by omega, by go_num, HBN.out⟩
                    case measure => simp [intOf]; omega
                · by_cases hab : sb = sa
                  · subst hab
                    go_wp2_with fail
                    go_roundw
                    case rel => exact ⟨q + 1, by omega, by go_num, HBN.out⟩
                    case measure => simp [intOf]; omega
                  · have e1 := str_ne hab
                    have HAB := Lib.hid hab
                    clear hab
                    by_cases hbn : sb = n
                    · subst hbn
                      go_wp2_with fail
                      go_roundw
                      case rel => exact ⟨q + 1, by omega, by go_num, HBN.out⟩
                      case measure => simp [intOf]; omega
                    · have e2 := str_ne hbn
                      have HBN2 := Lib.hid hbn
                      clear hbn
                      have HF := Lib.hid hf
                      have hf2 : ((q : Int) == torn) = true := by simpa using hf
                      clear hf
                      go_wp2_with fail
                      go_roundw
                      case rel => exact ⟨q + 1, by omega, by go_num, HBN.out⟩
                      case measure => simp [intOf]; omega
              · have hfin : sb = sa ∨ (q : Int) = torn := by
                  by_cases ht : (q : Int) = torn
                  · exact .inr ht
                  · rcases HG.out ht with h | ⟨h, _⟩
                    · exact .inl (by rw [← HSA.out, ← HSB.out, h])
                    · omega
                have HBN := HBQ
                clear HG HSA HSB HGET
                rcases hfin with rfl | rfl
                · go_wp2_with fail
                  go_roundw
                  case rel => exact ⟨q + 1, by omega, by go_num, HBN.out⟩
                  case measure => simp [intOf]; omega
                · by_cases hab : sb = sa
                  · subst hab
                    go_wp2_with fail
                    go_roundw
                    case rel => exact ⟨q + 1, by omega, by go_num, HBN.out⟩
                    case measure => simp [intOf]; omega
                  · have e1 := str_ne hab
                    have HAB := Lib.hid hab
                    clear hab
                    go_wp2_with fail
                    go_roundw
                    case rel => exact ⟨q + 1, by omega, by go_num, HBN.out⟩
                    case measure => simp [intOf]; omega
            · obtain rfl : q = 20 := by omega
              go_wp2_with fail
              refine (awake_any _).mono ?_
              rintro e w7 ⟨rfl, b7⟩
              have B7 := Lib.hid (HB.out.trans (b7.mono HB.out.size))
              clear b7
              go_wp2_with fail
              go_ret
              exact ⟨rfl, B0.out.trans (B7.out.mono (by omega))⟩
set_option maxRecDepth 100000 in
set_option maxHeartbeats 1600000 in
/-- More than 20 of one: only the examples again. -/
theorem BlockLasts_many (a1 a2 : Option Addr) (n1 c1 n2 c2 : Nat) (v : Value) (hv : ∃ k t a, v = .agg #[.int .u64 k, .int .i64 t, .int .i64 a]) (hn : 20 < n1 ∨ 20 < n2) (w : World) :
    Calls Try.prog 5 #[.slice a1 n1 c1, .slice a2 n2 c2, v] w fun e w' => e = .returned (.bool true) ∧ Below w.heap.size w w' := by
  obtain ⟨kk, tt, aa, rfl⟩ := hv
  have B0 := Lib.hid ((Below.refl w.heap.size w).alloc (Nat.le_refl _) (.cells #[.int .u64 kk, .int .i64 tt, .int .i64 aa] 30))
  by_cases h1 : 20 < n1
  · have hi1 : (20 : Int) < (n1 : Int) := by omega
    clear hn h1
    go_enter Try.func5, Try.ntmps5
    go_wp2_with fail
    refine (awake_any _).mono ?_
    rintro e w1 ⟨rfl, b1⟩
    have B1 := Lib.hid (two B0.out b1)
    clear b1 B0
    go_wp2_with fail
    refine (awake_any _).mono ?_
    rintro e w2 ⟨rfl, b2⟩
    have B2 := Lib.hid (two B1.out b2)
    clear b2 B1
    go_wp2_with fail
    go_ret
    exact ⟨rfl, B2.out⟩
  · have hi1 : ¬ (20 : Int) < (n1 : Int) := by omega
    have hi2 : (20 : Int) < (n2 : Int) := by omega
    clear hn h1
    go_enter Try.func5, Try.ntmps5
    go_wp2_with fail
    refine (awake_any _).mono ?_
    rintro e w1 ⟨rfl, b1⟩
    have B1 := Lib.hid (two B0.out b1)
    clear b1 B0
    go_wp2_with fail
    refine (awake_any _).mono ?_
    rintro e w2 ⟨rfl, b2⟩
    have B2 := Lib.hid (two B1.out b2)
    clear b2 B1
    go_wp2_with fail
    go_ret
    exact ⟨rfl, B2.out⟩
theorem BlockLasts_walk (a1 a2 : Option Addr) (n1 c1 n2 c2 : Nat) (T1 T2 : Nat → ByteArray) (keep : Nat) (torn at_ : Int) (hk : keep < 18446744073709551616) (w : World)
    (h1 : Strs w a1 n1 T1) (h2 : Strs w a2 n2 T2) :
    Calls Try.prog 5 #[.slice a1 n1 c1, .slice a2 n2 c2, .agg #[.int .u64 (keep : Int), .int .i64 torn, .int .i64 at_]] w fun e w' => e = .returned (.bool true) ∧ Below w.heap.size w w' := by
  by_cases h : 20 < n1 ∨ 20 < n2
  · exact BlockLasts_many a1 a2 n1 c1 n2 c2 _ ⟨_, _, _, rfl⟩ h w
  · exact BlockLasts_main a1 a2 n1 c1 n2 c2 T1 T2 keep torn at_ hk (by omega) (by omega) w h1 h2

end Go.Proofs.Ytndnfalkpkbpjaa.Bk
