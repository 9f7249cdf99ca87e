/-
  The law LexScans: the program's tokens are the document's.
-/
import Derived.Test.YtjndgfppjdobiaaGreatDoorLxAwake
import Derived.Test.YtjndgfppjdobiaaGreatDoorLxRB
import Derived.Test.YtjndgfppjdobiaaGreatDoorLxAts
import Derived.Deep.QuietTactic
import Derived.BigQuiet
import Derived.IntWalk
namespace Go.Proofs.YtjndgfppjdobiaaGreatDoor.Lx
open Go.RowKit
open Va

theorem RToks.at {w : World} {B : Nat} {v : Value} {ts : List TA} (h : RToks w B v ts) (hne : ts ≠ []) : ∃ g cap, v = .slice (some ⟨g, 0, none⟩) ts.length cap ∧ B ≤ g ∧ TokAt w g ts :=
  Toks.at (show Toks w B v ts from h) hne
set_option linter.unusedSimpArgs false
set_option maxRecDepth 100000 in
set_option maxHeartbeats 1600000 in
theorem refScan_long (s : ByteArray) (hs : 8000 < s.size) (w : World) :
    Calls Tryz.prog 6 #[.string s] w fun e w' => e = .returned (.tuple #[.slice none 0 0, .int .i64 0, .int .i64 5]) ∧ Below w.heap.size w w' := by
  have hsi : (8000 : Int) < (s.size : Int) := by omega
  go_enter Tryz.func6, Tryz.ntmps6
  go_wp2_with fail
  go_ret3
  exact ⟨rfl, Below.refl _ _⟩
theorem refScan_ok (s : ByteArray) (hs : s.size ≤ 8000) (w : World) (ts : List TA) (h : scanM s.data.toList 0 = (ts, none)) :
    Calls Tryz.prog 6 #[.string s] w fun e w' => (∃ g cap, e = .returned (.tuple #[.slice (some ⟨g, 0, none⟩) ts.length cap, .int .i64 0, .int .i64 0]) ∧ w.heap.size ≤ g ∧ TokAt w' g ts) ∧ Below w.heap.size w w' := by
  refine (refScan_any s hs w).mono ?_
  rintro e w' ⟨hr, hb⟩
  rw [h] at hr
  obtain ⟨v, rfl, ht⟩ := hr
  have hne : ts ≠ [] := by
    have := scan_ne s.data.toList 0 (by rw [h])
    rw [h] at this
    exact this
  obtain ⟨g, cap, rfl, hB, hta⟩ := ht.at hne
  exact ⟨⟨g, cap, rfl, hB, hta⟩, hb⟩
theorem refScan_err (s : ByteArray) (hs : s.size ≤ 8000) (w : World) (ts : List TA) (p : Nat) (h : scanM s.data.toList 0 = (ts, some p)) :
    Calls Tryz.prog 6 #[.string s] w fun e w' => e = .returned (.tuple #[.slice none 0 0, .int .i64 (p : Int), .int .i64 24]) ∧ Below w.heap.size w w' := by
  refine (refScan_any s hs w).mono ?_
  rintro e w' ⟨hr, hb⟩
  rw [h] at hr
  exact ⟨hr, hb⟩

set_option maxRecDepth 100000 in
set_option maxHeartbeats 1600000 in
theorem refSame_none (w : World) :
    Calls Tryz.prog 7 #[.slice none 0 0, .slice none 0 0] w fun e w' => e = .returned (.bool true) ∧ Below w.heap.size w w' := by
  go_enter Tryz.func7, Tryz.ntmps7
  go_wp2_with fail
  go_loopw [13] (fun v wr => v = .int .i64 0 ∧ wr = w) (fun v _ => 0)
  case atStart => exact ⟨rfl, rfl⟩
  case round =>
    obtain ⟨rfl, rfl⟩ := hrel
    go_wp2_with fail
    go_ret
    exact ⟨rfl, Below.refl _ _⟩
set_option linter.unusedSimpArgs false
set_option maxRecDepth 100000 in
set_option maxHeartbeats 3200000 in
theorem refSame_toks (ts : List TA) (hn : ts.length ≤ 8001) (g1 c1 g2 c2 : Nat) (w : World) (h1 : TokAt w g1 ts) (h2 : TokAt w g2 ts) :
    Calls Tryz.prog 7 #[.slice (some ⟨g1, 0, none⟩) ts.length c1, .slice (some ⟨g2, 0, none⟩) ts.length c2] w fun e w' => e = .returned (.bool true) ∧ Below w.heap.size w w' := by
  have H1 := Lib.hid h1
  have H2 := Lib.hid h2
  clear h1 h2
  have hni : (ts.length : Int) ≤ 8001 := by omega
  go_enter Tryz.func7, Tryz.ntmps7
  go_wp2_with fail
  go_loopw [13] (fun v wr => ∃ k : Nat, v = .int .i64 k ∧ k ≤ ts.length ∧ Below w.heap.size w wr) (fun v _ => ts.length - (intOf v).toNat)
  case atStart => exact ⟨0, rfl, by omega, Below.refl _ _⟩
  case round =>
    obtain ⟨k, rfl, hk, hb⟩ := hrel
    have HB := Lib.hid hb
    have ht1 := H1.out.below hb
    have ht2 := H2.out.below hb
    have hlt1 := ht1.lt
    have hlt2 := ht2.lt
    have hsz := hb.size
    by_cases hlt : k < ts.length
    · have hki : (k : Int) < (ts.length : Int) := by omega
      obtain ⟨x, hx⟩ : ∃ x, ts[k]? = some x := ⟨ts[k], List.getElem?_eq_getElem hlt⟩
      obtain ⟨p0, p1, p2, p3⟩ := ht1.cells k x hx
      obtain ⟨q0, q1, q2, q3⟩ := ht2.cells k x hx
      obtain ⟨xk, xt, xn, xa⟩ := x
      simp only at p0 p1 p2 p3 q0 q1 q2 q3
      have hwr : IntKind.i64.wrap ((k : Int) + 1) = (k : Int) + 1 := IntWalk.i64_in _ (by omega)
      clear hb ht1 ht2 hx
      go_wp2_with fail
      go_quiet (fail)
      go_wp2_with fail
      go_roundw
      case rel => exact ⟨k + 1, by go_num, by omega, HB.out.trans ((Go.Joins.below_draws _ _ _).mono hsz)⟩
      case measure => simp [intOf]; omega
    · obtain rfl : k = ts.length := by omega
      clear hb ht1 ht2
      go_wp2_with fail
      go_ret
      exact ⟨rfl, HB.out⟩

set_option maxRecDepth 100000 in
set_option maxHeartbeats 6400000 in
theorem lexScans_walk (s : ByteArray) (w : World) (_ : s.size ≤ maxLen) (hz : s.size ≤ 140737488355328) (hL : Laid w) :
    Calls Tryz.prog 3 #[.string s] w fun e w' => e = .returned (.bool true) ∧ Below w.heap.size w w' := by
  have HAW := Lib.hid (fun (wr : World) (hb : Below w.heap.size w wr) => awake_any wr (hL.below hb))
  by_cases h8 : 8000 < s.size
  · have HS1 := Lib.hid (fun (wr : World) => scan_long s h8 wr)
    have HS2 := Lib.hid (fun (wr : World) => refScan_long s h8 wr)
    have HSN := Lib.hid refSame_none
    clear hL
    go_enter Tryz.func3, Tryz.ntmps3
    go_wp2_with fail
    refine (HAW.out _ (Below.refl _ _)).mono ?_
    rintro e w1 ⟨rfl, b1⟩
    have B1 := Lib.hid b1
    clear b1
    go_wp2_with fail
    refine (HS1.out _).mono ?_
    rintro e w2 ⟨rfl, b2⟩
    have B2 := Lib.hid (B1.out.trans (b2.mono B1.out.size))
    clear b2
    go_wp2_with fail
    refine (HS2.out _).mono ?_
    rintro e w3 ⟨rfl, b3⟩
    have B3 := Lib.hid (B2.out.trans (b3.mono B2.out.size))
    clear b3
    go_wp2_with fail
    refine (HAW.out _ B3.out).mono ?_
    rintro e w4 ⟨rfl, b4⟩
    have B4 := Lib.hid (B3.out.trans (b4.mono B3.out.size))
    clear b4
    go_wp2_with fail
    refine (HSN.out _).mono ?_
    rintro e w5 ⟨rfl, b5⟩
    have B5 := Lib.hid (B4.out.trans (b5.mono B4.out.size))
    clear b5
    go_wp2_with fail
    go_ret
    exact ⟨rfl, B5.out⟩
  · have hs8 : s.size ≤ 8000 := by omega
    obtain ⟨ts, o, hs1⟩ : ∃ ts o, scanM s.data.toList 0 = (ts, o) := ⟨_, _, rfl⟩
    cases o with
    | some p =>
      have HS1 := Lib.hid (fun (wr : World) (hb : Below w.heap.size w wr) => scan_err s hs8 wr (hL.below hb) ts p hs1)
      have HS2 := Lib.hid (fun (wr : World) => refScan_err s hs8 wr ts p hs1)
      have HSN := Lib.hid refSame_none
      clear hL hs1
      go_enter Tryz.func3, Tryz.ntmps3
      go_wp2_with fail
      refine (HAW.out _ (Below.refl _ _)).mono ?_
      rintro e w1 ⟨rfl, b1⟩
      have B1 := Lib.hid b1
      clear b1
      go_wp2_with fail
      refine (HS1.out _ B1.out).mono ?_
      rintro e w2 ⟨rfl, b2⟩
      have B2 := Lib.hid (B1.out.trans (b2.mono B1.out.size))
      clear b2
      go_wp2_with fail
      refine (HS2.out _).mono ?_
      rintro e w3 ⟨rfl, b3⟩
      have B3 := Lib.hid (B2.out.trans (b3.mono B2.out.size))
      clear b3
      go_wp2_with fail
      refine (HAW.out _ B3.out).mono ?_
      rintro e w4 ⟨rfl, b4⟩
      have B4 := Lib.hid (B3.out.trans (b4.mono B3.out.size))
      clear b4
      go_wp2_with fail
      refine (HSN.out _).mono ?_
      rintro e w5 ⟨rfl, b5⟩
      have B5 := Lib.hid (B4.out.trans (b5.mono B4.out.size))
      clear b5
      go_wp2_with fail
      go_ret
      exact ⟨rfl, B5.out⟩
    | none =>
      have hn := (scan_at _ s.data.toList 0 (Nat.le_refl _)).2
      rw [hs1, list_size] at hn
      have HS1 := Lib.hid (fun (wr : World) (hb : Below w.heap.size w wr) => scan_ok s hs8 wr (hL.below hb) ts hs1)
      have HS2 := Lib.hid (fun (wr : World) => refScan_ok s hs8 wr ts hs1)
      have HSN := Lib.hid (fun g1 c1 g2 c2 wr h1 h2 => refSame_toks ts (by simp only at hn; omega) g1 c1 g2 c2 wr h1 h2)
      clear hL hs1 hn
      go_enter Tryz.func3, Tryz.ntmps3
      go_wp2_with fail
      refine (HAW.out _ (Below.refl _ _)).mono ?_
      rintro e w1 ⟨rfl, b1⟩
      have B1 := Lib.hid b1
      clear b1
      go_wp2_with fail
      refine (HS1.out _ B1.out).mono ?_
      rintro e w2 ⟨⟨g1, c1, rfl, _, ht1⟩, b2⟩
      have B2 := Lib.hid (B1.out.trans (b2.mono B1.out.size))
      have T2 := Lib.hid ht1
      clear ht1
      clear b2
      go_wp2_with fail
      refine (HS2.out _).mono ?_
      rintro e w3 ⟨⟨g2, c2, rfl, _, ht2⟩, b3⟩
      have B3 := Lib.hid (B2.out.trans (b3.mono B2.out.size))
      have T3 := Lib.hid (T2.out.below b3)
      have U3 := Lib.hid ht2
      clear ht2
      clear b3
      go_wp2_with fail
      refine (HAW.out _ B3.out).mono ?_
      rintro e w4 ⟨rfl, b4⟩
      have B4 := Lib.hid (B3.out.trans (b4.mono B3.out.size))
      have T4 := Lib.hid (T3.out.below b4)
      have U4 := Lib.hid (U3.out.below b4)
      clear b4
      go_wp2_with fail
      refine (HSN.out g1 c1 g2 c2 _ T4.out U4.out).mono ?_
      rintro e w5 ⟨rfl, b5⟩
      have B5 := Lib.hid (B4.out.trans (b5.mono B4.out.size))
      clear b5
      go_wp2_with fail
      go_ret
      exact ⟨rfl, B5.out⟩

end Go.Proofs.YtjndgfppjdobiaaGreatDoor.Lx
