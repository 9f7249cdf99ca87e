/-
  The law LexCuts.
-/
import Derived.Test.YtipabjefkbgjbaaDoorLxAwake
import Derived.Test.YtipabjefkbgjbaaDoorLxAts
import Derived.Deep.QuietTactic
import Derived.BigQuiet
import Derived.IntWalk
import Derived.Lib.SmallJoins
namespace Go.Proofs.YtipabjefkbgjbaaDoor.Lx
open Go.RowKit
open Va

/-- The padded text's tokens, one by one. -/
theorem pad_get (l : List UInt8) (ts : List TA) (h : scanM l 0 = (ts, none)) : ∃ ms, scanM (32 :: 9 :: (l ++ [10])) 0 = (ms, none) ∧ ms.length = ts.length ∧
    ∀ i t, i < ts.length - 1 → ts[i]? = some t → ms[i]? = some ⟨t.kind, t.text, t.num, t.at_ + 2⟩ := by
  have hp := scan_pad l (by rw [h])
  have hne : ts ≠ [] := by
    have := scan_ne l 0 (by rw [h])
    rw [h] at this
    exact this
  have hpos := List.length_pos_iff.2 hne
  rw [h] at hp
  refine ⟨(scanM (32 :: 9 :: (l ++ [10])) 0).1, Prod.ext rfl hp.1, ?_, ?_⟩
  · rw [hp.2]; simp; omega
  · intro i t hi ht
    rw [hp.2, List.getElem?_append_left (by simp; omega), List.getElem?_map, List.getElem?_dropLast, if_pos hi, ht]
    rfl

set_option linter.unusedSimpArgs false
set_option maxRecDepth 100000 in
set_option maxHeartbeats 6400000 in
theorem lexCuts_walk (s : ByteArray) (w : World) (_ : s.size ≤ maxLen) (hz : s.size ≤ 140737488355328) (hL : Laid w) :
    Calls Tryd.prog 5 #[.string s] w fun e w' => e = .returned (.bool true) ∧ Below w.heap.size w w' := by
  have HAW := Lib.hid (fun (wr : World) (hb : Below w.heap.size w wr) => awake_any wr (hL.below hb))
  by_cases h8 : 8000 < s.size
  · have HS := Lib.hid (fun (wr : World) => scan_long s h8 wr)
    have h7 : (7000 : Int) < (s.size : Int) := by omega
    clear hL
    go_enter Tryd.func5, Tryd.ntmps5
    go_wp2_with fail
    refine (HAW.out _ (Below.refl _ _)).mono ?_
    rintro e w1 ⟨rfl, b1⟩
    have B1 := Lib.hid b1
    clear b1
    go_wp2_with fail
    refine (HS.out _).mono ?_
    rintro e w2 ⟨rfl, b2⟩
    have B2 := Lib.hid (B1.out.trans (b2.mono B1.out.size))
    clear b2
    go_wp2_with fail
    refine (HAW.out _ B2.out).mono ?_
    rintro e w3 ⟨rfl, b3⟩
    have B3 := Lib.hid (B2.out.trans (b3.mono B2.out.size))
    clear b3
    go_wp2_with fail
    refine (HAW.out _ B3.out).mono ?_
    rintro e w4 ⟨rfl, b4⟩
    have B4 := Lib.hid (B3.out.trans (b4.mono B3.out.size))
    clear b4
    go_wp2_with fail
    go_ret
    exact ⟨rfl, B4.out⟩
  · have h8' : s.size ≤ 8000 := by omega
    obtain ⟨ts, o, hsc⟩ : ∃ ts o, scanM s.data.toList 0 = (ts, o) := ⟨_, _, rfl⟩
    by_cases h7 : 7000 < s.size
    · have h7i : (7000 : Int) < (s.size : Int) := by omega
      cases o with
      | none =>
        have HS := Lib.hid (fun (wr : World) (hb : Below w.heap.size w wr) => scan_ok s h8' wr (hL.below hb) ts hsc)
        clear hL hsc
        go_enter Tryd.func5, Tryd.ntmps5
        go_wp2_with fail
        refine (HAW.out _ (Below.refl _ _)).mono ?_
        rintro e w1 ⟨rfl, b1⟩
        have B1 := Lib.hid b1
        clear b1
        go_wp2_with fail
        refine (HS.out _ B1.out).mono ?_
        rintro e w2 ⟨⟨g, cap, rfl, _, _⟩, b2⟩
        have B2 := Lib.hid (B1.out.trans (b2.mono B1.out.size))
        clear b2
        go_wp2_with fail
        refine (HAW.out _ B2.out).mono ?_
        rintro e w3 ⟨rfl, b3⟩
        have B3 := Lib.hid (B2.out.trans (b3.mono B2.out.size))
        clear b3
        go_wp2_with fail
        refine (HAW.out _ B3.out).mono ?_
        rintro e w4 ⟨rfl, b4⟩
        have B4 := Lib.hid (B3.out.trans (b4.mono B3.out.size))
        clear b4
        go_wp2_with fail
        go_ret
        exact ⟨rfl, B4.out⟩
      | some p =>
        have HS := Lib.hid (fun (wr : World) (hb : Below w.heap.size w wr) => scan_err s h8' wr (hL.below hb) ts p hsc)
        clear hL hsc
        go_enter Tryd.func5, Tryd.ntmps5
        go_wp2_with fail
        refine (HAW.out _ (Below.refl _ _)).mono ?_
        rintro e w1 ⟨rfl, b1⟩
        have B1 := Lib.hid b1
        clear b1
        go_wp2_with fail
        refine (HS.out _ B1.out).mono ?_
        rintro e w2 ⟨rfl, b2⟩
        have B2 := Lib.hid (B1.out.trans (b2.mono B1.out.size))
        clear b2
        go_wp2_with fail
        refine (HAW.out _ B2.out).mono ?_
        rintro e w3 ⟨rfl, b3⟩
        have B3 := Lib.hid (B2.out.trans (b3.mono B2.out.size))
        clear b3
        go_wp2_with fail
        refine (HAW.out _ B3.out).mono ?_
        rintro e w4 ⟨rfl, b4⟩
        have B4 := Lib.hid (B3.out.trans (b4.mono B3.out.size))
        clear b4
        go_wp2_with fail
        go_ret
        exact ⟨rfl, B4.out⟩
    · have h7i : ¬ (7000 : Int) < (s.size : Int) := by omega
      have h7j : (s.size : Int) ≤ 7000 := by omega
      have hls := list_size s
      cases o with
      | some p =>
        have HS := Lib.hid (fun (wr : World) (hb : Below w.heap.size w wr) => scan_err s h8' wr (hL.below hb) ts p hsc)
        have hge := scan_ge _ s.data.toList 0 p (Nat.le_refl _) (by rw [hsc])
        have hcut := scan_cut _ s.data.toList 0 p (Nat.le_refl _) (by rw [hsc])
        have hps : p ≤ s.size := by omega
        have hpi : (p : Int) ≤ (s.size : Int) := by omega
        have hex : s.extract 0 p = S (s.data.toList.take p) := by rw [S_extract, List.drop_zero, Nat.sub_zero]
        rw [Nat.sub_zero] at hcut
        have HC := Lib.hid (fun (wr : World) (hb : Below w.heap.size w wr) => scan_ok (S (s.data.toList.take p)) (by rw [S_size, List.length_take]; omega) wr (hL.below hb) _ (show scanM (S (s.data.toList.take p)).data.toList 0 = (_, none) by rw [S_toList]; exact Prod.ext rfl hcut))
        have hll : (s ++ ⟨#[32, 97]⟩).data.toList = s.data.toList ++ [32, 97] := list_app _ _
        have hzz : (s ++ ⟨#[32, 97]⟩).size = s.size + 2 := size_app _ _
        obtain ⟨ts2, o2, hsc2⟩ : ∃ ts o, scanM (s.data.toList ++ [32, 97]) 0 = (ts, o) := ⟨_, _, rfl⟩
        have hb0 := (Below.refl w.heap.size w)
        rw [← hex] at HC
        cases o2 with
        | none =>
          have HD := Lib.hid (fun (wr : World) (hb : Below w.heap.size w wr) => scan_ok (s ++ ⟨#[32, 97]⟩) (by omega) wr (hL.below hb) ts2 (by rw [hll]; exact hsc2))
          clear hL hsc hge hcut hex hll hzz hsc2 hb0 hls
          go_enter Tryd.func5, Tryd.ntmps5
          go_wp2_with fail
          refine (HAW.out _ (Below.refl _ _)).mono ?_
          rintro e w1 ⟨rfl, b1⟩
          have B1 := Lib.hid b1
          clear b1
          go_wp2_with fail
          refine (HS.out _ B1.out).mono ?_
          rintro e w2 ⟨rfl, b2⟩
          have B2 := Lib.hid (B1.out.trans (b2.mono B1.out.size))
          clear b2
          go_wp2_with fail
          refine (HAW.out _ B2.out).mono ?_
          rintro e w3 ⟨rfl, b3⟩
          have B3 := Lib.hid (B2.out.trans (b3.mono B2.out.size))
          clear b3
          go_wp2_with fail
          refine (HC.out _ B3.out).mono ?_
          rintro e w4 ⟨⟨g, cap, rfl, _, _⟩, b4⟩
          have B4 := Lib.hid (B3.out.trans (b4.mono B3.out.size))
          clear b4
          go_wp2_with fail
          refine (HD.out _ B4.out).mono ?_
          rintro e w5 ⟨⟨g5, cap5, rfl, _, _⟩, b5⟩
          have B5 := Lib.hid (B4.out.trans (b5.mono B4.out.size))
          clear b5
          go_wp2_with fail
          go_ret
          exact ⟨rfl, B5.out⟩
        | some p2 =>
          have hmore := scan_more _ s.data.toList [32, 97] 0 p p2 (Nat.le_refl _) (by intro c hc; simp at hc; subst hc; rfl) (by rw [hsc]) (by rw [hsc2])
          have hmi : (p : Int) ≤ (p2 : Int) := by omega
          have HD := Lib.hid (fun (wr : World) (hb : Below w.heap.size w wr) => scan_err (s ++ ⟨#[32, 97]⟩) (by omega) wr (hL.below hb) ts2 p2 (by rw [hll]; exact hsc2))
          clear hL hsc hge hcut hex hll hzz hsc2 hb0 hls hmore
          go_enter Tryd.func5, Tryd.ntmps5
          go_wp2_with fail
          refine (HAW.out _ (Below.refl _ _)).mono ?_
          rintro e w1 ⟨rfl, b1⟩
          have B1 := Lib.hid b1
          clear b1
          go_wp2_with fail
          refine (HS.out _ B1.out).mono ?_
          rintro e w2 ⟨rfl, b2⟩
          have B2 := Lib.hid (B1.out.trans (b2.mono B1.out.size))
          clear b2
          go_wp2_with fail
          refine (HAW.out _ B2.out).mono ?_
          rintro e w3 ⟨rfl, b3⟩
          have B3 := Lib.hid (B2.out.trans (b3.mono B2.out.size))
          clear b3
          go_wp2_with fail
          refine (HC.out _ B3.out).mono ?_
          rintro e w4 ⟨⟨g, cap, rfl, _, _⟩, b4⟩
          have B4 := Lib.hid (B3.out.trans (b4.mono B3.out.size))
          clear b4
          go_wp2_with fail
          refine (HD.out _ B4.out).mono ?_
          rintro e w5 ⟨rfl, b5⟩
          have B5 := Lib.hid (B4.out.trans (b5.mono B4.out.size))
          clear b5
          go_wp2_with fail
          go_ret
          exact ⟨rfl, B5.out⟩
      | none =>
        have HS := Lib.hid (fun (wr : World) (hb : Below w.heap.size w wr) => scan_ok s h8' wr (hL.below hb) ts hsc)
        obtain ⟨ms, hms, hml, hmg⟩ := pad_get _ ts hsc
        have hat := (scan_at _ s.data.toList 0 (Nat.le_refl _))
        rw [hsc] at hat
        simp only at hat
        have hll : ((⟨#[32, 9]⟩ : ByteArray) ++ s ++ ⟨#[10]⟩).data.toList = 32 :: 9 :: (s.data.toList ++ [10]) := by rw [list_app, list_app]; simp
        have hzz : ((⟨#[32, 9]⟩ : ByteArray) ++ s ++ ⟨#[10]⟩).size = 2 + s.size + 1 := by rw [size_app, size_app]; rfl
        have HD := Lib.hid (fun (wr : World) (hb : Below w.heap.size w wr) => scan_ok (⟨#[32, 9]⟩ ++ s ++ ⟨#[10]⟩) (by omega) wr (hL.below hb) ms (by rw [hll]; exact hms))
        have HMG := Lib.hid hmg
        have HAT := Lib.hid hat.1
        have HLS := Lib.hid hls
        have hne : 1 ≤ ts.length := by
          have := scan_ne s.data.toList 0 (by rw [hsc])
          rw [hsc] at this
          exact List.length_pos_iff.2 this
        have hti : (ts.length : Int) ≤ 8001 := by have := hat.2; omega
        have hnei : (1 : Int) ≤ (ts.length : Int) := by omega
        rw [hml] at HD
        clear hL hsc hms hml hmg hll hzz hat hls
        go_enter Tryd.func5, Tryd.ntmps5
        go_wp2_with fail
        refine (HAW.out _ (Below.refl _ _)).mono ?_
        rintro e w1 ⟨rfl, b1⟩
        have B1 := Lib.hid b1
        clear b1
        go_wp2_with fail
        refine (HS.out _ B1.out).mono ?_
        rintro e w2 ⟨⟨g, cap, rfl, _, hta⟩, b2⟩
        have B2 := Lib.hid (B1.out.trans (b2.mono B1.out.size))
        have T2 := Lib.hid hta
        clear b2 hta
        go_wp2_with fail
        refine (HAW.out _ B2.out).mono ?_
        rintro e w3 ⟨rfl, b3⟩
        have B3 := Lib.hid (B2.out.trans (b3.mono B2.out.size))
        have T3 := Lib.hid (T2.out.below b3)
        clear b3
        go_wp2_with fail
        refine (HD.out _ B3.out).mono ?_
        rintro e w4 ⟨⟨g4, cap4, rfl, _, hta4⟩, b4⟩
        have B4 := Lib.hid (B3.out.trans (b4.mono B3.out.size))
        have T4 := Lib.hid (T3.out.below b4)
        have U4 := Lib.hid hta4
        clear b4 hta4
        go_wp2_with fail
        go_loopw [80] (fun v wr => ∃ k : Nat, v = .int .i64 k ∧ k ≤ ts.length - 1 ∧ TokAt wr g ts ∧ TokAt wr g4 ms ∧ Below w.heap.size w wr) (fun v _ => ts.length - (intOf v).toNat)
        case atStart => exact ⟨0, rfl, by omega, T4.out, U4.out, B4.out⟩
        case round =>
          obtain ⟨k, rfl, hk, ht1, ht2, hb⟩ := hrel
          have HB := Lib.hid hb
          have HT1 := Lib.hid ht1
          have HT2 := Lib.hid ht2
          by_cases hlt : k < ts.length - 1
          · have hki : (k : Int) < (ts.length : Int) - 1 := by omega
            have hki2 : (k : Int) < (ts.length : Int) := by omega
            obtain ⟨t, ht⟩ : ∃ t, ts[k]? = some t := ⟨ts[k], List.getElem?_eq_getElem (by omega)⟩
            have hm := HMG.out k t hlt ht
            obtain ⟨_, p1, _, p3⟩ := ht1.cells k t ht
            obtain ⟨_, q1, _, q3⟩ := ht2.cells k _ hm
            have hta := HAT.out t (List.mem_of_getElem? ht)
            have hat2 : (t.at_ : Int) ≤ 100000 := by have := HLS.out; omega
            have hq3 : wr.cell? ⟨g4, k * 4 + 3, none⟩ = some (.int .i64 ((t.at_ : Int) + 2)) := by rw [q3]; simp
            simp only at q1
            obtain ⟨tk, tt, tn, ta⟩ := t
            simp only at p1 p3 q1 hq3 hat2
            have hwr : IntKind.i64.wrap ((ta : Int) + 2) = (ta : Int) + 2 := IntWalk.i64_in _ (by omega)
            have hcm : (((ta : Int) + 2) != ((ta : Int) + 2)) = false := by simp
            have hcs : ((S tt).toList == (S tt).toList) = true := by simp
            clear hb ht1 ht2 ht hm q3 hta
            go_wp2_with fail
            go_quiet (fail)
            go_wp2_with fail
            go_roundw
            case rel => exact ⟨k + 1, by go_num, by omega, HT1.out.below (Go.Joins.below_draws _ _ _), HT2.out.below (Go.Joins.below_draws _ _ _), by first | exact HB.out.trans (Go.Joins.below_draws _ _ _) | exact HB.out⟩
            case measure => simp [intOf]; omega
          · obtain rfl : k = ts.length - 1 := by omega
            clear hb ht1 ht2
            go_wp2_with fail
            go_ret
            exact ⟨rfl, HB.out⟩

end Go.Proofs.YtipabjefkbgjbaaDoor.Lx
