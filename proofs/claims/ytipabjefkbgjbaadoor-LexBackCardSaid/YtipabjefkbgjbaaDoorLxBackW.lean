/-
  The law LexBack.
-/
import Derived.Test.YtipabjefkbgjbaaDoorLxAwake
import Derived.Test.YtipabjefkbgjbaaDoorLxSpell
import Derived.RegionTactic
import Derived.ChangeAlike
import Derived.Lib.SmallJoins
namespace Go.Proofs.YtipabjefkbgjbaaDoor.Lx
open Go.RowKit
open Va

theorem back_get (l : List UInt8) (ts : List TA) (h : scanM l 0 = (ts, none)) : ∃ ms, scanM (joinM ts) 0 = (ms, none) ∧ ms.length = ts.length ∧ ∀ (i : Nat) (t : TA), ts[i]? = some t → ∃ a : Nat, ms[i]? = some (⟨t.kind, t.text, t.num, a⟩ : TA) := by
  have hb := scan_back _ l 0 0 (Nat.le_refl _) (by rw [h])
  rw [h] at hb
  simp only at hb
  refine ⟨(scanM (joinM ts) 0).1, Prod.ext rfl hb.1, ?_, ?_⟩
  · have := congrArg List.length hb.2
    simpa using this
  · intro i t ht
    have h1 := congrArg (fun x => x[i]?) hb.2
    simp only [List.getElem?_map, ht, Option.map_some, Option.map_eq_some_iff] at h1
    obtain ⟨m, hm, e⟩ := h1
    obtain ⟨mk, mt, mn, ma⟩ := m
    unfold bare at e
    simp only [Prod.mk.injEq] at e
    obtain ⟨rfl, rfl, rfl⟩ := e
    exact ⟨ma, hm⟩

set_option linter.unusedSimpArgs false
set_option maxRecDepth 100000 in
set_option maxHeartbeats 6400000 in
theorem lexBack_walk (s : ByteArray) (w : World) (_ : s.size ≤ maxLen) (_ : s.size ≤ 140737488355328) (hL : Laid w) :
    Calls Tryd.prog 4 #[.string s] w fun e w' => e = .returned (.bool true) ∧ Below w.heap.size w w' := by
  have HAW := Lib.hid (fun (wr : World) (hb : Below w.heap.size w wr) => awake_any wr (hL.below hb))
  by_cases h8 : 8000 < s.size
  · have HS := Lib.hid (fun (wr : World) (_ : Below w.heap.size w wr) => scan_long s h8 wr)
    clear hL
    go_enter Tryd.func4, Tryd.ntmps4
    go_wp2_with fail
    refine (HAW.out _ (Below.refl _ _)).mono ?_
    rintro e w1 ⟨rfl, b1⟩
    have B1 := Lib.hid b1
    clear b1
    go_wp2_with fail
    refine (HS.out _ B1.out).mono ?_
    rintro e w2 ⟨rfl, b2⟩
    have B2 := Lib.hid (B1.out.trans (b2.mono B1.out.size))
    clear b2
    go_wp2_with fail
    refine (HAW.out _ B2.out).mono ?_
    rintro e w3 ⟨rfl, b3⟩
    have B3 := Lib.hid (B2.out.trans (b3.mono B2.out.size))
    clear b3
    go_wp2_with fail
    refine (HAW.out _ B3.out).mono ?_
    rintro e w4 ⟨rfl, b4⟩
    have B4 := Lib.hid (B3.out.trans (b4.mono B3.out.size))
    clear b4
    go_wp2_with fail
    go_ret
    exact ⟨rfl, B4.out⟩
  · have h8s : s.size ≤ 8000 := by omega
    obtain ⟨ts, o1, hs1⟩ : ∃ ts o, scanM s.data.toList 0 = (ts, o) := ⟨_, _, rfl⟩
    cases o1 with
    | some p1 =>
      have HS := Lib.hid (fun (wr : World) (hb : Below w.heap.size w wr) => scan_err s h8s wr (hL.below hb) ts p1 hs1)
      clear hL hs1
      go_enter Tryd.func4, Tryd.ntmps4
      go_wp2_with fail
      refine (HAW.out _ (Below.refl _ _)).mono ?_
      rintro e w1 ⟨rfl, b1⟩
      have B1 := Lib.hid b1
      clear b1
      go_wp2_with fail
      refine (HS.out _ B1.out).mono ?_
      rintro e w2 ⟨rfl, b2⟩
      have B2 := Lib.hid (B1.out.trans (b2.mono B1.out.size))
      clear b2
      go_wp2_with fail
      refine (HAW.out _ B2.out).mono ?_
      rintro e w3 ⟨rfl, b3⟩
      have B3 := Lib.hid (B2.out.trans (b3.mono B2.out.size))
      clear b3
      go_wp2_with fail
      refine (HAW.out _ B3.out).mono ?_
      rintro e w4 ⟨rfl, b4⟩
      have B4 := Lib.hid (B3.out.trans (b4.mono B3.out.size))
      clear b4
      go_wp2_with fail
      go_ret
      exact ⟨rfl, B4.out⟩
    | none =>
      have hls := list_size s
      have HS := Lib.hid (fun (wr : World) (hb : Below w.heap.size w wr) => scan_ok s h8s wr (hL.below hb) ts hs1)
      have hok := scan_toks _ s.data.toList 0 (Nat.le_refl _) (by omega)
      have hcn := (scan_at _ s.data.toList 0 (Nat.le_refl _)).2
      rw [hs1] at hok hcn
      simp only at hok hcn
      have hne : ts ≠ [] := by
        have := scan_ne s.data.toList 0 (by rw [hs1])
        rw [hs1] at this
        exact this
      have HJ := Lib.hid (fun (g cap : Nat) (wr : World) (hb : Below w.heap.size w wr) (ht : TokAt wr g ts) => join_any ts hne (by omega) hok g cap wr ht (hL.below hb).tab)
      obtain ⟨ms, hms, hml, hmg⟩ := back_get _ ts hs1
      have hpos := List.length_pos_iff.2 hne
      have hti : (ts.length : Int) ≤ 8001 := by omega
      by_cases hj : 8000 < (joinM ts).length
      · skip
        have HM := Lib.hid (fun (wr : World) (_ : Below w.heap.size w wr) => scan_long (S (joinM ts)) (by rw [S_size]; exact hj) wr)
        clear hL hs1 hls hok hcn hne hms hml hmg hj
        obtain ⟨js, hjs⟩ : ∃ js, js = S (joinM ts) := ⟨_, rfl⟩
        rw [← hjs] at HJ HM
        clear hjs
        go_enter Tryd.func4, Tryd.ntmps4
        go_wp2_with fail
        refine (HAW.out _ (Below.refl _ _)).mono ?_
        rintro e w1 ⟨rfl, b1⟩
        have B1 := Lib.hid b1
        clear b1
        go_wp2_with fail
        refine (HS.out _ B1.out).mono ?_
        rintro e w2 ⟨⟨g2, cap2, rfl, _, hta2⟩, b2⟩
        have B2 := Lib.hid (B1.out.trans (b2.mono B1.out.size))
        have T2 := Lib.hid hta2
        clear hta2
        clear b2
        go_wp2_with fail
        refine (HAW.out _ B2.out).mono ?_
        rintro e w3 ⟨rfl, b3⟩
        have B3 := Lib.hid (B2.out.trans (b3.mono B2.out.size))
        have T3 := Lib.hid (T2.out.below b3)
        clear b3
        go_wp2_with fail
        refine (HJ.out g2 cap2 _ B3.out T3.out).mono ?_
        rintro e w4 ⟨rfl, b4⟩
        have B4 := Lib.hid (B3.out.trans (b4.mono B3.out.size))
        have T4 := Lib.hid (T3.out.below b4)
        clear b4
        go_wp2_with fail
        refine (HM.out _ B4.out).mono ?_
        rintro e w5 ⟨rfl, b5⟩
        have B5 := Lib.hid (B4.out.trans (b5.mono B4.out.size))
        clear b5
        go_wp2_with fail
        go_ret
        exact ⟨rfl, B5.out⟩
      · skip
        have HM := Lib.hid (fun (wr : World) (hb : Below w.heap.size w wr) => scan_ok (S (joinM ts)) (by rw [S_size]; omega) wr (hL.below hb) ms (by rw [S_toList]; exact hms))
        rw [hml] at HM
        have HMG := Lib.hid hmg
        clear hL hs1 hls hok hcn hne hms hml hmg hj
        obtain ⟨js, hjs⟩ : ∃ js, js = S (joinM ts) := ⟨_, rfl⟩
        rw [← hjs] at HJ HM
        clear hjs
        go_enter Tryd.func4, Tryd.ntmps4
        go_wp2_with fail
        refine (HAW.out _ (Below.refl _ _)).mono ?_
        rintro e w1 ⟨rfl, b1⟩
        have B1 := Lib.hid b1
        clear b1
        go_wp2_with fail
        refine (HS.out _ B1.out).mono ?_
        rintro e w2 ⟨⟨g2, cap2, rfl, _, hta2⟩, b2⟩
        have B2 := Lib.hid (B1.out.trans (b2.mono B1.out.size))
        have T2 := Lib.hid hta2
        clear hta2
        clear b2
        go_wp2_with fail
        refine (HAW.out _ B2.out).mono ?_
        rintro e w3 ⟨rfl, b3⟩
        have B3 := Lib.hid (B2.out.trans (b3.mono B2.out.size))
        have T3 := Lib.hid (T2.out.below b3)
        clear b3
        go_wp2_with fail
        refine (HJ.out g2 cap2 _ B3.out T3.out).mono ?_
        rintro e w4 ⟨rfl, b4⟩
        have B4 := Lib.hid (B3.out.trans (b4.mono B3.out.size))
        have T4 := Lib.hid (T3.out.below b4)
        clear b4
        go_wp2_with fail
        refine (HM.out _ B4.out).mono ?_
        rintro e w5 ⟨⟨g5, cap5, rfl, _, hta5⟩, b5⟩
        have B5 := Lib.hid (B4.out.trans (b5.mono B4.out.size))
        have T5 := Lib.hid (T4.out.below b5)
        have U5 := Lib.hid hta5
        clear hta5
        clear b5
        go_wp2_with fail
        go_loopw [47] (fun v wr => ∃ k : Nat, v = .int .i64 k ∧ k ≤ ts.length ∧ TokAt wr g2 ts ∧ TokAt wr g5 ms ∧ Below w.heap.size w wr) (fun v _ => ts.length - (intOf v).toNat)
        case atStart => exact ⟨0, rfl, by omega, T5.out, U5.out, B5.out⟩
        case round =>
          obtain ⟨k, rfl, hk, ht1, ht2, hb⟩ := hrel
          have HB := Lib.hid hb
          have HT1 := Lib.hid ht1
          have HT2 := Lib.hid ht2
          have hlt1 := ht1.lt
          have hlt2 := ht2.lt
          have hsz := hb.size
          by_cases hlt : k < ts.length
          · have hki : (k : Int) < (ts.length : Int) := by omega
            obtain ⟨x, hx⟩ : ∃ x, ts[k]? = some x := ⟨ts[k], List.getElem?_eq_getElem (by omega)⟩
            obtain ⟨a, hv⟩ := HMG.out k x hx
            obtain ⟨p0, p1, p2, p3⟩ := ht1.cells k x hx
            obtain ⟨q0, q1, q2, q3⟩ := ht2.cells k _ hv
            obtain ⟨xk, xt, xn, xa⟩ := x
            simp only at p0 p1 p2 p3 q0 q1 q2 q3
            clear hb ht1 ht2 hx hv
            go_wp2_with fail
            have z1 : ∀ o j, (wr.alloc o).cell? ⟨g2, j, none⟩ = wr.cell? ⟨g2, j, none⟩ := fun o j => alloc_cell wr o g2 j hlt1
            have hfin : ∀ o p n, Below wr.heap.size wr (((wr.alloc o).alloc p).drewN n) := fun o p n => (((Below.refl _ _).alloc (Nat.le_refl _) o).alloc (by simp) p).trans (Go.Joins.below_draws _ _ _)
            have HFIN := Lib.hid hfin
            clear z1 hfin
            go_region
            all_goals
              go_wp2_with fail
              go_roundw
              case rel => exact ⟨k + 1, by go_num, by omega, HT1.out.below (HFIN.out _ _ 1), HT2.out.below (HFIN.out _ _ 1), HB.out.trans ((HFIN.out _ _ 1).mono hsz)⟩
              case measure => simp [intOf]; omega
          · obtain rfl : k = ts.length := by omega
            clear hb ht1 ht2
            go_wp2_with fail
            go_ret
            exact ⟨rfl, HB.out⟩

end Go.Proofs.YtipabjefkbgjbaaDoor.Lx
