/-
  The law LexGlues.
-/
import Derived.Test.YtipabjefkbgjbaaDoorLxAwake
import Derived.Test.YtipabjefkbgjbaaDoorLxAts
import Derived.Deep.QuietTactic
import Derived.BigQuiet
import Derived.IntWalk
import Derived.Lib.SmallJoins
namespace Go.Proofs.YtipabjefkbgjbaaDoor.Lx
open Go.RowKit
open Va

theorem glue_bad (l q : List UInt8) (ts us : List TA) (p : Nat) (h : scanM l 0 = (ts, none)) (h2 : scanM q 0 = (us, some p)) : ∃ vs p3, scanM (l ++ 10 :: q) 0 = (vs, some p3) := by
  have hg := scan_glue _ l q 0 ts (Nat.le_refl _) h
  have hm := scan_move _ q 0 (l.length + 1) (Nat.le_refl _)
  rw [h2] at hm
  rw [show 0 + l.length + 1 = 0 + (l.length + 1) by omega, hm] at hg
  exact ⟨_, _, hg⟩
/-- The whole's tokens, one by one. -/
theorem glue_get (l q : List UInt8) (ts us : List TA) (h : scanM l 0 = (ts, none)) (h2 : scanM q 0 = (us, none)) : ∃ vs, scanM (l ++ 10 :: q) 0 = (vs, none) ∧ vs.length + 1 = ts.length + us.length ∧ 1 ≤ ts.length ∧ 1 ≤ us.length ∧
    (∀ i t, i < ts.length - 1 → ts[i]? = some t → vs[i]? = some t) ∧ (∀ m u, us[m]? = some u → vs[ts.length - 1 + m]? = some ⟨u.kind, u.text, u.num, u.at_ + (l.length + 1)⟩) := by
  have hg := scan_glue _ l q 0 ts (Nat.le_refl _) h
  have hm := scan_move _ q 0 (l.length + 1) (Nat.le_refl _)
  rw [h2] at hm
  rw [show 0 + l.length + 1 = 0 + (l.length + 1) by omega, hm] at hg
  have n1 : 1 ≤ ts.length := by
    have := scan_ne l 0 (by rw [h])
    rw [h] at this
    exact List.length_pos_iff.2 this
  have n2 : 1 ≤ us.length := by
    have := scan_ne q 0 (by rw [h2])
    rw [h2] at this
    exact List.length_pos_iff.2 this
  refine ⟨_, hg, by simp; omega, n1, n2, ?_, ?_⟩
  · intro i t hi ht
    simp only
    rw [List.getElem?_append_left (by simp; omega), List.getElem?_dropLast, if_pos hi, ht]
  · intro m u hu
    simp only
    rw [List.getElem?_append_right (by simp), List.length_dropLast, Nat.add_sub_cancel_left, List.getElem?_map, hu]
    rfl
/-- A box more, and a draw: what was there is there. -/
theorem box_drawn (w : World) (o : Obj) (n : Nat) : Below w.heap.size w ((w.alloc o).drewN n) := ((Below.refl _ _).alloc (Nat.le_refl _) _).trans (Go.Joins.below_draws _ _ _)

set_option linter.unusedSimpArgs false
set_option maxRecDepth 100000 in
set_option maxHeartbeats 6400000 in
theorem lexGlues_walk (s t : ByteArray) (w : World) (_ : s.size ≤ maxLen) (hz : s.size ≤ 140737488355328) (_ : t.size ≤ maxLen) (hz2 : t.size ≤ 140737488355328) (hL : Laid w) :
    Calls Tryd.prog 6 #[.string s, .string t] w fun e w' => e = .returned (.bool true) ∧ Below w.heap.size w w' := by
  have HAW := Lib.hid (fun (wr : World) (hb : Below w.heap.size w wr) => awake_any wr (hL.below hb))
  have hzi : (s.size : Int) ≤ 140737488355328 := by omega
  have hzj : (t.size : Int) ≤ 140737488355328 := by omega
  by_cases h7 : 7000 < s.size + t.size
  · have h7i : (7000 : Int) < (s.size : Int) + (t.size : Int) := by omega
    clear hL
    go_enter Tryd.func6, Tryd.ntmps6
    go_wp2_with fail
    refine (HAW.out _ (Below.refl _ _)).mono ?_
    rintro e w1 ⟨rfl, b1⟩
    have B1 := Lib.hid b1
    clear b1
    go_wp2_with fail
    refine (HAW.out _ B1.out).mono ?_
    rintro e w2 ⟨rfl, b2⟩
    have B2 := Lib.hid (B1.out.trans (b2.mono B1.out.size))
    clear b2
    go_wp2_with fail
    go_ret
    exact ⟨rfl, B2.out⟩
  · have h7i : ¬ (7000 : Int) < (s.size : Int) + (t.size : Int) := by omega
    have h7a : ¬ (7000 : Int) < (s.size : Int) := by omega
    have h7b : ¬ (7000 : Int) < (t.size : Int) := by omega
    have h7s : (s.size : Int) + (t.size : Int) ≤ 7000 := by omega
    have hs8 : s.size ≤ 8000 := by omega
    have ht8 : t.size ≤ 8000 := by omega
    have hls := list_size s
    have hlt := list_size t
    have hll : (s ++ ⟨#[10]⟩ ++ t).data.toList = s.data.toList ++ 10 :: t.data.toList := by rw [list_app, list_app]; simp
    have hzz : (s ++ ⟨#[10]⟩ ++ t).size = s.size + 1 + t.size := by rw [size_app, size_app]; rfl
    obtain ⟨ts, o1, hs1⟩ : ∃ ts o, scanM s.data.toList 0 = (ts, o) := ⟨_, _, rfl⟩
    obtain ⟨us, o2, hs2⟩ : ∃ ts o, scanM t.data.toList 0 = (ts, o) := ⟨_, _, rfl⟩
    obtain ⟨vs, o3, hs3⟩ : ∃ ts o, scanM (s.data.toList ++ 10 :: t.data.toList) 0 = (ts, o) := ⟨_, _, rfl⟩
    cases o1 with
    | some p1 =>
      cases o2 with
      | none =>
        cases o3 with
        | none =>
          have HS1 := Lib.hid (fun (wr : World) (hb : Below w.heap.size w wr) => scan_err s hs8 wr (hL.below hb) ts p1 hs1)
          have HS2 := Lib.hid (fun (wr : World) (hb : Below w.heap.size w wr) => scan_ok t ht8 wr (hL.below hb) us hs2)
          have HS3 := Lib.hid (fun (wr : World) (hb : Below w.heap.size w wr) => scan_ok (s ++ ⟨#[10]⟩ ++ t) (by omega) wr (hL.below hb) vs (by rw [hll]; exact hs3))
          clear hL hs1 hs2 hs3 hll hzz hls hlt hz hz2
          go_enter Tryd.func6, Tryd.ntmps6
          go_wp2_with fail
          refine (HAW.out _ (Below.refl _ _)).mono ?_
          rintro e w1 ⟨rfl, b1⟩
          have B1 := Lib.hid b1
          clear b1
          go_wp2_with fail
          refine (HS1.out _ B1.out).mono ?_
          rintro e w2 ⟨rfl, b2⟩
          have B2 := Lib.hid (B1.out.trans (b2.mono B1.out.size))
          clear b2
          go_wp2_with fail
          refine (HS2.out _ B2.out).mono ?_
          rintro e w3 ⟨⟨g3, cap3, rfl, _, hta3⟩, b3⟩
          have B3 := Lib.hid (B2.out.trans (b3.mono B2.out.size))
          clear b3
          go_wp2_with fail
          refine (HS3.out _ B3.out).mono ?_
          rintro e w4 ⟨⟨g4, cap4, rfl, _, hta4⟩, b4⟩
          have B4 := Lib.hid (B3.out.trans (b4.mono B3.out.size))
          clear b4
          go_wp2_with fail
          refine (HAW.out _ B4.out).mono ?_
          rintro e w5 ⟨rfl, b5⟩
          have B5 := Lib.hid (B4.out.trans (b5.mono B4.out.size))
          clear b5
          go_wp2_with fail
          go_ret
          exact ⟨rfl, B5.out⟩
        | some p3 =>
          have HS1 := Lib.hid (fun (wr : World) (hb : Below w.heap.size w wr) => scan_err s hs8 wr (hL.below hb) ts p1 hs1)
          have HS2 := Lib.hid (fun (wr : World) (hb : Below w.heap.size w wr) => scan_ok t ht8 wr (hL.below hb) us hs2)
          have HS3 := Lib.hid (fun (wr : World) (hb : Below w.heap.size w wr) => scan_err (s ++ ⟨#[10]⟩ ++ t) (by omega) wr (hL.below hb) vs p3 (by rw [hll]; exact hs3))
          have hmi : (p1 : Int) ≤ (p3 : Int) := by have := scan_more _ s.data.toList (10 :: t.data.toList) 0 p1 p3 (Nat.le_refl _) (by intro c hc; simp at hc; subst hc; rfl) (by rw [hs1]) (by rw [hs3]); omega
          clear hL hs1 hs2 hs3 hll hzz hls hlt hz hz2
          go_enter Tryd.func6, Tryd.ntmps6
          go_wp2_with fail
          refine (HAW.out _ (Below.refl _ _)).mono ?_
          rintro e w1 ⟨rfl, b1⟩
          have B1 := Lib.hid b1
          clear b1
          go_wp2_with fail
          refine (HS1.out _ B1.out).mono ?_
          rintro e w2 ⟨rfl, b2⟩
          have B2 := Lib.hid (B1.out.trans (b2.mono B1.out.size))
          clear b2
          go_wp2_with fail
          refine (HS2.out _ B2.out).mono ?_
          rintro e w3 ⟨⟨g3, cap3, rfl, _, hta3⟩, b3⟩
          have B3 := Lib.hid (B2.out.trans (b3.mono B2.out.size))
          clear b3
          go_wp2_with fail
          refine (HS3.out _ B3.out).mono ?_
          rintro e w4 ⟨rfl, b4⟩
          have B4 := Lib.hid (B3.out.trans (b4.mono B3.out.size))
          clear b4
          go_wp2_with fail
          refine (HAW.out _ B4.out).mono ?_
          rintro e w5 ⟨rfl, b5⟩
          have B5 := Lib.hid (B4.out.trans (b5.mono B4.out.size))
          clear b5
          go_wp2_with fail
          go_ret
          exact ⟨rfl, B5.out⟩
      | some p2 =>
        cases o3 with
        | none =>
          have HS1 := Lib.hid (fun (wr : World) (hb : Below w.heap.size w wr) => scan_err s hs8 wr (hL.below hb) ts p1 hs1)
          have HS2 := Lib.hid (fun (wr : World) (hb : Below w.heap.size w wr) => scan_err t ht8 wr (hL.below hb) us p2 hs2)
          have HS3 := Lib.hid (fun (wr : World) (hb : Below w.heap.size w wr) => scan_ok (s ++ ⟨#[10]⟩ ++ t) (by omega) wr (hL.below hb) vs (by rw [hll]; exact hs3))
          clear hL hs1 hs2 hs3 hll hzz hls hlt hz hz2
          go_enter Tryd.func6, Tryd.ntmps6
          go_wp2_with fail
          refine (HAW.out _ (Below.refl _ _)).mono ?_
          rintro e w1 ⟨rfl, b1⟩
          have B1 := Lib.hid b1
          clear b1
          go_wp2_with fail
          refine (HS1.out _ B1.out).mono ?_
          rintro e w2 ⟨rfl, b2⟩
          have B2 := Lib.hid (B1.out.trans (b2.mono B1.out.size))
          clear b2
          go_wp2_with fail
          refine (HS2.out _ B2.out).mono ?_
          rintro e w3 ⟨rfl, b3⟩
          have B3 := Lib.hid (B2.out.trans (b3.mono B2.out.size))
          clear b3
          go_wp2_with fail
          refine (HS3.out _ B3.out).mono ?_
          rintro e w4 ⟨⟨g4, cap4, rfl, _, hta4⟩, b4⟩
          have B4 := Lib.hid (B3.out.trans (b4.mono B3.out.size))
          clear b4
          go_wp2_with fail
          refine (HAW.out _ B4.out).mono ?_
          rintro e w5 ⟨rfl, b5⟩
          have B5 := Lib.hid (B4.out.trans (b5.mono B4.out.size))
          clear b5
          go_wp2_with fail
          go_ret
          exact ⟨rfl, B5.out⟩
        | some p3 =>
          have HS1 := Lib.hid (fun (wr : World) (hb : Below w.heap.size w wr) => scan_err s hs8 wr (hL.below hb) ts p1 hs1)
          have HS2 := Lib.hid (fun (wr : World) (hb : Below w.heap.size w wr) => scan_err t ht8 wr (hL.below hb) us p2 hs2)
          have HS3 := Lib.hid (fun (wr : World) (hb : Below w.heap.size w wr) => scan_err (s ++ ⟨#[10]⟩ ++ t) (by omega) wr (hL.below hb) vs p3 (by rw [hll]; exact hs3))
          have hmi : (p1 : Int) ≤ (p3 : Int) := by have := scan_more _ s.data.toList (10 :: t.data.toList) 0 p1 p3 (Nat.le_refl _) (by intro c hc; simp at hc; subst hc; rfl) (by rw [hs1]) (by rw [hs3]); omega
          clear hL hs1 hs2 hs3 hll hzz hls hlt hz hz2
          go_enter Tryd.func6, Tryd.ntmps6
          go_wp2_with fail
          refine (HAW.out _ (Below.refl _ _)).mono ?_
          rintro e w1 ⟨rfl, b1⟩
          have B1 := Lib.hid b1
          clear b1
          go_wp2_with fail
          refine (HS1.out _ B1.out).mono ?_
          rintro e w2 ⟨rfl, b2⟩
          have B2 := Lib.hid (B1.out.trans (b2.mono B1.out.size))
          clear b2
          go_wp2_with fail
          refine (HS2.out _ B2.out).mono ?_
          rintro e w3 ⟨rfl, b3⟩
          have B3 := Lib.hid (B2.out.trans (b3.mono B2.out.size))
          clear b3
          go_wp2_with fail
          refine (HS3.out _ B3.out).mono ?_
          rintro e w4 ⟨rfl, b4⟩
          have B4 := Lib.hid (B3.out.trans (b4.mono B3.out.size))
          clear b4
          go_wp2_with fail
          refine (HAW.out _ B4.out).mono ?_
          rintro e w5 ⟨rfl, b5⟩
          have B5 := Lib.hid (B4.out.trans (b5.mono B4.out.size))
          clear b5
          go_wp2_with fail
          go_ret
          exact ⟨rfl, B5.out⟩
    | none =>
      cases o2 with
      | some p2 =>
        obtain ⟨vs2, p3, hb3⟩ := glue_bad _ _ ts us p2 hs1 hs2
        rw [hs3] at hb3
        obtain ⟨rfl, rfl⟩ := Prod.mk.inj hb3
        clear hb3
        have HS1 := Lib.hid (fun (wr : World) (hb : Below w.heap.size w wr) => scan_ok s hs8 wr (hL.below hb) ts hs1)
        have HS2 := Lib.hid (fun (wr : World) (hb : Below w.heap.size w wr) => scan_err t ht8 wr (hL.below hb) us p2 hs2)
        have HS3 := Lib.hid (fun (wr : World) (hb : Below w.heap.size w wr) => scan_err (s ++ ⟨#[10]⟩ ++ t) (by omega) wr (hL.below hb) vs p3 (by rw [hll]; exact hs3))
        clear hL hs1 hs2 hs3 hll hzz hls hlt hz hz2
        go_enter Tryd.func6, Tryd.ntmps6
        go_wp2_with fail
        refine (HAW.out _ (Below.refl _ _)).mono ?_
        rintro e w1 ⟨rfl, b1⟩
        have B1 := Lib.hid b1
        clear b1
        go_wp2_with fail
        refine (HS1.out _ B1.out).mono ?_
        rintro e w2 ⟨⟨g2, cap2, rfl, _, hta2⟩, b2⟩
        have B2 := Lib.hid (B1.out.trans (b2.mono B1.out.size))
        clear b2
        go_wp2_with fail
        refine (HS2.out _ B2.out).mono ?_
        rintro e w3 ⟨rfl, b3⟩
        have B3 := Lib.hid (B2.out.trans (b3.mono B2.out.size))
        clear b3
        go_wp2_with fail
        refine (HS3.out _ B3.out).mono ?_
        rintro e w4 ⟨rfl, b4⟩
        have B4 := Lib.hid (B3.out.trans (b4.mono B3.out.size))
        clear b4
        go_wp2_with fail
        refine (HAW.out _ B4.out).mono ?_
        rintro e w5 ⟨rfl, b5⟩
        have B5 := Lib.hid (B4.out.trans (b5.mono B4.out.size))
        clear b5
        go_wp2_with fail
        go_ret
        exact ⟨rfl, B5.out⟩
      | none =>
        obtain ⟨vs2, hb3, hn3, hn1, hn2, hg1, hg2⟩ := glue_get _ _ ts us hs1 hs2
        rw [hs3] at hb3
        obtain ⟨rfl, rfl⟩ := Prod.mk.inj hb3
        clear hb3
        have ha1 := scan_at _ s.data.toList 0 (Nat.le_refl _)
        have ha2 := scan_at _ t.data.toList 0 (Nat.le_refl _)
        rw [hs1] at ha1
        rw [hs2] at ha2
        simp only at ha1 ha2
        rw [hls] at ha1 hg2
        rw [hlt] at ha2
        have HS1 := Lib.hid (fun (wr : World) (hb : Below w.heap.size w wr) => scan_ok s hs8 wr (hL.below hb) ts hs1)
        have HS2 := Lib.hid (fun (wr : World) (hb : Below w.heap.size w wr) => scan_ok t ht8 wr (hL.below hb) us hs2)
        have HS3 := Lib.hid (fun (wr : World) (hb : Below w.heap.size w wr) => scan_ok (s ++ ⟨#[10]⟩ ++ t) (by omega) wr (hL.below hb) vs (by rw [hll]; exact hs3))
        have HG1 := Lib.hid hg1
        have HG2 := Lib.hid hg2
        have HA1 := Lib.hid ha1.1
        have HA2 := Lib.hid ha2.1
        have l1 : (ts.length : Int) ≤ 8001 := by have := ha1.2; omega
        have l2 : (us.length : Int) ≤ 8001 := by have := ha2.2; omega
        have l1a : (1 : Int) ≤ (ts.length : Int) := by omega
        have l2a : (1 : Int) ≤ (us.length : Int) := by omega
        have l3 : (vs.length : Int) ≤ 16002 := by omega
        have hNB : ((vs.length : Int) != ((ts.length : Int) + (us.length : Int) - 1)) = false := by simp only [bne_eq_false_iff_eq]; omega
        have HN3 := Lib.hid hn3
        have HN1 := Lib.hid hn1
        clear hL hs1 hs2 hs3 hll hzz hls hlt hz hz2 hg1 hg2 ha1 ha2 hn3 hn1 hn2
        go_enter Tryd.func6, Tryd.ntmps6
        go_wp2_with fail
        refine (HAW.out _ (Below.refl _ _)).mono ?_
        rintro e w1 ⟨rfl, b1⟩
        have B1 := Lib.hid b1
        clear b1
        go_wp2_with fail
        refine (HS1.out _ B1.out).mono ?_
        rintro e w2 ⟨⟨g2, cap2, rfl, _, hta2⟩, b2⟩
        have B2 := Lib.hid (B1.out.trans (b2.mono B1.out.size))
        have T1 := Lib.hid hta2
        clear hta2
        clear b2
        go_wp2_with fail
        refine (HS2.out _ B2.out).mono ?_
        rintro e w3 ⟨⟨g3, cap3, rfl, _, hta3⟩, b3⟩
        have B3 := Lib.hid (B2.out.trans (b3.mono B2.out.size))
        have T2 := Lib.hid (T1.out.below b3)
        have U2 := Lib.hid hta3
        clear hta3
        clear b3
        go_wp2_with fail
        refine (HS3.out _ B3.out).mono ?_
        rintro e w4 ⟨⟨g4, cap4, rfl, _, hta4⟩, b4⟩
        have B4 := Lib.hid (B3.out.trans (b4.mono B3.out.size))
        have T3 := Lib.hid (T2.out.below b4)
        have U3 := Lib.hid (U2.out.below b4)
        have V3 := Lib.hid hta4
        clear hta4
        clear b4
        go_wp2_with fail
        go_loopw [90] (fun v wr => ∃ k : Nat, v = .int .i64 k ∧ k ≤ vs.length ∧ TokAt wr g2 ts ∧ TokAt wr g3 us ∧ TokAt wr g4 vs ∧ Below w.heap.size w wr) (fun v _ => vs.length - (intOf v).toNat)
        case atStart => exact ⟨0, rfl, by omega, T3.out, U3.out, V3.out, B4.out⟩
        case round =>
          obtain ⟨k, rfl, hk, ht1, ht2, ht3, hb⟩ := hrel
          have HB := Lib.hid hb
          have HT1 := Lib.hid ht1
          have HT2 := Lib.hid ht2
          have HT3 := Lib.hid ht3
          have hlt1 := ht1.lt
          have hlt2 := ht2.lt
          have hlt3 := ht3.lt
          have hsz := hb.size
          by_cases hlt : k < vs.length
          · have hki : (k : Int) < (vs.length : Int) := by omega
            by_cases hA : k < ts.length - 1
            · have hAi : (k : Int) < (ts.length : Int) - 1 := by have := HN1.out; omega
              have hAj : (k : Int) < (ts.length : Int) := by omega
              obtain ⟨x, hx⟩ : ∃ x, ts[k]? = some x := ⟨ts[k], List.getElem?_eq_getElem (by omega)⟩
              have hv := HG1.out k x hA hx
              obtain ⟨p0, p1, p2, p3⟩ := ht1.cells k x hx
              obtain ⟨q0, q1, q2, q3⟩ := ht3.cells k x hv
              have hat := HA1.out x (List.mem_of_getElem? hx)
              have hat2 : (x.at_ : Int) ≤ 8000 := by omega
              obtain ⟨xk, xt, xn, xa⟩ := x
              simp only at p0 p1 p2 p3 q0 q1 q2 q3 hat2
              have z1 : ∀ o j, (wr.alloc o).cell? ⟨g2, j, none⟩ = wr.cell? ⟨g2, j, none⟩ := fun o j => alloc_cell wr o g2 j hlt1
              have z3 : ∀ o j, (wr.alloc o).cell? ⟨g4, j, none⟩ = wr.cell? ⟨g4, j, none⟩ := fun o j => alloc_cell wr o g4 j hlt3
              have hwr : IntKind.i64.wrap ((k : Int) + 1) = (k : Int) + 1 := IntWalk.i64_in _ (by omega)
              clear hb ht1 ht2 ht3 hx hv hat
              go_wp2_with fail
              go_quiet (fail)
              go_wp2_with fail
              go_roundw
              case rel => exact ⟨k + 1, by go_num, by omega, HT1.out.below (box_drawn _ _ _), HT2.out.below (box_drawn _ _ _), HT3.out.below (box_drawn _ _ _), HB.out.trans ((box_drawn _ _ _).mono hsz)⟩
              case measure => simp [intOf]; omega
            · have hAi : ¬ (k : Int) < (ts.length : Int) - 1 := by omega
              obtain ⟨m, hm⟩ : ∃ m, k = ts.length - 1 + m := ⟨k - (ts.length - 1), by omega⟩
              have hmu : m < us.length := by have := HN3.out; have := HN1.out; omega
              have hmi : (m : Int) < (us.length : Int) := by omega
              have hme : (k : Int) - (ts.length : Int) + 1 = (m : Int) := by have := HN1.out; omega
              obtain ⟨x, hx⟩ : ∃ x, us[m]? = some x := ⟨us[m], List.getElem?_eq_getElem hmu⟩
              have hv := HG2.out m x hx
              rw [← hm] at hv
              obtain ⟨p0, p1, p2, p3⟩ := ht2.cells m x hx
              obtain ⟨q0, q1, q2, q3⟩ := ht3.cells k _ hv
              have hat := HA2.out x (List.mem_of_getElem? hx)
              have hat2 : (x.at_ : Int) ≤ 8000 := by omega
              obtain ⟨xk, xt, xn, xa⟩ := x
              simp only at p0 p1 p2 p3 q0 q1 q2 q3 hat2
              have hq3 : wr.cell? ⟨g4, k * 4 + 3, none⟩ = some (.int .i64 ((xa : Int) + ((s.size : Int) + 1))) := by rw [q3]; simp
              have z2 : ∀ o j, (wr.alloc o).cell? ⟨g3, j, none⟩ = wr.cell? ⟨g3, j, none⟩ := fun o j => alloc_cell wr o g3 j hlt2
              have z3 : ∀ o j, (wr.alloc o).cell? ⟨g4, j, none⟩ = wr.cell? ⟨g4, j, none⟩ := fun o j => alloc_cell wr o g4 j hlt3
              have HM := Lib.hid hm
              clear hb ht1 ht2 ht3 hx hv hat q3 hm hmu
              go_wp2_with fail
              go_quiet (fail)
              go_wp2_with fail
              go_roundw
              case rel => exact ⟨k + 1, by go_num, by omega, HT1.out.below (box_drawn _ _ _), HT2.out.below (box_drawn _ _ _), HT3.out.below (box_drawn _ _ _), HB.out.trans ((box_drawn _ _ _).mono hsz)⟩
              case measure => simp [intOf]; omega
          · obtain rfl : k = vs.length := by omega
            clear hb ht1 ht2 ht3
            go_wp2_with fail
            refine (HAW.out _ HB.out).mono ?_
            rintro e w6 ⟨rfl, b6⟩
            have B6 := Lib.hid (HB.out.trans (b6.mono HB.out.size))
            clear b6
            go_wp2_with fail
            go_ret
            exact ⟨rfl, B6.out⟩

end Go.Proofs.YtipabjefkbgjbaaDoor.Lx
