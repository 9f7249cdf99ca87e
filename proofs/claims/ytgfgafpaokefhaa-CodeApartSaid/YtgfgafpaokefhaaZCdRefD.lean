/-
  The document's own answer whether an artifact may be kept.
-/
import Derived.Test.YtgfgafpaokefhaaZCdRefC
namespace Go.Proofs.Ytgfgafpaokefhaa.Cd
open Go.RowKit
open Pk Va
set_option linter.unusedVariables false
set_option linter.unusedSimpArgs false

/-- Ahead of its counters' and messages' own. -/
def itemH (x : ItemP) : Bool := nameOk x.typ && nameOk x.state && rowOk x.attrs && decide (x.counts.length ≤ 16) && decide (x.box.length ≤ 4096)
theorem itemOk_eq (x : ItemP) : itemOk x = (itemH x && x.counts.all cntOk && x.box.all mailOk) := by
  unfold itemOk itemH
  cases nameOk x.typ <;> cases nameOk x.state <;> cases rowOk x.attrs <;> cases decide (x.counts.length ≤ 16) <;> cases decide (x.box.length ≤ 4096) <;> cases x.counts.all cntOk <;> cases x.box.all mailOk <;> rfl

set_option maxRecDepth 100000 in
set_option maxHeartbeats 8000000 in
theorem rrightItem_any (x : ItemP) (hi : IBig x) (aa : Option Addr) (ac : Nat) (ca : Option Addr) (cc : Nat) (ba : Option Addr) (bc : Nat) (w : World) (hat : ValsAt w aa x.attrs) (hct : NumsAt w ca x.counts) (hbt : MailsAt w ba x.box) :
    Calls Try.prog 21 #[.agg #[.int .i64 x.id, .string (S x.typ), .string (S x.state), .int .i64 x.since, .slice aa x.attrs.length ac, .slice ca x.counts.length cc, .slice ba x.box.length bc]] w fun e w' => e = .returned (.bool (itemOk x)) ∧ Below w.heap.size w w' := by
  obtain ⟨W0, hW0⟩ : ∃ W0, W0 = w.alloc (.cells #[.int .i64 x.id, .string (S x.typ), .string (S x.state), .int .i64 x.since, .slice aa x.attrs.length ac, .slice ca x.counts.length cc, .slice ba x.box.length bc] 31) := ⟨_, rfl⟩
  have hb : Below w.heap.size w W0 := by rw [hW0]; exact (Below.refl w.heap.size w).alloc (Nat.le_refl _) _
  have hbx : W0.heap[w.heap.size]? = some (.cells #[.int .i64 x.id, .string (S x.typ), .string (S x.state), .int .i64 x.since, .slice aa x.attrs.length ac, .slice ca x.counts.length cc, .slice ba x.box.length bc] 31 (0, 0)) := by rw [hW0]; exact heap_alloc_new w _
  have HKEEP := Lib.hid (fun w7 (kk : Good W0 w7) => show w7.cell? ⟨w.heap.size, 0, none⟩ = some (.int .i64 x.id) ∧ w7.cell? ⟨w.heap.size, 1, none⟩ = some (.string (S x.typ)) ∧ w7.cell? ⟨w.heap.size, 2, none⟩ = some (.string (S x.state)) ∧ w7.cell? ⟨w.heap.size, 3, none⟩ = some (.int .i64 x.since) ∧ w7.cell? ⟨w.heap.size, 4, none⟩ = some (.slice aa x.attrs.length ac) ∧ w7.cell? ⟨w.heap.size, 5, none⟩ = some (.slice ca x.counts.length cc) ∧ w7.cell? ⟨w.heap.size, 6, none⟩ = some (.slice ba x.box.length bc) from
    ⟨cell_of_row w7 w.heap.size 0 _ _ (0, 0) ((kk.block w.heap.size (lt_of_heapV hbx)).trans hbx), cell_of_row w7 w.heap.size 1 _ _ (0, 0) ((kk.block w.heap.size (lt_of_heapV hbx)).trans hbx), cell_of_row w7 w.heap.size 2 _ _ (0, 0) ((kk.block w.heap.size (lt_of_heapV hbx)).trans hbx), cell_of_row w7 w.heap.size 3 _ _ (0, 0) ((kk.block w.heap.size (lt_of_heapV hbx)).trans hbx), cell_of_row w7 w.heap.size 4 _ _ (0, 0) ((kk.block w.heap.size (lt_of_heapV hbx)).trans hbx), cell_of_row w7 w.heap.size 5 _ _ (0, 0) ((kk.block w.heap.size (lt_of_heapV hbx)).trans hbx), cell_of_row w7 w.heap.size 6 _ _ (0, 0) ((kk.block w.heap.size (lt_of_heapV hbx)).trans hbx)⟩)
  have HFIN := Lib.hid (fun (wr : World) (h : Good W0 wr) => hb.trans (h.mono hb.size))
  have HB := Lib.hid ((Below.refl w.heap.size w).alloc (Nat.le_refl _) (.cells #[.int .i64 x.id, .string (S x.typ), .string (S x.state), .int .i64 x.since, .slice aa x.attrs.length ac, .slice ca x.counts.length cc, .slice ba x.box.length bc] 31))
  have HK := Lib.hid (show Calls Try.prog 60 #[.slice aa x.attrs.length ac] W0 fun e w' => e = .returned (.bool (rowOk x.attrs)) ∧ Good W0 w' from by
    refine (rrightRow_any x.attrs (fun v hv => (hi.attrs v hv).ok) hi.alen aa ac W0 (hat.below hb)).mono ?_
    rintro e w' ⟨rfl, b⟩
    exact ⟨rfl, b⟩)
  have HMM := Lib.hid (fun (i : Nat) (h : i < x.box.length) ka kc fa fc W (k : Good W0 W) (h1 : ValsAt W ka x.box[i].key) (h2 : ValsAt W fa x.box[i].fields) => show Calls Try.prog 19 #[.agg #[.int .i64 x.box[i].id, .string (S x.box[i].chan), .slice ka x.box[i].key.length kc, .slice fa x.box[i].fields.length fc]] W fun e w' => e = .returned (.bool (mailOk x.box[i])) ∧ Good W0 w' from by
    refine (rrightMail_any x.box[i] (hi.box _ (List.getElem_mem _)) ka kc fa fc W h1 h2).mono ?_
    rintro e w' ⟨rfl, b⟩
    exact ⟨rfl, k.step b⟩)
  have HCT := Lib.hid (fun W (k : Good W0 W) => (hct.below hb).below k)
  have HBT := Lib.hid (fun W (k : Good W0 W) => (hbt.below hb).below k)
  have HC1 := Lib.hid (fun (h : ∀ i (hi : i < x.counts.length), cntOk x.counts[i] = true) => show x.counts.all cntOk = true from by
    rw [List.all_eq_true]
    intro n hn
    obtain ⟨i, hi, rfl⟩ := List.getElem_of_mem hn
    exact h i hi)
  have HC2 := Lib.hid (fun (i : Nat) (h : i < x.counts.length) (hn : cntOk x.counts[i] = false) => show x.counts.all cntOk = false from by
    cases e : x.counts.all cntOk with
    | false => rfl
    | true => rw [List.all_eq_true] at e; rw [e _ (List.getElem_mem h)] at hn; cases hn)
  have HM1 := Lib.hid (fun (h : ∀ i (hi : i < x.box.length), mailOk x.box[i] = true) => show x.box.all mailOk = true from by
    rw [List.all_eq_true]
    intro n hn
    obtain ⟨i, hi, rfl⟩ := List.getElem_of_mem hn
    exact h i hi)
  have HM2 := Lib.hid (fun (i : Nat) (h : i < x.box.length) (hn : mailOk x.box[i] = false) => show x.box.all mailOk = false from by
    cases e : x.box.all mailOk with
    | false => rfl
    | true => rw [List.all_eq_true] at e; rw [e _ (List.getElem_mem h)] at hn; cases hn)
  have HR := Lib.hid (itemOk_eq x)
  have HW0 := Lib.hid hW0
  have hcl := hi.clen
  have hbl := hi.blen
  clear hb hbx hW0 hat hct hbt hi
  by_cases h1 : x.typ.length ≤ 24
  · obtain ⟨n1, l1⟩ := nameOk_le h1
    by_cases h2 : x.state.length ≤ 24
    · obtain ⟨n2, l2⟩ := nameOk_le h2
      have m1 : ¬ (24 : Int) < ((S x.typ).size : Int) := by omega
      have m2 : ¬ (24 : Int) < ((S x.state).size : Int) := by omega
      obtain ⟨okr, hokr⟩ : ∃ okr, okr = rowOk x.attrs := ⟨_, rfl⟩
      rw [← hokr] at HK
      cases okr with
      | false =>
        have hh : itemH x = false := by unfold itemH; rw [n1, n2, ← hokr]; rfl
        rw [hh] at HR
        clear h1 h2 n1 n2 l1 l2 hokr hh
        go_enter Try.func21, Try.ntmps21
        go_wp2_with fail
        rw [← HW0.out]
        with_reducible refine HK.out.mono ?_
        rintro e w1 ⟨rfl, g1⟩
        obtain ⟨p0, p1, p2, p3, p4, p5, p6⟩ := HKEEP.out _ g1
        have HG1 := Lib.hid g1
        clear g1
        go_wp2_with fail
        go_ret
        exact ⟨by rw [HR.out]; rfl, HFIN.out _ HG1.out⟩
      | true =>
        by_cases h3 : x.counts.length ≤ 16
        · by_cases h4 : x.box.length ≤ 4096
          · have hh : itemH x = true := by unfold itemH; rw [n1, n2, ← hokr]; simp [h3, h4]
            rw [hh, Bool.true_and] at HR
            have m3 : ¬ (16 : Int) < (x.counts.length : Int) := by omega
            have m4 : ¬ (4096 : Int) < (x.box.length : Int) := by omega
            have c16 : (x.counts.length : Int) ≤ 16 := by omega
            have b4k : (x.box.length : Int) ≤ 4096 := by omega
            clear h1 h2 n1 n2 l1 l2 hokr hh h3 h4
            go_enter Try.func21, Try.ntmps21
            go_wp2_with fail
            rw [← HW0.out]
            with_reducible refine HK.out.mono ?_
            rintro e w1 ⟨rfl, g1⟩
            obtain ⟨p0, p1, p2, p3, p4, p5, p6⟩ := HKEEP.out _ g1
            have HG1 := Lib.hid g1
            clear g1
            go_wp2_with fail
            go_loopw [38] (fun iv wr => ∃ k : Nat, k ≤ x.counts.length ∧ iv = .int .i64 k ∧ (∀ j (hj : j < x.counts.length), j < k → cntOk x.counts[j] = true) ∧ Good W0 wr) (fun iv _ => x.counts.length - (intOf iv).toNat)
            case atStart => exact ⟨0, Nat.zero_le _, rfl, fun j _ h => absurd h (Nat.not_lt_zero _), HG1.out⟩
            case round =>
              obtain ⟨k, hk, rfl, hA, hg⟩ := hrel
              have HA := Lib.hid hA
              have HG := Lib.hid hg
              clear hA
              by_cases hlt : k < x.counts.length
              · obtain ⟨g, o, hae, c0, hgl⟩ := (HCT.out _ hg) k hlt
                rw [show x.counts.getD k 0 = x.counts[k] by simp [List.getD, hlt]] at c0
                subst hae
                have hki : (k : Int) < (x.counts.length : Int) := by omega
                have HNo := Lib.hid (HC2.out k hlt)
                have HS := Lib.hid (fun (h : cntOk x.counts[k] = true) => show ∀ j (hj : j < x.counts.length), j < k + 1 → cntOk x.counts[j] = true from fun j hj hjk => by
                  by_cases e : j = k
                  · subst e; exact h
                  · exact HA.out j hj (by omega))
                clear hg
                generalize x.counts[k] = z at *
                by_cases hz : 0 ≤ z ∧ z ≤ 1000
                · have z1 : ¬ z < 0 := by omega
                  have z2 : ¬ (1000 : Int) < z := by omega
                  have HS2 := Lib.hid (HS.out (by unfold cntOk; simp [hz]))
                  clear hz
                  go_wp2_with fail
                  go_roundw
                  case rel => exact ⟨k + 1, by omega, by go_num, HS2.out, HG.out⟩
                  case measure => simp [intOf]; omega
                · have hf : x.counts.all cntOk = false := HNo.out (by unfold cntOk; simpa using hz)
                  have hr := HR.out
                  rw [hf, Bool.false_and] at hr
                  have HR2 := Lib.hid hr
                  clear hf hr
                  by_cases z1 : z < 0
                  · clear hz
                    go_wp2_with fail
                    go_ret
                    exact ⟨by rw [HR2.out]; rfl, HFIN.out _ HG.out⟩
                  · have z2 : (1000 : Int) < z := by omega
                    clear hz
                    go_wp2_with fail
                    go_ret
                    exact ⟨by rw [HR2.out]; rfl, HFIN.out _ HG.out⟩
              · have hki : ¬ (k : Int) < (x.counts.length : Int) := by omega
                obtain ⟨p0, p1, p2, p3, p4, p5, p6⟩ := HKEEP.out _ hg
                have hr := HR.out
                rw [HC1.out (fun j hj => HA.out j hj (by omega)), Bool.true_and] at hr
                have HR2 := Lib.hid hr
                clear hr hg
                go_wp2_with fail
                go_loopw [52] (fun iv wr => ∃ k : Nat, k ≤ x.box.length ∧ iv = .int .i64 k ∧ (∀ j (hj : j < x.box.length), j < k → mailOk x.box[j] = true) ∧ Good W0 wr) (fun iv _ => x.box.length - (intOf iv).toNat)
                case atStart => exact ⟨0, Nat.zero_le _, rfl, fun j _ h => absurd h (Nat.not_lt_zero _), HG.out⟩
                case round =>
                  obtain ⟨k2, hk2, rfl, hA2, hg2⟩ := hrel
                  have HA2 := Lib.hid hA2
                  have HGG := Lib.hid hg2
                  clear hA2
                  by_cases hlt2 : k2 < x.box.length
                  · obtain ⟨g, o, ka, kc, fa, fc, hae, hm0, hg0⟩ := (HBT.out _ hg2) k2 hlt2
                    obtain ⟨m0, m1', m2', m3', hv1, hv2⟩ := hm0
                    subst hae
                    have hki2 : (k2 : Int) < (x.box.length : Int) := by omega
                    have kk := (Below.refl wr.heap.size wr).alloc (Nat.le_refl _) (.cells #[.int .i64 x.box[k2].id, .string (S x.box[k2].chan), .slice ka x.box[k2].key.length kc, .slice fa x.box[k2].fields.length fc] 27)
                    have HMk := Lib.hid (HMM.out k2 hlt2 ka kc fa fc _ (hg2.alloc (.cells #[.int .i64 x.box[k2].id, .string (S x.box[k2].chan), .slice ka x.box[k2].key.length kc, .slice fa x.box[k2].fields.length fc] 27)) (hv1.below kk) (hv2.below kk))
                    have HNo := Lib.hid (HM2.out k2 hlt2)
                    have HS := Lib.hid (fun (h : mailOk x.box[k2] = true) => show ∀ j (hj : j < x.box.length), j < k2 + 1 → mailOk x.box[j] = true from fun j hj hjk => by
                      by_cases e : j = k2
                      · subst e; exact h
                      · exact HA2.out j hj (by omega))
                    clear hg2 kk hv1 hv2
                    generalize x.box[k2] = z at *
                    cases hz : mailOk z with
                    | true =>
                      rw [hz] at HMk
                      have HS2 := Lib.hid (HS.out hz)
                      clear hz
                      go_wp2_with fail
                      with_reducible refine HMk.out.mono ?_
                      rintro e w5 ⟨rfl, g5⟩
                      have HG5 := Lib.hid g5
                      clear g5
                      go_wp2_with fail
                      go_roundw
                      case rel => exact ⟨k2 + 1, by omega, by go_num, HS2.out, HG5.out⟩
                      case measure => simp [intOf]; omega
                    | false =>
                      rw [hz] at HMk
                      have hr := HR2.out
                      rw [HNo.out hz] at hr
                      have HR3 := Lib.hid hr
                      clear hz hr
                      go_wp2_with fail
                      with_reducible refine HMk.out.mono ?_
                      rintro e w5 ⟨rfl, g5⟩
                      have HG5 := Lib.hid g5
                      clear g5
                      go_wp2_with fail
                      go_ret
                      exact ⟨by rw [HR3.out]; rfl, HFIN.out _ HG5.out⟩
                  · have hki2 : ¬ (k2 : Int) < (x.box.length : Int) := by omega
                    have hr := HR2.out
                    rw [HM1.out (fun j hj => HA2.out j hj (by omega))] at hr
                    have HR3 := Lib.hid hr
                    clear hr hg2
                    go_wp2_with fail
                    go_ret
                    exact ⟨by rw [HR3.out]; rfl, HFIN.out _ HGG.out⟩
          · have hh : itemH x = false := by unfold itemH; simp [h4]
            rw [hh] at HR
            have m3 : ¬ (16 : Int) < (x.counts.length : Int) := by omega
            have m4 : (4096 : Int) < (x.box.length : Int) := by omega
            clear h1 h2 n1 n2 l1 l2 hokr hh h3 h4
            go_enter Try.func21, Try.ntmps21
            go_wp2_with fail
            rw [← HW0.out]
            with_reducible refine HK.out.mono ?_
            rintro e w1 ⟨rfl, g1⟩
            obtain ⟨p0, p1, p2, p3, p4, p5, p6⟩ := HKEEP.out _ g1
            have HG1 := Lib.hid g1
            clear g1
            go_wp2_with fail
            go_ret
            exact ⟨by rw [HR.out]; rfl, HFIN.out _ HG1.out⟩
        · have hh : itemH x = false := by unfold itemH; simp [h3]
          rw [hh] at HR
          have m3 : (16 : Int) < (x.counts.length : Int) := by omega
          clear h1 h2 n1 n2 l1 l2 hokr hh h3
          go_enter Try.func21, Try.ntmps21
          go_wp2_with fail
          rw [← HW0.out]
          with_reducible refine HK.out.mono ?_
          rintro e w1 ⟨rfl, g1⟩
          obtain ⟨p0, p1, p2, p3, p4, p5, p6⟩ := HKEEP.out _ g1
          have HG1 := Lib.hid g1
          clear g1
          go_wp2_with fail
          go_ret
          exact ⟨by rw [HR.out]; rfl, HFIN.out _ HG1.out⟩
    · obtain ⟨n2, l2⟩ := nameOk_gt h2
      have hh : itemH x = false := by unfold itemH; rw [n1, n2]; rfl
      rw [hh] at HR
      have m1 : ¬ (24 : Int) < ((S x.typ).size : Int) := by omega
      have m2 : (24 : Int) < ((S x.state).size : Int) := by omega
      clear h1 h2 n1 n2 l1 l2 hh HK HMM
      go_enter Try.func21, Try.ntmps21
      go_wp2_with fail
      go_ret
      exact ⟨by rw [HR.out]; rfl, HB.out⟩
  · obtain ⟨n1, l1⟩ := nameOk_gt h1
    have hh : itemH x = false := by unfold itemH; rw [n1]; rfl
    rw [hh] at HR
    have m1 : (24 : Int) < ((S x.typ).size : Int) := by omega
    clear h1 n1 l1 hh HK HMM
    go_enter Try.func21, Try.ntmps21
    go_wp2_with fail
    go_ret
    exact ⟨by rw [HR.out]; rfl, HB.out⟩

end Go.Proofs.Ytgfgafpaokefhaa.Cd
