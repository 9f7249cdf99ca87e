/-
  MailOrder, walked.
-/
import Derived.Test.YtgggjlmelnbgcaaMdOrderP
namespace Go.Proofs.Ytgggjlmelnbgcaa.Md
open Go.RowKit
open Va
set_option linter.unusedVariables false
set_option linter.unusedSimpArgs false

set_option maxRecDepth 100000 in
set_option maxHeartbeats 8000000 in
theorem mailOrder_walk (l : List MailP) (a : Option Addr) (cap : Nat) (w : World) (hl : l.length ≤ 281474976710656) (hx : MailsAt w a l) (hb : ∀ m ∈ l, MBig m) :
    Calls Try.prog 5 #[.slice a l.length cap] w fun e w' => e = .returned (.bool true) ∧ Below w.heap.size w w' := by
  have HX := Lib.hid hx
  have HBIG := Lib.hid hb
  have HLL := Lib.hid hl
  have hli : (l.length : Int) ≤ 281474976710656 := by omega
  clear hx hb
  go_enter Try.func5, Try.ntmps5
  go_wp2_with fail
  refine (awake18_any _).mono ?_
  rintro e w1 ⟨rfl, b1⟩
  have B1 := Lib.hid b1
  clear b1
  go_wp2_with fail
  go_loopw [20] (fun iv wr => ∃ k : Nat, k ≤ l.length ∧ iv = .int .i64 k ∧ Below w.heap.size w wr ∧ Hid (∀ j, (h : j < l.length) → j < k → shortB l[j] = true ∧ l.length ≤ 100)) (fun iv _ => l.length - (intOf iv).toNat)
  case atStart => exact ⟨0, by omega, rfl, B1.out, Lib.hid (fun j _ h => absurd h (by omega))⟩
  case round =>
    obtain ⟨k, hk, rfl, hbl, hsh⟩ := hrel
    have HBL := Lib.hid hbl
    by_cases hlt : k < l.length
    · have hki : (k : Int) < (l.length : Int) := by omega
      obtain ⟨b, off, ka, kc, fa, fc, rfl, hv, hbs⟩ := HX.out k hlt
      obtain ⟨v0, v1, v2, v3, hka, hfa⟩ := hv
      have ok1 := HBIG.out l[k] (List.getElem_mem _)
      obtain ⟨m, hm⟩ : ∃ m, m = l[k] := ⟨_, rfl⟩
      rw [← hm] at v0 v1 v2 v3 hka hfa ok1
      have HM := Lib.hid hm
      have p0 := (hbl.cell (p := ⟨b, off + k * 4, none⟩) hbs).trans v0
      have p1 := (hbl.cell (p := ⟨b, off + k * 4 + 1, none⟩) hbs).trans v1
      have p2 := (hbl.cell (p := ⟨b, off + k * 4 + 2, none⟩) hbs).trans v2
      have p3 := (hbl.cell (p := ⟨b, off + k * 4 + 3, none⟩) hbs).trans v3
      have kk := (Below.refl wr.heap.size wr).alloc (Nat.le_refl _) (.cells #[.int .i64 m.id, .string (S m.chan), .slice ka m.key.length kc, .slice fa m.fields.length fc] 30)
      have HKK := Lib.hid (hbl.trans (kk.mono hbl.size))
      have hbe := heap_alloc_new wr (.cells #[.int .i64 m.id, .string (S m.chan), .slice ka m.key.length kc, .slice fa m.fields.length fc] 30)
      have e0 := cell_of_row _ wr.heap.size 0 _ _ (0, 0) hbe
      have e1 := cell_of_row _ wr.heap.size 1 _ _ (0, 0) hbe
      have e2 := cell_of_row _ wr.heap.size 2 _ _ (0, 0) hbe
      have e3 := cell_of_row _ wr.heap.size 3 _ _ (0, 0) hbe
      have HOK := Lib.hid ok1
      clear hbl v0 v1 v2 v3 hka hfa ok1 hm kk hbe
      by_cases hbig : l.length ≤ 100
      · have hbi : ¬ (l.length : Int) > 100 := by omega
        have HSM := Lib.hid (fun W => short_any m HOK.out ka kc fa fc W)
        cases hs : shortB m with
        | true =>
          rw [hs] at HSM
          go_wp2_with fail
          refine (HSM.out _).mono ?_
          rintro e w3 ⟨rfl, b3⟩
          have B3 := Lib.hid (HKK.out.trans (b3.mono HKK.out.size))
          clear b3 e0 e1 e2 e3 p0 p1 p2 p3
          go_wp2_with fail
          go_roundw
          case rel => exact ⟨k + 1, by omega, by go_num, B3.out, Lib.hid (fun j hj hjk => by
            by_cases e : j = k
            · subst e; exact ⟨by rw [← HM.out]; exact hs, hbig⟩
            · exact hsh.out j hj (by omega))⟩
          case measure => simp [intOf]; omega
        | false =>
          rw [hs] at HSM
          go_wp2_with fail
          refine (HSM.out _).mono ?_
          rintro e w3 ⟨rfl, b3⟩
          have B3 := Lib.hid (HKK.out.trans (b3.mono HKK.out.size))
          clear b3 e0 e1 e2 e3 p0 p1 p2 p3
          go_wp2_with fail
          refine (awake18_any _).mono ?_
          rintro e w4 ⟨rfl, b4⟩
          have B4 := Lib.hid (B3.out.trans (b4.mono B3.out.size))
          clear b4
          go_wp2_with fail
          go_ret
          exact ⟨rfl, B4.out⟩
      · have hbi : (l.length : Int) > 100 := by omega
        go_wp2_with fail
        refine (awake18_any _).mono ?_
        rintro e w4 ⟨rfl, b4⟩
        have B4 := Lib.hid (HKK.out.trans (b4.mono HKK.out.size))
        clear b4
        go_wp2_with fail
        go_ret
        exact ⟨rfl, B4.out⟩
    · have hke : k = l.length := by omega
      have hki : ¬ (k : Int) < (l.length : Int) := by omega
      have hall : ∀ m ∈ l, Mok m ∧ Msh m := fun m hm => by
        obtain ⟨i, hi, rfl⟩ := List.mem_iff_getElem.1 hm
        exact shortB_ok (HBIG.out _ hm) (hsh.out i hi (by omega)).1
      have HALL := Lib.hid hall
      have hl100 : l.length ≤ 100 := by
        rcases Nat.eq_zero_or_pos l.length with h0 | h0
        · omega
        · exact (hsh.out 0 h0 (by omega)).2
      have hcap : capN (l.length : Int) = l.length := by unfold capN; omega
      have HF := Lib.hid (fill_any l.length ⟨by omega, by omega⟩ l hl (fun m hm => (hall m hm).1) a cap wr (HX.out.below hbl))
      clear hbl hall hsh
      go_wp2_with fail
      refine HF.out.mono ?_
      rintro e w2 ⟨hfil, b2⟩
      have B2 := Lib.hid (HBL.out.trans (b2.mono HBL.out.size))
      unfold Filled at hfil
      rw [hcap, if_pos (Nat.le_refl _)] at hfil
      obtain ⟨rfl, hbox⟩ := hfil
      have HBOX := Lib.hid hbox
      have HWR := Lib.hid HBL.out.size
      clear hbox b2 hcap
      go_wp2_with fail
      refine (all_any HBOX.out (fun m hm => ⟨(HALL.out m hm).1.big, (HALL.out m hm).1.key, (HALL.out m hm).1.fields⟩)).mono ?_
      rintro e w3 ⟨⟨⟨q, d, cp, rfl, hd, hout⟩, hst⟩, o3⟩
      have hdl : d.length = l.length := by rw [← hd]; simp
      have B3 := Lib.hid (o3.then B2.out HBL.out.size B2.out.size)
      have HST := Lib.hid hst
      have HMU := Lib.hid hout.mu
      have HW23 := Lib.hid o3.size
      have HFL : Hid (∀ y ∈ d, y.m.fields.length ≤ 1000) := Lib.hid (fun y hy => (HALL.out y.m (by rw [← hd]; exact List.mem_map.2 ⟨y, hy, rfl⟩)).1.fields)
      clear hd hout hst o3
      go_wp2_with fail
      obtain ⟨wf, rfl⟩ : ∃ wf, wf = wr := ⟨_, rfl⟩
      go_loopw [46] (fun iv wq => ∃ k : Nat, k ≤ d.length ∧ iv = .int .i64 k ∧ MuAt w2.heap.size wq q d cp ∧ Below w2.heap.size w3 wq) (fun iv _ => d.length - (intOf iv).toNat)
      case atStart => exact ⟨0, by omega, rfl, HMU.out, Below.refl _ _⟩
      case round =>
        obtain ⟨k2, hk2, rfl, hmu, hb3⟩ := hrel
        have HMU2 := Lib.hid hmu
        have HB3 := Lib.hid hb3
        by_cases hlt2 : k2 < d.length
        · have hki2 : (k2 : Int) < (d.length : Int) := by omega
          obtain ⟨g, hq, hg, hgb, v0, v1, v2, v3⟩ := own_cell hmu.own k2 hlt2
          subst hq
          have hfl := HFL.out d[k2] (List.getElem_mem _)
          obtain ⟨y, hy⟩ : ∃ y, y = d[k2] := ⟨_, rfl⟩
          have HYM : Hid (y ∈ d) := Lib.hid (by rw [hy]; exact List.getElem_mem _)
          rw [← hy] at v0 v1 v2 v3 hfl
          have hfi : (y.m.fields.length : Int) ≤ 1000 := by omega
          obtain ⟨wo, rfl⟩ : ∃ wo, wo = wr := ⟨_, rfl⟩
          have kk := (Below.refl wo.heap.size wo).alloc (Nat.le_refl _) (.cells #[.int .i64 y.m.id, .string (S y.m.chan), .slice y.ka y.m.key.length y.kc, .slice y.fa y.m.fields.length y.fc] 30)
          have m1 : BM (wo.alloc (.cells #[.int .i64 y.m.id, .string (S y.m.chan), .slice y.ka y.m.key.length y.kc, .slice y.fa y.m.fields.length y.fc] 30)) wo.heap.size _ _ _ _ := heap_alloc_new wo _
          have e3 := m1.c3
          have M1 := Lib.hid m1
          have MU1 := Lib.hid (hmu.below kk)
          have BB1 := Lib.hid (hb3.trans (kk.mono (Nat.le_trans HW23.out hb3.size)))
          have HO := Lib.hid (show w2.heap.size ≤ wo.heap.size from Nat.le_trans HW23.out hb3.size)
          clear hmu hb3 hy kk m1 hgb
          go_wp2_with fail
          go_loopw [53] (fun jv wq => ∃ j : Nat, j ≤ y.m.fields.length ∧ jv = .int .i64 j ∧ BM wq wo.heap.size (.int .i64 y.m.id) (.string (S y.m.chan)) (.slice y.ka y.m.key.length y.kc) (.slice y.fa y.m.fields.length y.fc) ∧ MuAt w2.heap.size wq (some ⟨g, 0, none⟩) d cp ∧ Below w2.heap.size w3 wq) (fun jv _ => y.m.fields.length - (intOf jv).toNat)
          case atStart => exact ⟨0, by omega, rfl, M1.out, MU1.out, BB1.out⟩
          case round =>
            obtain ⟨j, hj, rfl, hbm, hmu, hb3⟩ := hrel
            have HMU3 := Lib.hid hmu
            have HB4 := Lib.hid hb3
            have HBM := Lib.hid hbm
            by_cases hjl : j < y.m.fields.length
            · have hji : (j : Int) < (y.m.fields.length : Int) := by omega
              rcases hmu.nums y HYM.out with h0 | ⟨G, hfa, hG, hGb, hGc⟩
              · omega
              · obtain ⟨z, hz⟩ := hGc j hjl
                have p3 := hbm.c3
                rw [hfa] at p3
                have fz := hGb.frozen (j * 4 + 1)
                have S1 := Lib.hid (fun zz => hmu.set G j zz hGb ⟨z, hz⟩)
                have S2 := Lib.hid (fun zz => hb3.setCell (p := ⟨G, j * 4 + 1, none⟩) hG (.int .i64 zz))
                have S3 := Lib.hid (fun zz => hbm.other (g := G) (o := j * 4 + 1) (v := .int .i64 zz) (by have := hbm.blk.apart hGb (by decide); exact this))
                clear hbm hmu hb3 hfa hG hGb hGc
                go_wp2_with fail
                go_roundw
                case rel => exact ⟨j + 1, by omega, by go_num, S3.out _, S1.out _, S2.out _⟩
                case measure => simp [intOf]; omega
            · have hji : ¬ (j : Int) < (y.m.fields.length : Int) := by omega
              clear hbm hmu hb3
              go_wp2_with fail
              go_roundw
              case rel => exact ⟨k2 + 1, by omega, by go_num, HMU3.out, HB4.out⟩
              case measure => simp [intOf]; omega
        · have hki2 : ¬ (k2 : Int) < (d.length : Int) := by omega
          have B5 := Lib.hid (B3.out.trans (hb3.mono B2.out.size))
          have HBX := Lib.hid (HST.out wr hb3.block)
          clear hmu hb3
          go_wp2_with fail
          obtain ⟨w5, rfl⟩ : ∃ w5, w5 = wr := ⟨_, rfl⟩
          go_loopw [69] (fun iv wq => ∃ k : Nat, k ≤ l.length ∧ iv = .int .i64 k ∧ BoxAt wf.heap.size wq (wf.heap.size + 1) wf.heap.size l.length (l.drop k) ∧ Below w.heap.size w wq) (fun iv _ => l.length - (intOf iv).toNat)
          case atStart => exact ⟨0, by omega, rfl, HBX.out, B5.out⟩
          case round =>
            obtain ⟨k4, hk4, rfl, hb4, hbl4⟩ := hrel
            have HB4 := Lib.hid hb4
            have HBL4 := Lib.hid hbl4
            by_cases hlt4 : k4 < l.length
            · have hki4 : (k4 : Int) < (l.length : Int) := by omega
              obtain ⟨b, off, ka, kc, fa, fc, hae, hv, hbs⟩ := HX.out k4 hlt4
              subst hae
              obtain ⟨v0, v1, v2, v3, hka, hfa⟩ := hv
              have hms := (HALL.out l[k4] (List.getElem_mem _)).2
              rw [List.drop_eq_getElem_cons hlt4] at hb4
              obtain ⟨m, hm⟩ : ∃ m, m = l[k4] := ⟨_, rfl⟩
              rw [← hm] at v0 v1 v2 v3 hka hfa hms hb4
              have p0 := (hbl4.cell (p := ⟨b, off + k4 * 4, none⟩) hbs).trans v0
              have p1 := (hbl4.cell (p := ⟨b, off + k4 * 4 + 1, none⟩) hbs).trans v1
              have p2 := (hbl4.cell (p := ⟨b, off + k4 * 4 + 2, none⟩) hbs).trans v2
              have p3 := (hbl4.cell (p := ⟨b, off + k4 * 4 + 3, none⟩) hbs).trans v3
              obtain ⟨wo, rfl⟩ : ∃ wo, wo = wr := ⟨_, rfl⟩
              have kk := (Below.refl wo.heap.size wo).alloc (Nat.le_refl _) (.cells #[.int .i64 m.id, .string (S m.chan), .slice ka m.key.length kc, .slice fa m.fields.length fc] 30)
              have m1 : BM (wo.alloc (.cells #[.int .i64 m.id, .string (S m.chan), .slice ka m.key.length kc, .slice fa m.fields.length fc] 30)) wo.heap.size _ _ _ _ := heap_alloc_new wo _
              obtain ⟨W1, hW1⟩ : ∃ W1, W1 = wo.alloc (.cells #[.int .i64 m.id, .string (S m.chan), .slice ka m.key.length kc, .slice fa m.fields.length fc] 30) := ⟨_, rfl⟩
              have HW1 := Lib.hid hW1
              rw [← hW1] at kk m1
              have hbx := hb4.below kk
              have BL1 := Lib.hid (hbl4.trans (kk.mono hbl4.size))
              have HTA := Lib.hid (take_any hbx)
              have hne : wo.heap.size ≠ wf.heap.size := fun e => by
                obtain ⟨buf, s, r, hc, _⟩ := hbx.chan
                exact not_chan hc 30 (e ▸ m1.blk)
              have M1 := Lib.hid m1
              have HNE := Lib.hid hne
              have HKF := Lib.hid (And.intro hka hfa)
              have HMS := Lib.hid hms
              clear hb4 hbl4 v0 v1 v2 v3 hka hfa hms hm kk m1 hW1 hbx hne
              go_wp2_with fail
              rw [← HW1.out]
              refine HTA.out.mono ?_
              rintro e w6 ⟨⟨ka6, kc6, fa6, fc6, rfl, tk, tf, hb6⟩, o6⟩
              unfold mV
              have m6 : BM w6 wo.heap.size _ _ _ _ := (o6.block _ M1.out.lt HNE.out).trans M1.out
              have k7 := (Below.refl w6.heap.size w6).alloc (Nat.le_refl _) (.cells #[.int .i64 m.id, .string (S m.chan), .slice ka6 m.key.length kc6, .slice fa6 m.fields.length fc6] 30)
              have m7 : BM (w6.alloc (.cells #[.int .i64 m.id, .string (S m.chan), .slice ka6 m.key.length kc6, .slice fa6 m.fields.length fc6] 30)) w6.heap.size _ _ _ _ := heap_alloc_new w6 _
              have q0 := fun o => (m6.below ((Below.refl w6.heap.size w6).alloc (Nat.le_refl _) o)).c0
              have q1 := fun o => (m6.below ((Below.refl w6.heap.size w6).alloc (Nat.le_refl _) o)).c1
              have q2 := fun o => (m6.below ((Below.refl w6.heap.size w6).alloc (Nat.le_refl _) o)).c2
              have q3 := fun o => (m6.below ((Below.refl w6.heap.size w6).alloc (Nat.le_refl _) o)).c3
              have n0 := m7.c0
              have n1 := m7.c1
              have n2 := m7.c2
              have n3 := m7.c3
              have B6 := o6.then BL1.out HWR.out BL1.out.size
              have B7 := Lib.hid (B6.trans (k7.mono B6.size))
              have HB7 := Lib.hid (hb6.below k7)
              have HSM := Lib.hid (sameMail_refl m HMS.out ka6 kc6 fa6 fc6 ka kc fa fc _ ((TwR.vals tk).below k7) ((TwR.vals tf).below k7) (HKF.out.1.below B7.out) (HKF.out.2.below B7.out))
              clear tk tf hb6 o6 m6 k7 m7 B6 p0 p1 p2 p3
              go_wp2_with fail
              refine HSM.out.mono ?_
              rintro e w8 ⟨rfl, b8⟩
              have B8 := Lib.hid (B7.out.trans (b8.mono B7.out.size))
              have HB8 := Lib.hid (HB7.out.below b8)
              clear b8 q0 q1 q2 q3 n0 n1 n2 n3
              go_wp2_with fail
              go_roundw
              case rel => exact ⟨k4 + 1, by omega, by go_num, HB8.out, B8.out⟩
              case measure => simp [intOf]; omega
            · have hki4 : ¬ (k4 : Int) < (l.length : Int) := by omega
              have hke4 : k4 = l.length := by omega
              rw [hke4, List.drop_length] at hb4
              have HTA := Lib.hid (take_any hb4)
              clear hb4 hbl4
              go_wp2_with fail
              refine HTA.out.mono ?_
              rintro e w6 ⟨⟨rfl, hb6⟩, o6⟩
              unfold zM
              have B6 := Lib.hid (o6.then HBL4.out HWR.out HBL4.out.size)
              have HB6 := Lib.hid hb6
              clear hb6 o6
              go_wp2_with fail
              have k7 := (Below.refl w6.heap.size w6).alloc (Nat.le_refl _) (.cells #[.int .i64 0, .string ⟨#[]⟩, .slice none 0 0, .slice none 0 0] 30)
              have B7 := Lib.hid (B6.out.trans (k7.mono B6.out.size))
              have HB7 := Lib.hid (HB6.out.below k7)
              clear k7
              refine (awake18_any _).mono ?_
              rintro e w8 ⟨rfl, b8⟩
              have B8 := Lib.hid (B7.out.trans (b8.mono B7.out.size))
              have HRO := Lib.hid (room_any (HB7.out.below b8))
              clear b8
              go_wp2_with fail
              refine HRO.out.mono ?_
              rintro e w9 ⟨rfl, b9⟩
              have B9 := Lib.hid (B8.out.trans (b9.mono B8.out.size))
              clear b9
              simp only [List.length_nil, Nat.sub_zero]
              go_wp2_with fail
              go_ret
              exact ⟨by simp, B9.out⟩

end Go.Proofs.Ytgggjlmelnbgcaa.Md
