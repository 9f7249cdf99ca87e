/-
  DeadOwn, walked.
-/
import Derived.Test.YtfkmpegbidojoaaMdDSmall
import Derived.Test.YtfkmpegbidojoaaMdDOwnP
namespace Go.Proofs.Ytfkmpegbidojoaa.Md
open Go.RowKit
open Va
set_option linter.unusedVariables false
set_option linter.unusedSimpArgs false

set_option maxRecDepth 100000 in
set_option maxHeartbeats 8000000 in
theorem deadOwn_walk (l : List DeadP) (a : Option Addr) (cap : Nat) (x : DeadP) (ka : Option Addr) (kc : Nat) (fa : Option Addr) (fc : Nat) (w : World) (hl0 : l.length ≤ 281474976710656 ∧ l.length ≤ cap) (hx : DeadsAt w a l) (hb : ∀ y ∈ l, DBig y) (hxn : Num64 x.n) (hxr : Num64 x.reason) (hxm : MBig x.mail) (hka : ValsAt w ka x.mail.key) (hfa : ValsAt w fa x.mail.fields) :
    Calls Try.prog 5 #[.slice a l.length cap, .agg #[.int .i64 x.n, .int .i64 x.mail.id, .string (S x.mail.chan), .slice ka x.mail.key.length kc, .slice fa x.mail.fields.length fc, .int .i64 x.reason]] w fun e w' => e = .returned (.bool true) ∧ Below w.heap.size w w' := by
  have k0 := (Below.refl w.heap.size w).alloc (Nat.le_refl _) (.cells #[.int .i64 x.n, .int .i64 x.mail.id, .string (S x.mail.chan), .slice ka x.mail.key.length kc, .slice fa x.mail.fields.length fc, .int .i64 x.reason] 46)
  have h0 : BD (w.alloc (.cells #[.int .i64 x.n, .int .i64 x.mail.id, .string (S x.mail.chan), .slice ka x.mail.key.length kc, .slice fa x.mail.fields.length fc, .int .i64 x.reason] 46)) w.heap.size (.int .i64 x.n) (.int .i64 x.mail.id) (.string (S x.mail.chan)) (.slice ka x.mail.key.length kc) (.slice fa x.mail.fields.length fc) (.int .i64 x.reason) := heap_alloc_new w _
  obtain ⟨W0, hW0⟩ : ∃ W0, W0 = w.alloc (.cells #[.int .i64 x.n, .int .i64 x.mail.id, .string (S x.mail.chan), .slice ka x.mail.key.length kc, .slice fa x.mail.fields.length fc, .int .i64 x.reason] 46) := ⟨_, rfl⟩
  have HW0 := Lib.hid hW0
  rw [← hW0] at k0 h0
  have K0 := Lib.hid k0
  have D0 := Lib.hid h0
  have HX := Lib.hid hx
  have HBG := Lib.hid hb
  have HDX : Hid (DBig x) := Lib.hid ⟨hxn, hxr, hxm⟩
  have HKF := Lib.hid (And.intro hka hfa)
  have HLL := Lib.hid hl0
  have hl : l.length ≤ 281474976710656 := hl0.1
  have hli : (l.length : Int) ≤ 281474976710656 := by omega
  clear k0 h0 hW0 hx hb hxn hxr hxm hka hfa hl0
  go_enter Try.func5, Try.ntmps5
  go_wp2_with fail
  rw [← HW0.out]
  refine (awake19_any _).mono ?_
  rintro e w1 ⟨rfl, b1⟩
  have B1 := Lib.hid (K0.out.trans (b1.mono K0.out.size))
  have D1 := Lib.hid (D0.out.below b1)
  have HSM := Lib.hid (small_any l hl HBG.out a cap w1 (HX.out.below B1.out))
  clear b1
  cases hs1 : smallB l with
  | false =>
    rw [hs1] at HSM
    clear hs1
    go_wp2_with fail
    refine HSM.out.mono ?_
    rintro e w2 ⟨rfl, b2⟩
    have B2 := Lib.hid (B1.out.trans (b2.mono B1.out.size))
    clear b2
    go_wp2_with fail
    refine (awake19_any _).mono ?_
    rintro e w3 ⟨rfl, b3⟩
    have B3 := Lib.hid (B2.out.trans (b3.mono B2.out.size))
    clear b3
    go_wp2_with fail
    go_ret
    exact ⟨rfl, B3.out⟩
  | true =>
    rw [hs1] at HSM
    have HOK := Lib.hid (smallB_ok HBG.out hs1)
    have hl100 : l.length ≤ 100 := HOK.out.1
    clear hs1
    go_wp2_with fail
    refine HSM.out.mono ?_
    rintro e w2 ⟨rfl, b2⟩
    have B2 := Lib.hid (B1.out.trans (b2.mono B1.out.size))
    have D2 := Lib.hid (D1.out.below b2)
    clear b2
    have x0 := D2.out.c0
    have x1 := D2.out.c1
    have x2 := D2.out.c2
    have x3 := D2.out.c3
    have x4 := D2.out.c4
    have x5 := D2.out.c5
    have k3 := (Below.refl w2.heap.size w2).alloc (Nat.le_refl _) (.cells #[.int .i64 x.n, .int .i64 x.mail.id, .string (S x.mail.chan), .slice ka x.mail.key.length kc, .slice fa x.mail.fields.length fc, .int .i64 x.reason] 46)
    have B3 := Lib.hid (B2.out.trans (k3.mono B2.out.size))
    have D3 := Lib.hid (D2.out.below k3)
    have HS3 := Lib.hid (small_any [x] (by simp) (fun y hy => by
      have : y = x := by simpa using hy
      rw [this]; exact HDX.out) (some ⟨w2.heap.size, 0, none⟩) 1 (w2.alloc (.cells #[.int .i64 x.n, .int .i64 x.mail.id, .string (S x.mail.chan), .slice ka x.mail.key.length kc, .slice fa x.mail.fields.length fc, .int .i64 x.reason] 46)) (deads_one (HKF.out.1.below B3.out) (HKF.out.2.below B3.out)))
    clear k3
    cases hs2 : smallB [x] with
    | false =>
      rw [hs2] at HS3
      clear hs2
      go_wp2_with fail
      refine HS3.out.mono ?_
      rintro e w4 ⟨rfl, b4⟩
      have B4 := Lib.hid (B3.out.trans (b4.mono B3.out.size))
      clear b4
      go_wp2_with fail
      refine (awake19_any _).mono ?_
      rintro e w5 ⟨rfl, b5⟩
      have B5 := Lib.hid (B4.out.trans (b5.mono B4.out.size))
      clear b5
      go_wp2_with fail
      go_ret
      exact ⟨rfl, B5.out⟩
    | true =>
      rw [hs2] at HS3
      have HXO := Lib.hid ((smallB_ok (l := [x]) (fun y hy => by
        have : y = x := by simpa using hy
        rw [this]; exact HDX.out) hs2).2 x (by simp))
      clear hs2
      go_wp2_with fail
      refine HS3.out.mono ?_
      rintro e w4 ⟨rfl, b4⟩
      have B4 := Lib.hid (B3.out.trans (b4.mono B3.out.size))
      have D4 := Lib.hid (D3.out.below b4)
      clear b4 x0 x1 x2 x3 x4 x5
      by_cases hl0 : l.length = 0
      · have hl0i : (l.length : Int) = 0 := by omega
        go_wp2_with fail
        refine (awake19_any _).mono ?_
        rintro e w5 ⟨rfl, b5⟩
        have B5 := Lib.hid (B4.out.trans (b5.mono B4.out.size))
        clear b5
        go_wp2_with fail
        go_ret
        exact ⟨rfl, B5.out⟩
      · have hpos : 0 < l.length := by omega
        have hposi : (0 : Int) < (l.length : Int) := by omega
        have hl0i : ¬ (l.length : Int) = 0 := by omega
        obtain ⟨b, off, _, _, _, _, hae, ⟨v0, _⟩, hbs⟩ := HX.out 0 hpos
        subst hae
        rw [Nat.zero_mul, Nat.add_zero] at v0
        have HV0 := Lib.hid v0
        have HBS := Lib.hid hbs
        have HFH := Lib.hid (findL_head hpos)
        obtain ⟨y, hy⟩ : ∃ y, y = l[0] := ⟨_, rfl⟩
        rw [← hy] at HV0 HFH
        have HYL : Hid (y.mail.fields.length ≤ 1000) := Lib.hid (by rw [hy]; exact (HOK.out.2 _ (List.getElem_mem _)).1.fields)
        clear v0 hbs hl0 hy
        have hokx : Dok ⟨x.n, x.mail, 1⟩ := ⟨⟨HXO.out.1.big.n, ⟨by show (-9223372036854775808 : Int) ≤ 1; decide, by show (1 : Int) ≤ 9223372036854775807; decide⟩, HXO.out.1.big.mail⟩, HXO.out.1.key, HXO.out.1.fields⟩
        obtain ⟨L, hL⟩ : ∃ L, L = putL l x.n x.mail 1 ((l.length : Int) + 1) := ⟨_, rfl⟩
        obtain ⟨PE, hPE⟩ : ∃ PE, PE = putE l x.n 1 ((l.length : Int) + 1) := ⟨_, rfl⟩
        have HPT := Lib.hid (fun W (k : Below w.heap.size w W) => show Calls Try.prog 21 #[.slice (some ⟨b, off, none⟩) l.length cap, .int .i64 x.n, .agg #[.int .i64 x.mail.id, .string (S x.mail.chan), .slice ka x.mail.key.length kc, .slice fa x.mail.fields.length fc], .int .i64 1, .int .i64 ((l.length : Int) + 1)] W fun e w' => (∃ q cp, e = .returned (.tuple #[.slice q L.length cp, .int .i64 PE]) ∧ DeadsAt w' q L ∧ ∃ d : List DK, d.map (·.x) = L ∧ MuD W.heap.size w' q d cp) ∧ Below W.heap.size W w' from
          (putS_any l (by omega) (fun y hy => (HOK.out.2 y hy).1) x.n x.mail 1 ((l.length : Int) + 1) hokx (some ⟨b, off, none⟩) cap ka kc fa fc W (HX.out.below k) (HKF.out.1.below k) (HKF.out.2.below k)).mono fun e w' ⟨h, b⟩ => ⟨by have h6 := h.flat; rwa [← hL, ← hPE] at h6, b⟩)
        have HLM : Hid (∀ z ∈ L, Msh z.mail ∧ z.mail.fields.length ≤ 1000) := Lib.hid (fun z hz => by
          rw [hL] at hz
          rcases putL_mem hz with h | rfl
          · exact ⟨(HOK.out.2 z h).2, (HOK.out.2 z h).1.fields⟩
          · exact ⟨HXO.out.2, hokx.fields⟩)
        have hLl : L.length ≤ 101 := by have := putL_len l x.n x.mail 1 ((l.length : Int) + 1); rw [← hL] at this; omega
        clear hL hPE hokx
        have DD := D4
        have x0 := DD.out.c0
        have x1 := DD.out.c1
        have x2 := DD.out.c2
        have x3 := DD.out.c3
        have x4 := DD.out.c4
        have x5 := DD.out.c5
        clear DD
        go_wp2_with fail
        refine (HPT.out w4 B4.out).mono ?_
        rintro e w5 ⟨⟨q5, c5, rfl, hr5, _⟩, b5⟩
        have B5 := Lib.hid (B4.out.trans (b5.mono B4.out.size))
        have D5 := Lib.hid (D4.out.below b5)
        have HR5 := Lib.hid hr5
        clear b5 hr5 x0 x1 x2 x3 x4 x5
        have DD := D5
        have x0 := DD.out.c0
        have x1 := DD.out.c1
        have x2 := DD.out.c2
        have x3 := DD.out.c3
        have x4 := DD.out.c4
        have x5 := DD.out.c5
        clear DD
        go_wp2_with fail
        refine (HPT.out w5 B5.out).mono ?_
        rintro e w6 ⟨⟨q6, c6, rfl, _, d, hd, hmu⟩, b6⟩
        have G6 := Lib.hid (show Below w5.heap.size w5 w6 from b6)
        have B6 := Lib.hid (B5.out.trans (b6.mono B5.out.size))
        have HMU6 := Lib.hid hmu
        have hdl : d.length = L.length := by rw [← hd]; simp
        have HD := Lib.hid hd
        clear b6 hmu hd x0 x1 x2 x3 x4 x5
        have p0 := (B6.out.cell (p := ⟨b, off, none⟩) HBS.out).trans HV0.out
        have HF := Lib.hid (find_any l (by omega) cap HLL.out.2 (fun y hy => (HOK.out.2 y hy).1) y.n (some ⟨b, off, none⟩) w6 (HX.out.below B6.out))
        rw [HFH.out] at HF
        go_wp2_with fail
        refine HF.out.mono ?_
        rintro e w7 ⟨⟨ky, cy, fy, dy, rfl, tk7, tf7⟩, b7⟩
        have G7 := G6.out.trans (b7.mono G6.out.size)
        have k8 := (Below.refl w7.heap.size w7).alloc (Nat.le_refl _) (.cells #[.int .i64 y.n, .int .i64 y.mail.id, .string (S y.mail.chan), .slice ky y.mail.key.length cy, .slice fy y.mail.fields.length dy, .int .i64 y.reason] 46)
        have h8 : BD (w7.alloc (.cells #[.int .i64 y.n, .int .i64 y.mail.id, .string (S y.mail.chan), .slice ky y.mail.key.length cy, .slice fy y.mail.fields.length dy, .int .i64 y.reason] 46)) w7.heap.size (.int .i64 y.n) (.int .i64 y.mail.id) (.string (S y.mail.chan)) (.slice ky y.mail.key.length cy) (.slice fy y.mail.fields.length dy) (.int .i64 y.reason) := heap_alloc_new w7 _
        have k9 := (Below.refl (w7.alloc (.cells #[.int .i64 y.n, .int .i64 y.mail.id, .string (S y.mail.chan), .slice ky y.mail.key.length cy, .slice fy y.mail.fields.length dy, .int .i64 y.reason] 46)).heap.size (w7.alloc (.cells #[.int .i64 y.n, .int .i64 y.mail.id, .string (S y.mail.chan), .slice ky y.mail.key.length cy, .slice fy y.mail.fields.length dy, .int .i64 y.reason] 46))).alloc (Nat.le_refl _) (.cells #[.int .i64 y.n, .int .i64 y.mail.id, .string (S y.mail.chan), .slice ky y.mail.key.length cy, .slice fy y.mail.fields.length dy, .int .i64 y.reason] 46)
        have r9 := rows_one (w7.alloc (.cells #[.int .i64 y.n, .int .i64 y.mail.id, .string (S y.mail.chan), .slice ky y.mail.key.length cy, .slice fy y.mail.fields.length dy, .int .i64 y.reason] 46)) ⟨y, ky, cy, fy, dy⟩ (w7.heap.size + 1) (by simp)
        have G8 := G7.trans (k8.mono G7.size)
        have G9 := G8.trans (k9.mono G8.size)
        have m9 := ((HMU6.out.below b7).below k8).below k9
        have n9 := ((NumRow.mono (TwR.nums tf7) (lo := w5.heap.size) G6.out.size).agree (fun g hg => k8.block g hg.lt)).agree (fun g hg => k9.block g hg.lt)
        obtain ⟨q9, c9, w9, hrun, hmu9, b9⟩ := m9.app G9.size (by omega) ⟨y, ky, cy, fy, dy⟩ (w7.heap.size + 1) r9 n9
        obtain ⟨Z, hZ⟩ : ∃ Z, Z = d ++ [(⟨y, ky, cy, fy, dy⟩ : DK)] := ⟨_, rfl⟩
        have hZl : Z.length = d.length + 1 := by rw [hZ]; simp
        have HZF : Hid (∀ z ∈ Z, z.x.mail.fields.length ≤ 1000) := Lib.hid (fun z hz => by
          rw [hZ] at hz
          rcases List.mem_append.1 hz with h | h
          · exact (HLM.out z.x (by rw [← HD.out]; exact List.mem_map.2 ⟨z, h, rfl⟩)).2
          · obtain rfl : z = ⟨y, ky, cy, fy, dy⟩ := by simpa using h
            exact HYL.out)
        rw [← hZ] at hmu9
        rw [← hZl, hdl] at hrun
        have hZi : Z.length ≤ 102 := by omega
        have HRUN := Lib.hid hrun
        have HMU9 := Lib.hid hmu9
        have HG9 := Lib.hid (G9.trans b9)
        have y0 := h8.c0
        have y1 := h8.c1
        have y2 := h8.c2
        have y3 := h8.c3
        have y4 := h8.c4
        have y5 := h8.c5
        clear hrun hmu9 b9 G7 k8 h8 k9 r9 G8 G9 m9 n9 tk7 tf7 b7 p0 hZ hZl hdl
        unfold dV
        go_wp2_with (at_builtin; refine wpList_app rfl _ _ _ _ rfl rfl rfl _ _ HRUN.out ?_)
        clear y0 y1 y2 y3 y4 y5
        go_loopw [71] (fun iv wq => ∃ k : Nat, k ≤ Z.length ∧ iv = .int .i64 k ∧ MuD w5.heap.size wq q9 Z c9 ∧ Below w5.heap.size w5 wq) (fun iv _ => Z.length - (intOf iv).toNat)
        case atStart => exact ⟨0, by omega, rfl, HMU9.out, HG9.out⟩
        case round =>
          obtain ⟨k2, hk2, rfl, hmu, hb3⟩ := hrel
          have HMU2 := Lib.hid hmu
          have HB3 := Lib.hid hb3
          by_cases hlt2 : k2 < Z.length
          · have hki2 : (k2 : Int) < (Z.length : Int) := by omega
            obtain ⟨g, hq, hg, hgb, v0, v1, v2, v3, v4, v5⟩ := hmu.cell k2 hlt2
            subst hq
            have hfl := HZF.out Z[k2] (List.getElem_mem _)
            obtain ⟨z, hz⟩ : ∃ z, z = Z[k2] := ⟨_, rfl⟩
            have HZM : Hid (z ∈ Z) := Lib.hid (by rw [hz]; exact List.getElem_mem _)
            rw [← hz] at v0 v1 v2 v3 v4 v5 hfl
            have hfi : (z.x.mail.fields.length : Int) ≤ 1000 := by omega
            obtain ⟨wo, rfl⟩ : ∃ wo, wo = wr := ⟨_, rfl⟩
            have kk := (Below.refl wo.heap.size wo).alloc (Nat.le_refl _) (.cells #[.int .i64 z.x.n, .int .i64 z.x.mail.id, .string (S z.x.mail.chan), .slice z.ka z.x.mail.key.length z.kc, .slice z.fa z.x.mail.fields.length z.fc, .int .i64 z.x.reason] 46)
            have m1 : BD (wo.alloc (.cells #[.int .i64 z.x.n, .int .i64 z.x.mail.id, .string (S z.x.mail.chan), .slice z.ka z.x.mail.key.length z.kc, .slice z.fa z.x.mail.fields.length z.fc, .int .i64 z.x.reason] 46)) wo.heap.size (.int .i64 z.x.n) (.int .i64 z.x.mail.id) (.string (S z.x.mail.chan)) (.slice z.ka z.x.mail.key.length z.kc) (.slice z.fa z.x.mail.fields.length z.fc) (.int .i64 z.x.reason) := heap_alloc_new wo _
            have e4 := m1.c4
            have M1 := Lib.hid m1
            have MU1 := Lib.hid (hmu.below kk)
            have BB1 := Lib.hid (hb3.trans (kk.mono hb3.size))
            clear hmu hb3 hz kk m1 hgb
            go_wp2_with fail
            go_loopw [79] (fun jv wq => ∃ j : Nat, j ≤ z.x.mail.fields.length ∧ jv = .int .i64 j ∧ BD wq wo.heap.size (.int .i64 z.x.n) (.int .i64 z.x.mail.id) (.string (S z.x.mail.chan)) (.slice z.ka z.x.mail.key.length z.kc) (.slice z.fa z.x.mail.fields.length z.fc) (.int .i64 z.x.reason) ∧ MuD w5.heap.size wq (some ⟨g, 0, none⟩) Z c9 ∧ Below w5.heap.size w5 wq) (fun jv _ => z.x.mail.fields.length - (intOf jv).toNat)
            case atStart => exact ⟨0, by omega, rfl, M1.out, MU1.out, BB1.out⟩
            case round =>
              obtain ⟨j, hj, rfl, hbm, hmu, hb3⟩ := hrel
              have HMU3 := Lib.hid hmu
              have HB4 := Lib.hid hb3
              by_cases hjl : j < z.x.mail.fields.length
              · have hji : (j : Int) < (z.x.mail.fields.length : Int) := by omega
                rcases hmu.nums z HZM.out with h0 | ⟨G, hfa, hG, hGb, hGc⟩
                · omega
                · obtain ⟨zz, hz⟩ := hGc j hjl
                  have p4 := hbm.c4
                  rw [hfa] at p4
                  have fz := hGb.frozen (j * 4 + 1)
                  have S1 := Lib.hid (fun zz => hmu.set G j zz hGb ⟨_, hz⟩)
                  have S2 := Lib.hid (fun zz => hb3.setCell (p := ⟨G, j * 4 + 1, none⟩) hG (.int .i64 zz))
                  have S3 := Lib.hid (fun zz => hbm.other (g := G) (o := j * 4 + 1) (v := .int .i64 zz) (by have := hbm.blk.apart hGb (by decide); exact this))
                  clear hbm hmu hb3 hfa hG hGb hGc
                  go_wp2_with fail
                  go_roundw
                  case rel => exact ⟨j + 1, by omega, by go_num, S3.out _, S1.out _, S2.out _⟩
                  case measure => simp [intOf]; omega
              · have hji : ¬ (j : Int) < (z.x.mail.fields.length : Int) := by omega
                clear hbm hmu hb3
                go_wp2_with fail
                go_roundw
                case rel => exact ⟨k2 + 1, by omega, by go_num, HMU3.out, HB4.out⟩
                case measure => simp [intOf]; omega
          · have hki2 : ¬ (k2 : Int) < (Z.length : Int) := by omega
            obtain ⟨wz, rfl⟩ : ∃ wz, wz = wr := ⟨_, rfl⟩
            have B10 := Lib.hid (B5.out.trans (hb3.mono B5.out.size))
            have DD := Lib.hid (D5.out.below hb3)
            have HR10 := Lib.hid (HR5.out.below hb3)
            clear hmu hb3
            have x0 := DD.out.c0
            have x1 := DD.out.c1
            have x2 := DD.out.c2
            have x3 := DD.out.c3
            have x4 := DD.out.c4
            have x5 := DD.out.c5
            clear DD
            go_wp2_with fail
            refine (HPT.out wz B10.out).mono ?_
            rintro e w11 ⟨⟨q11, c11, rfl, hr11, _⟩, b11⟩
            have B11 := Lib.hid (B10.out.trans (b11.mono B10.out.size))
            have HR11 := Lib.hid (HR10.out.below b11)
            have HQ11 := Lib.hid hr11
            clear b11 hr11 x0 x1 x2 x3 x4 x5
            go_wp2_with fail
            refine (awake19_any _).mono ?_
            rintro e w12 ⟨rfl, b12⟩
            have B12 := Lib.hid (B11.out.trans (b12.mono B11.out.size))
            have HSM2 := Lib.hid (same_refl L (fun z hz => (HLM.out z hz).1) (by omega) q5 q11 c5 c11 w12 (HR11.out.below b12) (HQ11.out.below b12))
            clear b12
            go_wp2_with fail
            refine HSM2.out.mono ?_
            rintro e w13 ⟨rfl, b13⟩
            have B13 := Lib.hid (B12.out.trans (b13.mono B12.out.size))
            clear b13
            go_wp2_with fail
            go_ret
            exact ⟨by simp, B13.out⟩

end Go.Proofs.Ytfkmpegbidojoaa.Md
