/-
  MailPlays, walked.
-/
import Derived.Test.YtfkmpegbidojoaaMdPlaysP
namespace Go.Proofs.Ytfkmpegbidojoaa.Md
open Go.RowKit
open Va
set_option linter.unusedVariables false
set_option linter.unusedSimpArgs false

set_option maxRecDepth 100000 in
set_option maxHeartbeats 8000000 in
theorem mailPlays_walk (most : Int) (l : List ActP) (a : Option Addr) (cap : Nat) (w : World) (hm : Num64 most) (hl : l.length ≤ 281474976710656) (hx : ActsAt w a l) (hb : ∀ x ∈ l, ABig x) :
    Calls Try.prog 3 #[.int .i64 most, .slice a l.length cap] w fun e w' => e = .returned (.bool true) ∧ Below w.heap.size w w' := by
  have HX := Lib.hid hx
  have HBIG := Lib.hid hb
  have HM := Lib.hid hm
  have hli : (l.length : Int) ≤ 281474976710656 := by omega
  clear hx hb hm
  go_enter Try.func3, Try.ntmps3
  go_wp2_with fail
  refine (awake18_any _).mono ?_
  rintro e w1 ⟨rfl, b1⟩
  have B1 := Lib.hid b1
  clear b1
  by_cases hbig : l.length ≤ 60
  rotate_left
  · have hbi : (l.length : Int) > 60 := by omega
    go_wp2_with fail
    refine (awake18_any _).mono ?_
    rintro e w2 ⟨rfl, b2⟩
    have B2 := Lib.hid (B1.out.trans (b2.mono B1.out.size))
    clear b2
    go_wp2_with fail
    go_ret
    exact ⟨rfl, B2.out⟩
  · have hbi : ¬ (l.length : Int) > 60 := by omega
    go_wp2_with fail
    refine (new_any most HM.out w1).mono ?_
    rintro e w2 ⟨⟨rfl, bx⟩, b2⟩
    have HBX := Lib.hid bx
    have B2 := Lib.hid (B1.out.trans (b2.mono B1.out.size))
    clear bx b2
    go_wp2_with fail
    refine (refNew_any most HM.out w2).mono ?_
    rintro e w3 ⟨rfl, rfl⟩
    have k3 := (Below.refl w2.heap.size w2).alloc (Nat.le_refl _) (.cells #[.slice none 0 0, .int .i64 (capN most : Nat)] 41)
    have B3 := Lib.hid (B2.out.trans (k3.mono B2.out.size))
    have BX3 := Lib.hid (HBX.out.below k3)
    have hbl := HBX.out.lt
    have RF3 := Lib.hid (show RefAt w1.heap.size (w2.alloc (.cells #[.slice none 0 0, .int .i64 (capN most : Nat)] 41)) w2.heap.size (capN most) none 0 [] from ⟨heap_alloc_new w2 _, ⟨.inl ⟨rfl, rfl, rfl⟩⟩, by omega⟩)
    have HCP := Lib.hid BX3.out.cap_le
    have hcp : capN most ≤ 4096 := HCP.out
    have HW1 := Lib.hid B1.out.size
    have hrg : w1.heap.size ≤ w2.heap.size := by omega
    obtain ⟨b, hbe⟩ : ∃ b, b = w1.heap.size + 1 := ⟨_, rfl⟩
    obtain ⟨CP, hCP⟩ : ∃ CP, CP = capN most := ⟨_, rfl⟩
    have hbl1 : w1.heap.size < b := by omega
    rw [← hbe] at BX3 ⊢
    rw [← hCP] at BX3 RF3 hcp B3 ⊢
    obtain ⟨W3, hW3⟩ : ∃ W3, W3 = w2.alloc (.cells #[.slice none 0 0, .int .i64 (CP : Nat)] 41) := ⟨_, rfl⟩
    have HW3 := Lib.hid hW3
    rw [← hW3] at BX3 RF3 B3
    obtain ⟨r, hre⟩ : ∃ r, r = w2.heap.size := ⟨_, rfl⟩
    have hlr : w1.heap.size ≤ r := by omega
    rw [← hre] at RF3 ⊢
    clear k3 HBX hbl hrg hbe hCP HCP hW3 hre HM
    obtain ⟨lo, hlo⟩ : ∃ lo, lo = w1.heap.size := ⟨_, rfl⟩
    have HLO : Hid (w.heap.size ≤ lo) := Lib.hid (by rw [hlo]; exact HW1.out)
    rw [← hlo] at BX3 RF3 hlr
    have hlr := Lib.hid hlr
    clear hlo hbl1 HW1 B2
    go_wp2_with fail
    rw [← HW3.out]
    go_loopw [25] (fun iv wq => ∃ k : Nat, k ≤ l.length ∧ iv = .int .i64 k ∧ ∃ q c d, BoxAt lo wq b lo CP (d.map (·.m)) ∧ RefAt lo wq r CP q c d ∧ Below w.heap.size w wq ∧ d.length ≤ k ∧ Hid (Vl w d)) (fun iv _ => l.length - (intOf iv).toNat)
    case atStart => exact ⟨0, by omega, rfl, none, 0, [], BX3.out, RF3.out, B3.out, Nat.le_refl _, Lib.hid (Vl.nil _)⟩
    case round =>
      obtain ⟨k, hk, rfl, q, c, d, bx, rf, hbl, hdk, hvl⟩ := hrel
      have BX := Lib.hid bx
      have RF := Lib.hid rf
      have HBL := Lib.hid hbl
      have hd60 : d.length ≤ 60 := by omega
      have HLOS := Lib.hid (show lo ≤ wr.heap.size from Nat.le_trans rf.gr (Nat.le_of_lt rf.lt))
      clear BX3 RF3 B3
      by_cases hlt : k < l.length
      · have hki : (k : Int) < (l.length : Int) := by omega
        obtain ⟨ba, off, ka, kc, fa, fc, rfl, hv, hbs⟩ := HX.out k hlt
        obtain ⟨v0, v1, v2, v3, v4, hka, hfa⟩ := hv
        have okx := HBIG.out l[k] (List.getElem_mem _)
        obtain ⟨x, hxe⟩ : ∃ x, x = l[k] := ⟨_, rfl⟩
        rw [← hxe] at v0 v1 v2 v3 v4 hka hfa okx
        have p0 := (hbl.cell (p := ⟨ba, off + k * 5, none⟩) hbs).trans v0
        have p1 := (hbl.cell (p := ⟨ba, off + k * 5 + 1, none⟩) hbs).trans v1
        have p2 := (hbl.cell (p := ⟨ba, off + k * 5 + 2, none⟩) hbs).trans v2
        have p3 := (hbl.cell (p := ⟨ba, off + k * 5 + 3, none⟩) hbs).trans v3
        have p4 := (hbl.cell (p := ⟨ba, off + k * 5 + 4, none⟩) hbs).trans v4
        obtain ⟨wo, rfl⟩ : ∃ wo, wo = wr := ⟨_, rfl⟩
        have kk := (Below.refl wo.heap.size wo).alloc (Nat.le_refl _) (.cells #[.int .i64 x.what, .int .i64 x.m.id, .string (S x.m.chan), .slice ka x.m.key.length kc, .slice fa x.m.fields.length fc] 32)
        have m1 : BA (wo.alloc (.cells #[.int .i64 x.what, .int .i64 x.m.id, .string (S x.m.chan), .slice ka x.m.key.length kc, .slice fa x.m.fields.length fc] 32)) wo.heap.size (.int .i64 x.what) (.int .i64 x.m.id) (.string (S x.m.chan)) (.slice ka x.m.key.length kc) (.slice fa x.m.fields.length fc) := heap_alloc_new wo _
        have e1 := m1.c1
        have e2 := m1.c2
        have e3 := m1.c3
        have e4 := m1.c4
        have BX1 := bx.below kk
        have RF1 := rf.below kk
        have BL1 := hbl.trans (kk.mono hbl.size)
        obtain ⟨W1, hW1⟩ : ∃ W1, W1 = wo.alloc (.cells #[.int .i64 x.what, .int .i64 x.m.id, .string (S x.m.chan), .slice ka x.m.key.length kc, .slice fa x.m.fields.length fc] 32) := ⟨_, rfl⟩
        have HWA := Lib.hid hW1
        rw [← hW1] at m1 BX1 RF1 BL1
        have MA1 := Lib.hid m1
        have BX1 := Lib.hid BX1
        have RF1 := Lib.hid RF1
        have BL1 := Lib.hid BL1
        have HOK := Lib.hid okx
        have HKF := Lib.hid (And.intro hka hfa)
        have HSM := Lib.hid (short_any x.m okx.m ka kc fa fc W1)
        clear bx rf hbl v0 v1 v2 v3 v4 hka hfa okx hxe kk m1 hW1 hbs BX RF HBL
        cases hs : shortB x.m with
        | false =>
          rw [hs] at HSM
          clear hs
          go_wp2_with fail
          rw [← HWA.out]
          refine HSM.out.mono ?_
          rintro e w3 ⟨rfl, b3⟩
          have B3 := Lib.hid (BL1.out.trans (b3.mono BL1.out.size))
          clear b3
          go_wp2_with fail
          refine (awake18_any _).mono ?_
          rintro e w4 ⟨rfl, b4⟩
          have B4 := Lib.hid (B3.out.trans (b4.mono B3.out.size))
          clear b4
          go_wp2_with fail
          go_ret
          exact ⟨rfl, B4.out⟩
        | true =>
          rw [hs] at HSM
          have HMSH := Lib.hid (shortB_ok HOK.out.m hs)
          clear hs
          go_wp2_with fail
          rw [← HWA.out]
          refine HSM.out.mono ?_
          rintro e wA ⟨rfl, b3⟩
          have B := Lib.hid (BL1.out.trans (b3.mono BL1.out.size))
          have BX := Lib.hid (BX1.out.below b3)
          have RF := Lib.hid (RF1.out.below b3)
          have MA := Lib.hid (MA1.out.below b3)
          have LOS := Lib.hid (Nat.le_trans RF.out.gr (Nat.le_of_lt RF.out.lt))
          obtain ⟨H, hH⟩ : ∃ H, H = wo.heap.size := ⟨_, rfl⟩
          rw [← hH] at MA ⊢
          clear b3 hH e1 e2 e3 e4 p0 p1 p2 p3 p4 BX1 RF1 MA1 BL1 HSM HWA
          have x0 := MA.out.c0
          obtain ⟨T, hT⟩ : ∃ T, T = Int.tmod x.what 4 := ⟨_, rfl⟩
          go_wp2_with fail

          · skip
            cases d with
            | nil =>
              refine (take_any (l := []) BX.out).mono ?_
              rintro e w4 ⟨⟨rfl, bx4⟩, o4⟩
              unfold zM
              have rf4 := RF.out.onl BX.out.nochan o4
              have b4 := o4.then B.out HLO.out B.out.size
              have k5 := (Below.refl w4.heap.size w4).alloc (Nat.le_refl _) (.cells #[.int .i64 0, .string ⟨#[]⟩, .slice none 0 0, .slice none 0 0] 30)
              have m5 : BM (w4.alloc (.cells #[.int .i64 0, .string ⟨#[]⟩, .slice none 0 0, .slice none 0 0] 30)) w4.heap.size _ _ _ _ := heap_alloc_new w4 _
              obtain ⟨W5, hW5⟩ : ∃ W5, W5 = w4.alloc (.cells #[.int .i64 0, .string ⟨#[]⟩, .slice none 0 0, .slice none 0 0] 30) := ⟨_, rfl⟩
              have HW5 := Lib.hid hW5
              rw [← hW5] at k5 m5
              have RF5 := Lib.hid (rf4.below k5)
              have BX5 := Lib.hid (bx4.below k5)
              have B5 := Lib.hid (b4.trans (k5.mono b4.size))
              have M5 := Lib.hid m5
              have HN5 := Lib.hid (show w4.heap.size ≠ r from fun e => by have := rf4.lt; omega)
              have HQ5 := Lib.hid (rf4.row.fresh (Nat.le_refl _))
              obtain ⟨H4, hH4⟩ : ∃ H4, H4 = w4.heap.size := ⟨_, rfl⟩
              have HH4 := Lib.hid hH4
              rw [← hH4] at M5 HN5 HQ5
              clear rf4 b4 k5 m5 hW5 bx4 o4 hH4 x0
              go_wp2_with fail
              rw [← HW5.out]
              refine (refTake_any RF5.out (by simp at hd60 ⊢; try omega)).mono ?_
              rintro e w6 ⟨⟨rfl, rf6⟩, g6⟩
              unfold zM
              rw [← HH4.out]
              have m6 := M5.out.chg HN5.out HQ5.out g6
              have bx6 := BX5.out.chg RF5.out.blk RF5.out.row g6
              have b6 := Chg.then B5.out g6 RF5.out.row HLO.out (Nat.le_trans HLO.out hlr.out) B5.out.size
              have k7 := (Below.refl w6.heap.size w6).alloc (Nat.le_refl _) (.cells #[.int .i64 0, .string ⟨#[]⟩, .slice none 0 0, .slice none 0 0] 30)
              have m7 : BM (w6.alloc (.cells #[.int .i64 0, .string ⟨#[]⟩, .slice none 0 0, .slice none 0 0] 30)) w6.heap.size _ _ _ _ := heap_alloc_new w6 _
              have q0 := fun o => (m6.below ((Below.refl w6.heap.size w6).alloc (Nat.le_refl _) o)).c0
              have q1 := fun o => (m6.below ((Below.refl w6.heap.size w6).alloc (Nat.le_refl _) o)).c1
              have q2 := fun o => (m6.below ((Below.refl w6.heap.size w6).alloc (Nat.le_refl _) o)).c2
              have q3 := fun o => (m6.below ((Below.refl w6.heap.size w6).alloc (Nat.le_refl _) o)).c3
              have n0 := m7.c0
              have n1 := m7.c1
              have n2 := m7.c2
              have n3 := m7.c3
              have B7 := Lib.hid (b6.trans (k7.mono b6.size))
              have BX7 := Lib.hid (bx6.below k7)
              have RF7 := Lib.hid (rf6.below k7)
              have HSM := Lib.hid (sameZ_any (w6.alloc (.cells #[.int .i64 0, .string ⟨#[]⟩, .slice none 0 0, .slice none 0 0] 30)))
              unfold zM at HSM
              clear m6 bx6 b6 k7 m7 rf6 g6
              go_wp2_with fail
              refine HSM.out.mono ?_
              rintro e w8 ⟨rfl, b8⟩
              have BX := Lib.hid (BX7.out.below b8)
              have RF := Lib.hid (RF7.out.below b8)
              have B := Lib.hid (B7.out.trans (b8.mono B7.out.size))
              skip
              clear b8 q0 q1 q2 q3 n0 n1 n2 n3 BX7 RF7 B7
              go_wp2_with fail
              obtain ⟨d0, hd0⟩ : ∃ d0 : List MK, d0 = [] := ⟨_, rfl⟩
              have BX : Hid (BoxAt lo w8 b lo CP (d0.map (·.m))) := Lib.hid (by rw [hd0]; exact BX.out)
              have RF : Hid (RefAt lo w8 r CP q c d0) := Lib.hid (by rw [hd0]; exact RF.out)
              have HV : Hid (Vl w d0) := Lib.hid (by rw [hd0]; exact hvl.out)
              have hdn0 : d0.length ≤ k + 1 := by rw [hd0]; simp
              clear hd0
              have kd : Below w8.heap.size w8 w8.drew := ⟨rfl, rfl, rfl, Nat.le_refl _, fun _ _ => rfl⟩
              have hdn : d0.length ≤ k + 1 := hdn0
              have hcp2 : d0.length ≤ CP := by have := BX.out.room; simpa using this
              have HLN := Lib.hid (len_any (BX.out.below kd))
              have HRM := Lib.hid (room_any (BX.out.below kd))
              rw [List.length_map] at HLN HRM
              rw [show ((CP - d0.length : Nat) : Int) = (CP : Int) - (d0.length : Int) by omega] at HRM
              have HST := Lib.hid (show w8.drew.cell? ⟨r, 0, none⟩ = some (.slice q d0.length c) ∧ w8.drew.cell? ⟨r, 1, none⟩ = some (.int .i64 CP) from ⟨(RF.out.below kd).c0, (RF.out.below kd).c1⟩)
              have RFD := Lib.hid (RF.out.below kd)
              have BXD := Lib.hid (BX.out.below kd)
              have BD := Lib.hid (B.out.trans (kd.mono B.out.size))
              have HK0 := Lib.hid (show w8.drew.cell? ⟨r, 0, none⟩ = some (.slice q d0.length c) ∧ w8.drew.cell? ⟨r, 1, none⟩ = some (.int .i64 CP) from HST.out)
              have hdi : (d0.length : Int) ≤ (CP : Int) := by omega
              have hci : (CP : Int) ≤ 4096 := by omega
              clear kd
              refine wp_region_held_drew (S := (fun w7 => w7.cell? ⟨r, 0, none⟩ = some (.slice q d0.length c) ∧ w7.cell? ⟨r, 1, none⟩ = some (.int .i64 CP))) (by kernel_rfl) (by (try dsimp only); exact HST.out) (fun hHeld => ?_)
              refine takeW (v := ?_) 0 (by decide +kernel) (by decide +kernel) (by kernel_rfl) (by simp only [List.getElem?_toArray, List.getElem?_cons_succ, List.getElem?_cons_zero]; rfl) (by rfl) (by exact fun _ _ _ h => h) (by assumption) ?_ ?_
              rotate_left 1
              focus (intro w8 hSw; (try dsimp only at hSw); obtain ⟨s80, s81⟩ := hSw; go_simp; (try with_reducible rfl); done)
              try simp only [Act.put, List.setIfInBounds_toArray, List.set_cons_zero, List.set_cons_succ]
              refine takeW (v := ?_) 2 (by decide +kernel) (by decide +kernel) (by kernel_rfl) (by simp only [List.getElem?_toArray, List.getElem?_cons_succ, List.getElem?_cons_zero]; rfl) (by rfl) (by exact fun _ _ _ h => h) (by assumption) ?_ ?_
              rotate_left 1
              focus (intro w8 hSw; (try dsimp only at hSw); obtain ⟨s80, s81⟩ := hSw; go_simp; (try with_reducible rfl); done)
              try simp only [Act.put, List.setIfInBounds_toArray, List.set_cons_zero, List.set_cons_succ]
              refine takeW (v := ?_) 3 (by decide +kernel) (by decide +kernel) (by kernel_rfl) (by simp only [List.getElem?_toArray, List.getElem?_cons_succ, List.getElem?_cons_zero]; rfl) (by rfl) (by exact fun _ _ _ h => h) (by assumption) ?_ ?_
              rotate_left 1
              focus (intro w8 hSw; (try dsimp only at hSw); obtain ⟨s80, s81⟩ := hSw; go_simp; (try with_reducible rfl); done)
              try simp only [Act.put, List.setIfInBounds_toArray, List.set_cons_zero, List.set_cons_succ]
              refine takeW (v := ?_) 4 (by decide +kernel) (by decide +kernel) (by kernel_rfl) (by simp only [List.getElem?_toArray, List.getElem?_cons_succ, List.getElem?_cons_zero]; rfl) (by rfl) (by exact fun _ _ _ h => h) (by assumption) ?_ ?_
              rotate_left 1
              focus (intro w8 hSw; (try dsimp only at hSw); obtain ⟨s80, s81⟩ := hSw; go_simp; (try with_reducible rfl); done)
              try simp only [Act.put, List.setIfInBounds_toArray, List.set_cons_zero, List.set_cons_succ]
              refine takeW (v := ?_) 5 (by decide +kernel) (by decide +kernel) (by kernel_rfl) (by simp only [List.getElem?_toArray, List.getElem?_cons_succ, List.getElem?_cons_zero]; rfl) (by rfl) (by exact fun _ _ _ h => h) (by assumption) ?_ ?_
              rotate_left 1
              focus (intro w8 hSw; (try dsimp only at hSw); obtain ⟨s80, s81⟩ := hSw; go_simp; (try with_reducible rfl); done)
              try simp only [Act.put, List.setIfInBounds_toArray, List.set_cons_zero, List.set_cons_succ]
              refine takeW (v := ?_) 6 (by decide +kernel) (by decide +kernel) (by kernel_rfl) (by simp only [List.getElem?_toArray, List.getElem?_cons_succ, List.getElem?_cons_zero]; rfl) (by rfl) (by exact fun _ _ _ h => h) (by assumption) ?_ ?_
              rotate_left 1
              focus (intro w8 hSw; (try dsimp only at hSw); obtain ⟨s80, s81⟩ := hSw; go_simp; (try with_reducible rfl); done)
              try simp only [Act.put, List.setIfInBounds_toArray, List.set_cons_zero, List.set_cons_succ]
              refine wpAnyH_ready (rs := [1]) (by decide +kernel) (by simp) ?_
              refine AllReadyH.cons (by simp only [List.getElem?_toArray, List.getElem?_cons_succ, List.getElem?_cons_zero]; rfl) (fun K hK => ?_) AllReadyH.nil
              go_simp
              (go_at_call 17; with_reducible refine (HLN.out).mono ?_; rintro e w7 ⟨rfl, rfl⟩)
              go_wp2_with fail
              refine hK.out _ _ (by (try dsimp only); (first | assumption | exact HK0.out)) (fun hHeld => ?_)
              clear hK K
              try simp only [Act.put, List.setIfInBounds_toArray, List.set_cons_zero, List.set_cons_succ]
              refine takeW (v := .bool false) 7 (by decide +kernel) (by decide +kernel) (by kernel_rfl) (by simp only [List.getElem?_toArray, List.getElem?_cons_succ, List.getElem?_cons_zero]; rfl) (by rfl) (by exact fun _ _ _ h => h) (by assumption) ?_ ?_
              focus (intro w8 hSw; (try dsimp only at hSw); obtain ⟨s80, s81⟩ := hSw; go_simp; (try simp))
              try simp only [Act.put, List.setIfInBounds_toArray, List.set_cons_zero, List.set_cons_succ]
              refine takeW (v := ?_) 8 (by decide +kernel) (by decide +kernel) (by kernel_rfl) (by simp only [List.getElem?_toArray, List.getElem?_cons_succ, List.getElem?_cons_zero]; rfl) (by rfl) (by exact fun _ _ _ h => h) (by assumption) ?_ ?_
              rotate_left 1
              focus (intro w8 hSw; (try dsimp only at hSw); obtain ⟨s80, s81⟩ := hSw; go_simp; (try with_reducible rfl); done)
              try simp only [Act.put, List.setIfInBounds_toArray, List.set_cons_zero, List.set_cons_succ]
              refine takeW (v := ?_) 9 (by decide +kernel) (by decide +kernel) (by kernel_rfl) (by simp only [List.getElem?_toArray, List.getElem?_cons_succ, List.getElem?_cons_zero]; rfl) (by rfl) (by exact fun _ _ _ h => h) (by assumption) ?_ ?_
              rotate_left 1
              focus (intro w8 hSw; (try dsimp only at hSw); obtain ⟨s80, s81⟩ := hSw; go_simp; (try with_reducible rfl); done)
              try simp only [Act.put, List.setIfInBounds_toArray, List.set_cons_zero, List.set_cons_succ]
              refine takeW (v := ?_) 11 (by decide +kernel) (by decide +kernel) (by kernel_rfl) (by simp only [List.getElem?_toArray, List.getElem?_cons_succ, List.getElem?_cons_zero]; rfl) (by rfl) (by exact fun _ _ _ h => h) (by assumption) ?_ ?_
              rotate_left 1
              focus (intro w8 hSw; (try dsimp only at hSw); obtain ⟨s80, s81⟩ := hSw; go_simp; (try with_reducible rfl); done)
              try simp only [Act.put, List.setIfInBounds_toArray, List.set_cons_zero, List.set_cons_succ]
              refine takeW (v := ?_) 12 (by decide +kernel) (by decide +kernel) (by kernel_rfl) (by simp only [List.getElem?_toArray, List.getElem?_cons_succ, List.getElem?_cons_zero]; rfl) (by rfl) (by exact fun _ _ _ h => h) (by assumption) ?_ ?_
              rotate_left 1
              focus (intro w8 hSw; (try dsimp only at hSw); obtain ⟨s80, s81⟩ := hSw; go_simp; (try with_reducible rfl); done)
              try simp only [Act.put, List.setIfInBounds_toArray, List.set_cons_zero, List.set_cons_succ]
              refine takeW (v := ?_) 13 (by decide +kernel) (by decide +kernel) (by kernel_rfl) (by simp only [List.getElem?_toArray, List.getElem?_cons_succ, List.getElem?_cons_zero]; rfl) (by rfl) (by exact fun _ _ _ h => h) (by assumption) ?_ ?_
              rotate_left 1
              focus (intro w8 hSw; (try dsimp only at hSw); obtain ⟨s80, s81⟩ := hSw; go_simp; (try with_reducible rfl); done)
              try simp only [Act.put, List.setIfInBounds_toArray, List.set_cons_zero, List.set_cons_succ]
              refine takeW (v := ?_) 14 (by decide +kernel) (by decide +kernel) (by kernel_rfl) (by simp only [List.getElem?_toArray, List.getElem?_cons_succ, List.getElem?_cons_zero]; rfl) (by rfl) (by exact fun _ _ _ h => h) (by assumption) ?_ ?_
              rotate_left 1
              focus (intro w8 hSw; (try dsimp only at hSw); obtain ⟨s80, s81⟩ := hSw; go_simp; (try with_reducible rfl); done)
              try simp only [Act.put, List.setIfInBounds_toArray, List.set_cons_zero, List.set_cons_succ]
              refine takeW (v := ?_) 15 (by decide +kernel) (by decide +kernel) (by kernel_rfl) (by simp only [List.getElem?_toArray, List.getElem?_cons_succ, List.getElem?_cons_zero]; rfl) (by rfl) (by exact fun _ _ _ h => h) (by assumption) ?_ ?_
              rotate_left 1
              focus (intro w8 hSw; (try dsimp only at hSw); obtain ⟨s80, s81⟩ := hSw; go_simp; (try with_reducible rfl); done)
              try simp only [Act.put, List.setIfInBounds_toArray, List.set_cons_zero, List.set_cons_succ]
              refine takeW (v := ?_) 16 (by decide +kernel) (by decide +kernel) (by kernel_rfl) (by simp only [List.getElem?_toArray, List.getElem?_cons_succ, List.getElem?_cons_zero]; rfl) (by rfl) (by exact fun _ _ _ h => h) (by assumption) ?_ ?_
              rotate_left 1
              focus (intro w8 hSw; (try dsimp only at hSw); obtain ⟨s80, s81⟩ := hSw; go_simp; (try with_reducible rfl); done)
              try simp only [Act.put, List.setIfInBounds_toArray, List.set_cons_zero, List.set_cons_succ]
              refine takeW (v := ?_) 17 (by decide +kernel) (by decide +kernel) (by kernel_rfl) (by simp only [List.getElem?_toArray, List.getElem?_cons_succ, List.getElem?_cons_zero]; rfl) (by rfl) (by exact fun _ _ _ h => h) (by assumption) ?_ ?_
              rotate_left 1
              focus (intro w8 hSw; (try dsimp only at hSw); obtain ⟨s80, s81⟩ := hSw; go_simp; (try with_reducible rfl); done)
              try simp only [Act.put, List.setIfInBounds_toArray, List.set_cons_zero, List.set_cons_succ]
              refine takeW (v := ?_) 18 (by decide +kernel) (by decide +kernel) (by kernel_rfl) (by simp only [List.getElem?_toArray, List.getElem?_cons_succ, List.getElem?_cons_zero]; rfl) (by rfl) (by exact fun _ _ _ h => h) (by assumption) ?_ ?_
              rotate_left 1
              focus (intro w8 hSw; (try dsimp only at hSw); obtain ⟨s80, s81⟩ := hSw; go_simp; (try with_reducible rfl); done)
              try simp only [Act.put, List.setIfInBounds_toArray, List.set_cons_zero, List.set_cons_succ]
              refine takeW (v := ?_) 19 (by decide +kernel) (by decide +kernel) (by kernel_rfl) (by simp only [List.getElem?_toArray, List.getElem?_cons_succ, List.getElem?_cons_zero]; rfl) (by rfl) (by exact fun _ _ _ h => h) (by assumption) ?_ ?_
              rotate_left 1
              focus (intro w8 hSw; (try dsimp only at hSw); obtain ⟨s80, s81⟩ := hSw; go_simp; (try with_reducible rfl); done)
              try simp only [Act.put, List.setIfInBounds_toArray, List.set_cons_zero, List.set_cons_succ]
              refine takeW (v := ?_) 20 (by decide +kernel) (by decide +kernel) (by kernel_rfl) (by simp only [List.getElem?_toArray, List.getElem?_cons_succ, List.getElem?_cons_zero]; rfl) (by rfl) (by exact fun _ _ _ h => h) (by assumption) ?_ ?_
              rotate_left 1
              focus (intro w8 hSw; (try dsimp only at hSw); obtain ⟨s80, s81⟩ := hSw; go_simp; (try with_reducible rfl); done)
              try simp only [Act.put, List.setIfInBounds_toArray, List.set_cons_zero, List.set_cons_succ]
              refine wpAnyH_ready (rs := [10]) (by decide +kernel) (by simp) ?_
              refine AllReadyH.cons (by simp only [List.getElem?_toArray, List.getElem?_cons_succ, List.getElem?_cons_zero]; rfl) (fun K hK => ?_) AllReadyH.nil
              go_simp
              (go_at_call 18; with_reducible refine (HRM.out).mono ?_; rintro e w7 ⟨rfl, b7⟩)
              have BX7 := Lib.hid (BXD.out.below b7)
              have RF7 := Lib.hid (RFD.out.below b7)
              have B7 := Lib.hid (BD.out.trans (b7.mono BD.out.size))
              have HK7 := Lib.hid (show w7.cell? ⟨r, 0, none⟩ = some (.slice q d0.length c) ∧ w7.cell? ⟨r, 1, none⟩ = some (.int .i64 CP) from ⟨RF7.out.c0, RF7.out.c1⟩)
              clear b7
              go_wp2_with fail
              refine hK.out _ _ (by (try dsimp only); (first | assumption | exact HK7.out)) (fun hHeld => ?_)
              clear hK K
              try simp only [Act.put, List.setIfInBounds_toArray, List.set_cons_zero, List.set_cons_succ]
              refine takeW (v := .bool false) 21 (by decide +kernel) (by decide +kernel) (by kernel_rfl) (by simp only [List.getElem?_toArray, List.getElem?_cons_succ, List.getElem?_cons_zero]; rfl) (by rfl) (by exact fun _ _ _ h => h) (by assumption) ?_ ?_
              focus (intro w8 hSw; (try dsimp only at hSw); obtain ⟨s80, s81⟩ := hSw; go_simp; (try simp); (try rw [IntKind.wrap_i64]); (try omega))
              try simp only [Act.put, List.setIfInBounds_toArray, List.set_cons_zero, List.set_cons_succ]
              refine takeW (v := ?_) 22 (by decide +kernel) (by decide +kernel) (by kernel_rfl) (by simp only [List.getElem?_toArray, List.getElem?_cons_succ, List.getElem?_cons_zero]; rfl) (by rfl) (by exact fun _ _ _ h => h) (by assumption) ?_ ?_
              rotate_left 1
              focus (intro w8 hSw; (try dsimp only at hSw); obtain ⟨s80, s81⟩ := hSw; go_simp; (try with_reducible rfl); done)
              try simp only [Act.put, List.setIfInBounds_toArray, List.set_cons_zero, List.set_cons_succ]
              refine wpAnyH_done (by decide +kernel) ?_ _
              go_wp2_with fail
              go_roundw
              case rel => exact ⟨k + 1, by omega, by go_num, q, c, d0, BX7.out, RF7.out, B7.out, hdn, HV⟩
              case measure => simp [intOf]; omega
            | cons y t =>
              refine (take_any (l := y.m :: t.map (·.m)) BX.out).mono ?_
              rintro e w4 ⟨⟨ka4, kc4, fa4, fc4, rfl, tk4, tf4, bx4⟩, o4⟩
              unfold mV
              have rf4 := RF.out.onl BX.out.nochan o4
              have b4 := o4.then B.out HLO.out B.out.size
              have k5 := (Below.refl w4.heap.size w4).alloc (Nat.le_refl _) (.cells #[.int .i64 y.m.id, .string (S y.m.chan), .slice ka4 y.m.key.length kc4, .slice fa4 y.m.fields.length fc4] 30)
              have m5 : BM (w4.alloc (.cells #[.int .i64 y.m.id, .string (S y.m.chan), .slice ka4 y.m.key.length kc4, .slice fa4 y.m.fields.length fc4] 30)) w4.heap.size _ _ _ _ := heap_alloc_new w4 _
              obtain ⟨W5, hW5⟩ : ∃ W5, W5 = w4.alloc (.cells #[.int .i64 y.m.id, .string (S y.m.chan), .slice ka4 y.m.key.length kc4, .slice fa4 y.m.fields.length fc4] 30) := ⟨_, rfl⟩
              have HW5 := Lib.hid hW5
              rw [← hW5] at k5 m5
              have RF5 := Lib.hid (rf4.below k5)
              have BX5 := Lib.hid (bx4.below k5)
              have B5 := Lib.hid (b4.trans (k5.mono b4.size))
              have M5 := Lib.hid m5
              have HN5 := Lib.hid (show w4.heap.size ≠ r from fun e => by have := rf4.lt; omega)
              have HQ5 := Lib.hid (rf4.row.fresh (Nat.le_refl _))
              have TK5 := Lib.hid (tk4.below k5)
              have TF5 := Lib.hid (tf4.below k5)
              clear tk4 tf4
              obtain ⟨H4, hH4⟩ : ∃ H4, H4 = w4.heap.size := ⟨_, rfl⟩
              have HH4 := Lib.hid hH4
              rw [← hH4] at M5 HN5 HQ5
              clear rf4 b4 k5 m5 hW5 bx4 o4 hH4 x0
              go_wp2_with fail
              rw [← HW5.out]
              refine (refTake_any RF5.out (by simp at hd60 ⊢; try omega)).mono ?_
              rintro e w6 ⟨⟨rfl, q6, c6, rf6⟩, g6⟩
              unfold mV
              rw [← HH4.out]
              have m6 := M5.out.chg HN5.out HQ5.out g6
              have bx6 := BX5.out.chg RF5.out.blk RF5.out.row g6
              have b6 := Chg.then B5.out g6 RF5.out.row HLO.out (Nat.le_trans HLO.out hlr.out) B5.out.size
              have k7 := (Below.refl w6.heap.size w6).alloc (Nat.le_refl _) (.cells #[.int .i64 y.m.id, .string (S y.m.chan), .slice y.ka y.m.key.length y.kc, .slice y.fa y.m.fields.length y.fc] 30)
              have m7 : BM (w6.alloc (.cells #[.int .i64 y.m.id, .string (S y.m.chan), .slice y.ka y.m.key.length y.kc, .slice y.fa y.m.fields.length y.fc] 30)) w6.heap.size _ _ _ _ := heap_alloc_new w6 _
              have q0 := fun o => (m6.below ((Below.refl w6.heap.size w6).alloc (Nat.le_refl _) o)).c0
              have q1 := fun o => (m6.below ((Below.refl w6.heap.size w6).alloc (Nat.le_refl _) o)).c1
              have q2 := fun o => (m6.below ((Below.refl w6.heap.size w6).alloc (Nat.le_refl _) o)).c2
              have q3 := fun o => (m6.below ((Below.refl w6.heap.size w6).alloc (Nat.le_refl _) o)).c3
              have n0 := m7.c0
              have n1 := m7.c1
              have n2 := m7.c2
              have n3 := m7.c3
              have B7 := Lib.hid (b6.trans (k7.mono b6.size))
              have BX7 := Lib.hid (bx6.below k7)
              have RF7 := Lib.hid (rf6.below k7)
              have HSM := Lib.hid (sameMail_refl y.m (hvl.out y (by simp)).1 ka4 kc4 fa4 fc4 y.ka y.kc y.fa y.fc _ (TwR.vals (TwR.below (TwR.chg TK5.out RF5.out.blk RF5.out.row g6) k7)) (TwR.vals (TwR.below (TwR.chg TF5.out RF5.out.blk RF5.out.row g6) k7)) ((hvl.out y (by simp)).2.1.below B7.out) ((hvl.out y (by simp)).2.2.below B7.out))
              clear m6 bx6 b6 k7 m7 rf6 g6
              go_wp2_with fail
              refine HSM.out.mono ?_
              rintro e w8 ⟨rfl, b8⟩
              have BX := Lib.hid (BX7.out.below b8)
              have RF := Lib.hid (RF7.out.below b8)
              have B := Lib.hid (B7.out.trans (b8.mono B7.out.size))
              have HV : Hid (Vl w t) := Lib.hid (fun z hz => hvl.out z (by simp [hz]))
              clear b8 q0 q1 q2 q3 n0 n1 n2 n3 BX7 RF7 B7
              go_wp2_with fail
              have kd : Below w8.heap.size w8 w8.drew := ⟨rfl, rfl, rfl, Nat.le_refl _, fun _ _ => rfl⟩
              have hdn : t.length ≤ k + 1 := by simp at hdk; omega
              have hcp2 : t.length ≤ CP := by have := BX.out.room; simpa using this
              have HLN := Lib.hid (len_any (BX.out.below kd))
              have HRM := Lib.hid (room_any (BX.out.below kd))
              rw [List.length_map] at HLN HRM
              rw [show ((CP - t.length : Nat) : Int) = (CP : Int) - (t.length : Int) by omega] at HRM
              have HST := Lib.hid (show w8.drew.cell? ⟨r, 0, none⟩ = some (.slice q6 t.length c6) ∧ w8.drew.cell? ⟨r, 1, none⟩ = some (.int .i64 CP) from ⟨(RF.out.below kd).c0, (RF.out.below kd).c1⟩)
              have RFD := Lib.hid (RF.out.below kd)
              have BXD := Lib.hid (BX.out.below kd)
              have BD := Lib.hid (B.out.trans (kd.mono B.out.size))
              have HK0 := Lib.hid (show w8.drew.cell? ⟨r, 0, none⟩ = some (.slice q6 t.length c6) ∧ w8.drew.cell? ⟨r, 1, none⟩ = some (.int .i64 CP) from HST.out)
              have hdi : (t.length : Int) ≤ (CP : Int) := by omega
              have hci : (CP : Int) ≤ 4096 := by omega
              clear kd
              refine wp_region_held_drew (S := (fun w7 => w7.cell? ⟨r, 0, none⟩ = some (.slice q6 t.length c6) ∧ w7.cell? ⟨r, 1, none⟩ = some (.int .i64 CP))) (by kernel_rfl) (by (try dsimp only); exact HST.out) (fun hHeld => ?_)
              refine takeW (v := ?_) 0 (by decide +kernel) (by decide +kernel) (by kernel_rfl) (by simp only [List.getElem?_toArray, List.getElem?_cons_succ, List.getElem?_cons_zero]; rfl) (by rfl) (by exact fun _ _ _ h => h) (by assumption) ?_ ?_
              rotate_left 1
              focus (intro w8 hSw; (try dsimp only at hSw); obtain ⟨s80, s81⟩ := hSw; go_simp; (try with_reducible rfl); done)
              try simp only [Act.put, List.setIfInBounds_toArray, List.set_cons_zero, List.set_cons_succ]
              refine takeW (v := ?_) 2 (by decide +kernel) (by decide +kernel) (by kernel_rfl) (by simp only [List.getElem?_toArray, List.getElem?_cons_succ, List.getElem?_cons_zero]; rfl) (by rfl) (by exact fun _ _ _ h => h) (by assumption) ?_ ?_
              rotate_left 1
              focus (intro w8 hSw; (try dsimp only at hSw); obtain ⟨s80, s81⟩ := hSw; go_simp; (try with_reducible rfl); done)
              try simp only [Act.put, List.setIfInBounds_toArray, List.set_cons_zero, List.set_cons_succ]
              refine takeW (v := ?_) 3 (by decide +kernel) (by decide +kernel) (by kernel_rfl) (by simp only [List.getElem?_toArray, List.getElem?_cons_succ, List.getElem?_cons_zero]; rfl) (by rfl) (by exact fun _ _ _ h => h) (by assumption) ?_ ?_
              rotate_left 1
              focus (intro w8 hSw; (try dsimp only at hSw); obtain ⟨s80, s81⟩ := hSw; go_simp; (try with_reducible rfl); done)
              try simp only [Act.put, List.setIfInBounds_toArray, List.set_cons_zero, List.set_cons_succ]
              refine takeW (v := ?_) 4 (by decide +kernel) (by decide +kernel) (by kernel_rfl) (by simp only [List.getElem?_toArray, List.getElem?_cons_succ, List.getElem?_cons_zero]; rfl) (by rfl) (by exact fun _ _ _ h => h) (by assumption) ?_ ?_
              rotate_left 1
              focus (intro w8 hSw; (try dsimp only at hSw); obtain ⟨s80, s81⟩ := hSw; go_simp; (try with_reducible rfl); done)
              try simp only [Act.put, List.setIfInBounds_toArray, List.set_cons_zero, List.set_cons_succ]
              refine takeW (v := ?_) 5 (by decide +kernel) (by decide +kernel) (by kernel_rfl) (by simp only [List.getElem?_toArray, List.getElem?_cons_succ, List.getElem?_cons_zero]; rfl) (by rfl) (by exact fun _ _ _ h => h) (by assumption) ?_ ?_
              rotate_left 1
              focus (intro w8 hSw; (try dsimp only at hSw); obtain ⟨s80, s81⟩ := hSw; go_simp; (try with_reducible rfl); done)
              try simp only [Act.put, List.setIfInBounds_toArray, List.set_cons_zero, List.set_cons_succ]
              refine takeW (v := ?_) 6 (by decide +kernel) (by decide +kernel) (by kernel_rfl) (by simp only [List.getElem?_toArray, List.getElem?_cons_succ, List.getElem?_cons_zero]; rfl) (by rfl) (by exact fun _ _ _ h => h) (by assumption) ?_ ?_
              rotate_left 1
              focus (intro w8 hSw; (try dsimp only at hSw); obtain ⟨s80, s81⟩ := hSw; go_simp; (try with_reducible rfl); done)
              try simp only [Act.put, List.setIfInBounds_toArray, List.set_cons_zero, List.set_cons_succ]
              refine wpAnyH_ready (rs := [1]) (by decide +kernel) (by simp) ?_
              refine AllReadyH.cons (by simp only [List.getElem?_toArray, List.getElem?_cons_succ, List.getElem?_cons_zero]; rfl) (fun K hK => ?_) AllReadyH.nil
              go_simp
              (go_at_call 17; with_reducible refine (HLN.out).mono ?_; rintro e w7 ⟨rfl, rfl⟩)
              go_wp2_with fail
              refine hK.out _ _ (by (try dsimp only); (first | assumption | exact HK0.out)) (fun hHeld => ?_)
              clear hK K
              try simp only [Act.put, List.setIfInBounds_toArray, List.set_cons_zero, List.set_cons_succ]
              refine takeW (v := .bool false) 7 (by decide +kernel) (by decide +kernel) (by kernel_rfl) (by simp only [List.getElem?_toArray, List.getElem?_cons_succ, List.getElem?_cons_zero]; rfl) (by rfl) (by exact fun _ _ _ h => h) (by assumption) ?_ ?_
              focus (intro w8 hSw; (try dsimp only at hSw); obtain ⟨s80, s81⟩ := hSw; go_simp; (try simp))
              try simp only [Act.put, List.setIfInBounds_toArray, List.set_cons_zero, List.set_cons_succ]
              refine takeW (v := ?_) 8 (by decide +kernel) (by decide +kernel) (by kernel_rfl) (by simp only [List.getElem?_toArray, List.getElem?_cons_succ, List.getElem?_cons_zero]; rfl) (by rfl) (by exact fun _ _ _ h => h) (by assumption) ?_ ?_
              rotate_left 1
              focus (intro w8 hSw; (try dsimp only at hSw); obtain ⟨s80, s81⟩ := hSw; go_simp; (try with_reducible rfl); done)
              try simp only [Act.put, List.setIfInBounds_toArray, List.set_cons_zero, List.set_cons_succ]
              refine takeW (v := ?_) 9 (by decide +kernel) (by decide +kernel) (by kernel_rfl) (by simp only [List.getElem?_toArray, List.getElem?_cons_succ, List.getElem?_cons_zero]; rfl) (by rfl) (by exact fun _ _ _ h => h) (by assumption) ?_ ?_
              rotate_left 1
              focus (intro w8 hSw; (try dsimp only at hSw); obtain ⟨s80, s81⟩ := hSw; go_simp; (try with_reducible rfl); done)
              try simp only [Act.put, List.setIfInBounds_toArray, List.set_cons_zero, List.set_cons_succ]
              refine takeW (v := ?_) 11 (by decide +kernel) (by decide +kernel) (by kernel_rfl) (by simp only [List.getElem?_toArray, List.getElem?_cons_succ, List.getElem?_cons_zero]; rfl) (by rfl) (by exact fun _ _ _ h => h) (by assumption) ?_ ?_
              rotate_left 1
              focus (intro w8 hSw; (try dsimp only at hSw); obtain ⟨s80, s81⟩ := hSw; go_simp; (try with_reducible rfl); done)
              try simp only [Act.put, List.setIfInBounds_toArray, List.set_cons_zero, List.set_cons_succ]
              refine takeW (v := ?_) 12 (by decide +kernel) (by decide +kernel) (by kernel_rfl) (by simp only [List.getElem?_toArray, List.getElem?_cons_succ, List.getElem?_cons_zero]; rfl) (by rfl) (by exact fun _ _ _ h => h) (by assumption) ?_ ?_
              rotate_left 1
              focus (intro w8 hSw; (try dsimp only at hSw); obtain ⟨s80, s81⟩ := hSw; go_simp; (try with_reducible rfl); done)
              try simp only [Act.put, List.setIfInBounds_toArray, List.set_cons_zero, List.set_cons_succ]
              refine takeW (v := ?_) 13 (by decide +kernel) (by decide +kernel) (by kernel_rfl) (by simp only [List.getElem?_toArray, List.getElem?_cons_succ, List.getElem?_cons_zero]; rfl) (by rfl) (by exact fun _ _ _ h => h) (by assumption) ?_ ?_
              rotate_left 1
              focus (intro w8 hSw; (try dsimp only at hSw); obtain ⟨s80, s81⟩ := hSw; go_simp; (try with_reducible rfl); done)
              try simp only [Act.put, List.setIfInBounds_toArray, List.set_cons_zero, List.set_cons_succ]
              refine takeW (v := ?_) 14 (by decide +kernel) (by decide +kernel) (by kernel_rfl) (by simp only [List.getElem?_toArray, List.getElem?_cons_succ, List.getElem?_cons_zero]; rfl) (by rfl) (by exact fun _ _ _ h => h) (by assumption) ?_ ?_
              rotate_left 1
              focus (intro w8 hSw; (try dsimp only at hSw); obtain ⟨s80, s81⟩ := hSw; go_simp; (try with_reducible rfl); done)
              try simp only [Act.put, List.setIfInBounds_toArray, List.set_cons_zero, List.set_cons_succ]
              refine takeW (v := ?_) 15 (by decide +kernel) (by decide +kernel) (by kernel_rfl) (by simp only [List.getElem?_toArray, List.getElem?_cons_succ, List.getElem?_cons_zero]; rfl) (by rfl) (by exact fun _ _ _ h => h) (by assumption) ?_ ?_
              rotate_left 1
              focus (intro w8 hSw; (try dsimp only at hSw); obtain ⟨s80, s81⟩ := hSw; go_simp; (try with_reducible rfl); done)
              try simp only [Act.put, List.setIfInBounds_toArray, List.set_cons_zero, List.set_cons_succ]
              refine takeW (v := ?_) 16 (by decide +kernel) (by decide +kernel) (by kernel_rfl) (by simp only [List.getElem?_toArray, List.getElem?_cons_succ, List.getElem?_cons_zero]; rfl) (by rfl) (by exact fun _ _ _ h => h) (by assumption) ?_ ?_
              rotate_left 1
              focus (intro w8 hSw; (try dsimp only at hSw); obtain ⟨s80, s81⟩ := hSw; go_simp; (try with_reducible rfl); done)
              try simp only [Act.put, List.setIfInBounds_toArray, List.set_cons_zero, List.set_cons_succ]
              refine takeW (v := ?_) 17 (by decide +kernel) (by decide +kernel) (by kernel_rfl) (by simp only [List.getElem?_toArray, List.getElem?_cons_succ, List.getElem?_cons_zero]; rfl) (by rfl) (by exact fun _ _ _ h => h) (by assumption) ?_ ?_
              rotate_left 1
              focus (intro w8 hSw; (try dsimp only at hSw); obtain ⟨s80, s81⟩ := hSw; go_simp; (try with_reducible rfl); done)
              try simp only [Act.put, List.setIfInBounds_toArray, List.set_cons_zero, List.set_cons_succ]
              refine takeW (v := ?_) 18 (by decide +kernel) (by decide +kernel) (by kernel_rfl) (by simp only [List.getElem?_toArray, List.getElem?_cons_succ, List.getElem?_cons_zero]; rfl) (by rfl) (by exact fun _ _ _ h => h) (by assumption) ?_ ?_
              rotate_left 1
              focus (intro w8 hSw; (try dsimp only at hSw); obtain ⟨s80, s81⟩ := hSw; go_simp; (try with_reducible rfl); done)
              try simp only [Act.put, List.setIfInBounds_toArray, List.set_cons_zero, List.set_cons_succ]
              refine takeW (v := ?_) 19 (by decide +kernel) (by decide +kernel) (by kernel_rfl) (by simp only [List.getElem?_toArray, List.getElem?_cons_succ, List.getElem?_cons_zero]; rfl) (by rfl) (by exact fun _ _ _ h => h) (by assumption) ?_ ?_
              rotate_left 1
              focus (intro w8 hSw; (try dsimp only at hSw); obtain ⟨s80, s81⟩ := hSw; go_simp; (try with_reducible rfl); done)
              try simp only [Act.put, List.setIfInBounds_toArray, List.set_cons_zero, List.set_cons_succ]
              refine takeW (v := ?_) 20 (by decide +kernel) (by decide +kernel) (by kernel_rfl) (by simp only [List.getElem?_toArray, List.getElem?_cons_succ, List.getElem?_cons_zero]; rfl) (by rfl) (by exact fun _ _ _ h => h) (by assumption) ?_ ?_
              rotate_left 1
              focus (intro w8 hSw; (try dsimp only at hSw); obtain ⟨s80, s81⟩ := hSw; go_simp; (try with_reducible rfl); done)
              try simp only [Act.put, List.setIfInBounds_toArray, List.set_cons_zero, List.set_cons_succ]
              refine wpAnyH_ready (rs := [10]) (by decide +kernel) (by simp) ?_
              refine AllReadyH.cons (by simp only [List.getElem?_toArray, List.getElem?_cons_succ, List.getElem?_cons_zero]; rfl) (fun K hK => ?_) AllReadyH.nil
              go_simp
              (go_at_call 18; with_reducible refine (HRM.out).mono ?_; rintro e w7 ⟨rfl, b7⟩)
              have BX7 := Lib.hid (BXD.out.below b7)
              have RF7 := Lib.hid (RFD.out.below b7)
              have B7 := Lib.hid (BD.out.trans (b7.mono BD.out.size))
              have HK7 := Lib.hid (show w7.cell? ⟨r, 0, none⟩ = some (.slice q6 t.length c6) ∧ w7.cell? ⟨r, 1, none⟩ = some (.int .i64 CP) from ⟨RF7.out.c0, RF7.out.c1⟩)
              clear b7
              go_wp2_with fail
              refine hK.out _ _ (by (try dsimp only); (first | assumption | exact HK7.out)) (fun hHeld => ?_)
              clear hK K
              try simp only [Act.put, List.setIfInBounds_toArray, List.set_cons_zero, List.set_cons_succ]
              refine takeW (v := .bool false) 21 (by decide +kernel) (by decide +kernel) (by kernel_rfl) (by simp only [List.getElem?_toArray, List.getElem?_cons_succ, List.getElem?_cons_zero]; rfl) (by rfl) (by exact fun _ _ _ h => h) (by assumption) ?_ ?_
              focus (intro w8 hSw; (try dsimp only at hSw); obtain ⟨s80, s81⟩ := hSw; go_simp; (try simp); (try rw [IntKind.wrap_i64]); (try omega))
              try simp only [Act.put, List.setIfInBounds_toArray, List.set_cons_zero, List.set_cons_succ]
              refine takeW (v := ?_) 22 (by decide +kernel) (by decide +kernel) (by kernel_rfl) (by simp only [List.getElem?_toArray, List.getElem?_cons_succ, List.getElem?_cons_zero]; rfl) (by rfl) (by exact fun _ _ _ h => h) (by assumption) ?_ ?_
              rotate_left 1
              focus (intro w8 hSw; (try dsimp only at hSw); obtain ⟨s80, s81⟩ := hSw; go_simp; (try with_reducible rfl); done)
              try simp only [Act.put, List.setIfInBounds_toArray, List.set_cons_zero, List.set_cons_succ]
              refine wpAnyH_done (by decide +kernel) ?_ _
              go_wp2_with fail
              go_roundw
              case rel => exact ⟨k + 1, by omega, by go_num, q6, c6, t, BX7.out, RF7.out, B7.out, hdn, HV⟩
              case measure => simp [intOf]; omega
          · skip
            cases d with
            | nil =>
              refine (take_any (l := []) BX.out).mono ?_
              rintro e w4 ⟨⟨rfl, bx4⟩, o4⟩
              unfold zM
              have rf4 := RF.out.onl BX.out.nochan o4
              have b4 := o4.then B.out HLO.out B.out.size
              have k5 := (Below.refl w4.heap.size w4).alloc (Nat.le_refl _) (.cells #[.int .i64 0, .string ⟨#[]⟩, .slice none 0 0, .slice none 0 0] 30)
              have m5 : BM (w4.alloc (.cells #[.int .i64 0, .string ⟨#[]⟩, .slice none 0 0, .slice none 0 0] 30)) w4.heap.size _ _ _ _ := heap_alloc_new w4 _
              obtain ⟨W5, hW5⟩ : ∃ W5, W5 = w4.alloc (.cells #[.int .i64 0, .string ⟨#[]⟩, .slice none 0 0, .slice none 0 0] 30) := ⟨_, rfl⟩
              have HW5 := Lib.hid hW5
              rw [← hW5] at k5 m5
              have RF5 := Lib.hid (rf4.below k5)
              have BX5 := Lib.hid (bx4.below k5)
              have B5 := Lib.hid (b4.trans (k5.mono b4.size))
              have M5 := Lib.hid m5
              have HN5 := Lib.hid (show w4.heap.size ≠ r from fun e => by have := rf4.lt; omega)
              have HQ5 := Lib.hid (rf4.row.fresh (Nat.le_refl _))
              obtain ⟨H4, hH4⟩ : ∃ H4, H4 = w4.heap.size := ⟨_, rfl⟩
              have HH4 := Lib.hid hH4
              rw [← hH4] at M5 HN5 HQ5
              clear rf4 b4 k5 m5 hW5 bx4 o4 hH4 x0
              go_wp2_with fail
              rw [← HW5.out]
              refine (refTake_any RF5.out (by simp at hd60 ⊢; try omega)).mono ?_
              rintro e w6 ⟨⟨rfl, rf6⟩, g6⟩
              unfold zM
              rw [← HH4.out]
              have m6 := M5.out.chg HN5.out HQ5.out g6
              have bx6 := BX5.out.chg RF5.out.blk RF5.out.row g6
              have b6 := Chg.then B5.out g6 RF5.out.row HLO.out (Nat.le_trans HLO.out hlr.out) B5.out.size
              have k7 := (Below.refl w6.heap.size w6).alloc (Nat.le_refl _) (.cells #[.int .i64 0, .string ⟨#[]⟩, .slice none 0 0, .slice none 0 0] 30)
              have m7 : BM (w6.alloc (.cells #[.int .i64 0, .string ⟨#[]⟩, .slice none 0 0, .slice none 0 0] 30)) w6.heap.size _ _ _ _ := heap_alloc_new w6 _
              have q0 := fun o => (m6.below ((Below.refl w6.heap.size w6).alloc (Nat.le_refl _) o)).c0
              have q1 := fun o => (m6.below ((Below.refl w6.heap.size w6).alloc (Nat.le_refl _) o)).c1
              have q2 := fun o => (m6.below ((Below.refl w6.heap.size w6).alloc (Nat.le_refl _) o)).c2
              have q3 := fun o => (m6.below ((Below.refl w6.heap.size w6).alloc (Nat.le_refl _) o)).c3
              have n0 := m7.c0
              have n1 := m7.c1
              have n2 := m7.c2
              have n3 := m7.c3
              have B7 := Lib.hid (b6.trans (k7.mono b6.size))
              have BX7 := Lib.hid (bx6.below k7)
              have RF7 := Lib.hid (rf6.below k7)
              have HSM := Lib.hid (sameZ_any (w6.alloc (.cells #[.int .i64 0, .string ⟨#[]⟩, .slice none 0 0, .slice none 0 0] 30)))
              unfold zM at HSM
              clear m6 bx6 b6 k7 m7 rf6 g6
              go_wp2_with fail
              refine HSM.out.mono ?_
              rintro e w8 ⟨rfl, b8⟩
              have BX := Lib.hid (BX7.out.below b8)
              have RF := Lib.hid (RF7.out.below b8)
              have B := Lib.hid (B7.out.trans (b8.mono B7.out.size))
              skip
              clear b8 q0 q1 q2 q3 n0 n1 n2 n3 BX7 RF7 B7
              go_wp2_with fail
              obtain ⟨d0, hd0⟩ : ∃ d0 : List MK, d0 = [] := ⟨_, rfl⟩
              have BX : Hid (BoxAt lo w8 b lo CP (d0.map (·.m))) := Lib.hid (by rw [hd0]; exact BX.out)
              have RF : Hid (RefAt lo w8 r CP q c d0) := Lib.hid (by rw [hd0]; exact RF.out)
              have HV : Hid (Vl w d0) := Lib.hid (by rw [hd0]; exact hvl.out)
              have hdn0 : d0.length ≤ k + 1 := by rw [hd0]; simp
              clear hd0
              have kd : Below w8.heap.size w8 w8.drew := ⟨rfl, rfl, rfl, Nat.le_refl _, fun _ _ => rfl⟩
              have hdn : d0.length ≤ k + 1 := hdn0
              have hcp2 : d0.length ≤ CP := by have := BX.out.room; simpa using this
              have HLN := Lib.hid (len_any (BX.out.below kd))
              have HRM := Lib.hid (room_any (BX.out.below kd))
              rw [List.length_map] at HLN HRM
              rw [show ((CP - d0.length : Nat) : Int) = (CP : Int) - (d0.length : Int) by omega] at HRM
              have HST := Lib.hid (show w8.drew.cell? ⟨r, 0, none⟩ = some (.slice q d0.length c) ∧ w8.drew.cell? ⟨r, 1, none⟩ = some (.int .i64 CP) from ⟨(RF.out.below kd).c0, (RF.out.below kd).c1⟩)
              have RFD := Lib.hid (RF.out.below kd)
              have BXD := Lib.hid (BX.out.below kd)
              have BD := Lib.hid (B.out.trans (kd.mono B.out.size))
              have HK0 := Lib.hid (show w8.drew.cell? ⟨r, 0, none⟩ = some (.slice q d0.length c) ∧ w8.drew.cell? ⟨r, 1, none⟩ = some (.int .i64 CP) from HST.out)
              have hdi : (d0.length : Int) ≤ (CP : Int) := by omega
              have hci : (CP : Int) ≤ 4096 := by omega
              clear kd
              refine wp_region_held_drew (S := (fun w7 => w7.cell? ⟨r, 0, none⟩ = some (.slice q d0.length c) ∧ w7.cell? ⟨r, 1, none⟩ = some (.int .i64 CP))) (by kernel_rfl) (by (try dsimp only); exact HST.out) (fun hHeld => ?_)
              refine takeW (v := ?_) 0 (by decide +kernel) (by decide +kernel) (by kernel_rfl) (by simp only [List.getElem?_toArray, List.getElem?_cons_succ, List.getElem?_cons_zero]; rfl) (by rfl) (by exact fun _ _ _ h => h) (by assumption) ?_ ?_
              rotate_left 1
              focus (intro w8 hSw; (try dsimp only at hSw); obtain ⟨s80, s81⟩ := hSw; go_simp; (try with_reducible rfl); done)
              try simp only [Act.put, List.setIfInBounds_toArray, List.set_cons_zero, List.set_cons_succ]
              refine takeW (v := ?_) 2 (by decide +kernel) (by decide +kernel) (by kernel_rfl) (by simp only [List.getElem?_toArray, List.getElem?_cons_succ, List.getElem?_cons_zero]; rfl) (by rfl) (by exact fun _ _ _ h => h) (by assumption) ?_ ?_
              rotate_left 1
              focus (intro w8 hSw; (try dsimp only at hSw); obtain ⟨s80, s81⟩ := hSw; go_simp; (try with_reducible rfl); done)
              try simp only [Act.put, List.setIfInBounds_toArray, List.set_cons_zero, List.set_cons_succ]
              refine takeW (v := ?_) 3 (by decide +kernel) (by decide +kernel) (by kernel_rfl) (by simp only [List.getElem?_toArray, List.getElem?_cons_succ, List.getElem?_cons_zero]; rfl) (by rfl) (by exact fun _ _ _ h => h) (by assumption) ?_ ?_
              rotate_left 1
              focus (intro w8 hSw; (try dsimp only at hSw); obtain ⟨s80, s81⟩ := hSw; go_simp; (try with_reducible rfl); done)
              try simp only [Act.put, List.setIfInBounds_toArray, List.set_cons_zero, List.set_cons_succ]
              refine takeW (v := ?_) 4 (by decide +kernel) (by decide +kernel) (by kernel_rfl) (by simp only [List.getElem?_toArray, List.getElem?_cons_succ, List.getElem?_cons_zero]; rfl) (by rfl) (by exact fun _ _ _ h => h) (by assumption) ?_ ?_
              rotate_left 1
              focus (intro w8 hSw; (try dsimp only at hSw); obtain ⟨s80, s81⟩ := hSw; go_simp; (try with_reducible rfl); done)
              try simp only [Act.put, List.setIfInBounds_toArray, List.set_cons_zero, List.set_cons_succ]
              refine takeW (v := ?_) 5 (by decide +kernel) (by decide +kernel) (by kernel_rfl) (by simp only [List.getElem?_toArray, List.getElem?_cons_succ, List.getElem?_cons_zero]; rfl) (by rfl) (by exact fun _ _ _ h => h) (by assumption) ?_ ?_
              rotate_left 1
              focus (intro w8 hSw; (try dsimp only at hSw); obtain ⟨s80, s81⟩ := hSw; go_simp; (try with_reducible rfl); done)
              try simp only [Act.put, List.setIfInBounds_toArray, List.set_cons_zero, List.set_cons_succ]
              refine takeW (v := ?_) 6 (by decide +kernel) (by decide +kernel) (by kernel_rfl) (by simp only [List.getElem?_toArray, List.getElem?_cons_succ, List.getElem?_cons_zero]; rfl) (by rfl) (by exact fun _ _ _ h => h) (by assumption) ?_ ?_
              rotate_left 1
              focus (intro w8 hSw; (try dsimp only at hSw); obtain ⟨s80, s81⟩ := hSw; go_simp; (try with_reducible rfl); done)
              try simp only [Act.put, List.setIfInBounds_toArray, List.set_cons_zero, List.set_cons_succ]
              refine wpAnyH_ready (rs := [1]) (by decide +kernel) (by simp) ?_
              refine AllReadyH.cons (by simp only [List.getElem?_toArray, List.getElem?_cons_succ, List.getElem?_cons_zero]; rfl) (fun K hK => ?_) AllReadyH.nil
              go_simp
              (go_at_call 17; with_reducible refine (HLN.out).mono ?_; rintro e w7 ⟨rfl, rfl⟩)
              go_wp2_with fail
              refine hK.out _ _ (by (try dsimp only); (first | assumption | exact HK0.out)) (fun hHeld => ?_)
              clear hK K
              try simp only [Act.put, List.setIfInBounds_toArray, List.set_cons_zero, List.set_cons_succ]
              refine takeW (v := .bool false) 7 (by decide +kernel) (by decide +kernel) (by kernel_rfl) (by simp only [List.getElem?_toArray, List.getElem?_cons_succ, List.getElem?_cons_zero]; rfl) (by rfl) (by exact fun _ _ _ h => h) (by assumption) ?_ ?_
              focus (intro w8 hSw; (try dsimp only at hSw); obtain ⟨s80, s81⟩ := hSw; go_simp; (try simp))
              try simp only [Act.put, List.setIfInBounds_toArray, List.set_cons_zero, List.set_cons_succ]
              refine takeW (v := ?_) 8 (by decide +kernel) (by decide +kernel) (by kernel_rfl) (by simp only [List.getElem?_toArray, List.getElem?_cons_succ, List.getElem?_cons_zero]; rfl) (by rfl) (by exact fun _ _ _ h => h) (by assumption) ?_ ?_
              rotate_left 1
              focus (intro w8 hSw; (try dsimp only at hSw); obtain ⟨s80, s81⟩ := hSw; go_simp; (try with_reducible rfl); done)
              try simp only [Act.put, List.setIfInBounds_toArray, List.set_cons_zero, List.set_cons_succ]
              refine takeW (v := ?_) 9 (by decide +kernel) (by decide +kernel) (by kernel_rfl) (by simp only [List.getElem?_toArray, List.getElem?_cons_succ, List.getElem?_cons_zero]; rfl) (by rfl) (by exact fun _ _ _ h => h) (by assumption) ?_ ?_
              rotate_left 1
              focus (intro w8 hSw; (try dsimp only at hSw); obtain ⟨s80, s81⟩ := hSw; go_simp; (try with_reducible rfl); done)
              try simp only [Act.put, List.setIfInBounds_toArray, List.set_cons_zero, List.set_cons_succ]
              refine takeW (v := ?_) 11 (by decide +kernel) (by decide +kernel) (by kernel_rfl) (by simp only [List.getElem?_toArray, List.getElem?_cons_succ, List.getElem?_cons_zero]; rfl) (by rfl) (by exact fun _ _ _ h => h) (by assumption) ?_ ?_
              rotate_left 1
              focus (intro w8 hSw; (try dsimp only at hSw); obtain ⟨s80, s81⟩ := hSw; go_simp; (try with_reducible rfl); done)
              try simp only [Act.put, List.setIfInBounds_toArray, List.set_cons_zero, List.set_cons_succ]
              refine takeW (v := ?_) 12 (by decide +kernel) (by decide +kernel) (by kernel_rfl) (by simp only [List.getElem?_toArray, List.getElem?_cons_succ, List.getElem?_cons_zero]; rfl) (by rfl) (by exact fun _ _ _ h => h) (by assumption) ?_ ?_
              rotate_left 1
              focus (intro w8 hSw; (try dsimp only at hSw); obtain ⟨s80, s81⟩ := hSw; go_simp; (try with_reducible rfl); done)
              try simp only [Act.put, List.setIfInBounds_toArray, List.set_cons_zero, List.set_cons_succ]
              refine takeW (v := ?_) 13 (by decide +kernel) (by decide +kernel) (by kernel_rfl) (by simp only [List.getElem?_toArray, List.getElem?_cons_succ, List.getElem?_cons_zero]; rfl) (by rfl) (by exact fun _ _ _ h => h) (by assumption) ?_ ?_
              rotate_left 1
              focus (intro w8 hSw; (try dsimp only at hSw); obtain ⟨s80, s81⟩ := hSw; go_simp; (try with_reducible rfl); done)
              try simp only [Act.put, List.setIfInBounds_toArray, List.set_cons_zero, List.set_cons_succ]
              refine takeW (v := ?_) 14 (by decide +kernel) (by decide +kernel) (by kernel_rfl) (by simp only [List.getElem?_toArray, List.getElem?_cons_succ, List.getElem?_cons_zero]; rfl) (by rfl) (by exact fun _ _ _ h => h) (by assumption) ?_ ?_
              rotate_left 1
              focus (intro w8 hSw; (try dsimp only at hSw); obtain ⟨s80, s81⟩ := hSw; go_simp; (try with_reducible rfl); done)
              try simp only [Act.put, List.setIfInBounds_toArray, List.set_cons_zero, List.set_cons_succ]
              refine takeW (v := ?_) 15 (by decide +kernel) (by decide +kernel) (by kernel_rfl) (by simp only [List.getElem?_toArray, List.getElem?_cons_succ, List.getElem?_cons_zero]; rfl) (by rfl) (by exact fun _ _ _ h => h) (by assumption) ?_ ?_
              rotate_left 1
              focus (intro w8 hSw; (try dsimp only at hSw); obtain ⟨s80, s81⟩ := hSw; go_simp; (try with_reducible rfl); done)
              try simp only [Act.put, List.setIfInBounds_toArray, List.set_cons_zero, List.set_cons_succ]
              refine takeW (v := ?_) 16 (by decide +kernel) (by decide +kernel) (by kernel_rfl) (by simp only [List.getElem?_toArray, List.getElem?_cons_succ, List.getElem?_cons_zero]; rfl) (by rfl) (by exact fun _ _ _ h => h) (by assumption) ?_ ?_
              rotate_left 1
              focus (intro w8 hSw; (try dsimp only at hSw); obtain ⟨s80, s81⟩ := hSw; go_simp; (try with_reducible rfl); done)
              try simp only [Act.put, List.setIfInBounds_toArray, List.set_cons_zero, List.set_cons_succ]
              refine takeW (v := ?_) 17 (by decide +kernel) (by decide +kernel) (by kernel_rfl) (by simp only [List.getElem?_toArray, List.getElem?_cons_succ, List.getElem?_cons_zero]; rfl) (by rfl) (by exact fun _ _ _ h => h) (by assumption) ?_ ?_
              rotate_left 1
              focus (intro w8 hSw; (try dsimp only at hSw); obtain ⟨s80, s81⟩ := hSw; go_simp; (try with_reducible rfl); done)
              try simp only [Act.put, List.setIfInBounds_toArray, List.set_cons_zero, List.set_cons_succ]
              refine takeW (v := ?_) 18 (by decide +kernel) (by decide +kernel) (by kernel_rfl) (by simp only [List.getElem?_toArray, List.getElem?_cons_succ, List.getElem?_cons_zero]; rfl) (by rfl) (by exact fun _ _ _ h => h) (by assumption) ?_ ?_
              rotate_left 1
              focus (intro w8 hSw; (try dsimp only at hSw); obtain ⟨s80, s81⟩ := hSw; go_simp; (try with_reducible rfl); done)
              try simp only [Act.put, List.setIfInBounds_toArray, List.set_cons_zero, List.set_cons_succ]
              refine takeW (v := ?_) 19 (by decide +kernel) (by decide +kernel) (by kernel_rfl) (by simp only [List.getElem?_toArray, List.getElem?_cons_succ, List.getElem?_cons_zero]; rfl) (by rfl) (by exact fun _ _ _ h => h) (by assumption) ?_ ?_
              rotate_left 1
              focus (intro w8 hSw; (try dsimp only at hSw); obtain ⟨s80, s81⟩ := hSw; go_simp; (try with_reducible rfl); done)
              try simp only [Act.put, List.setIfInBounds_toArray, List.set_cons_zero, List.set_cons_succ]
              refine takeW (v := ?_) 20 (by decide +kernel) (by decide +kernel) (by kernel_rfl) (by simp only [List.getElem?_toArray, List.getElem?_cons_succ, List.getElem?_cons_zero]; rfl) (by rfl) (by exact fun _ _ _ h => h) (by assumption) ?_ ?_
              rotate_left 1
              focus (intro w8 hSw; (try dsimp only at hSw); obtain ⟨s80, s81⟩ := hSw; go_simp; (try with_reducible rfl); done)
              try simp only [Act.put, List.setIfInBounds_toArray, List.set_cons_zero, List.set_cons_succ]
              refine wpAnyH_ready (rs := [10]) (by decide +kernel) (by simp) ?_
              refine AllReadyH.cons (by simp only [List.getElem?_toArray, List.getElem?_cons_succ, List.getElem?_cons_zero]; rfl) (fun K hK => ?_) AllReadyH.nil
              go_simp
              (go_at_call 18; with_reducible refine (HRM.out).mono ?_; rintro e w7 ⟨rfl, b7⟩)
              have BX7 := Lib.hid (BXD.out.below b7)
              have RF7 := Lib.hid (RFD.out.below b7)
              have B7 := Lib.hid (BD.out.trans (b7.mono BD.out.size))
              have HK7 := Lib.hid (show w7.cell? ⟨r, 0, none⟩ = some (.slice q d0.length c) ∧ w7.cell? ⟨r, 1, none⟩ = some (.int .i64 CP) from ⟨RF7.out.c0, RF7.out.c1⟩)
              clear b7
              go_wp2_with fail
              refine hK.out _ _ (by (try dsimp only); (first | assumption | exact HK7.out)) (fun hHeld => ?_)
              clear hK K
              try simp only [Act.put, List.setIfInBounds_toArray, List.set_cons_zero, List.set_cons_succ]
              refine takeW (v := .bool false) 21 (by decide +kernel) (by decide +kernel) (by kernel_rfl) (by simp only [List.getElem?_toArray, List.getElem?_cons_succ, List.getElem?_cons_zero]; rfl) (by rfl) (by exact fun _ _ _ h => h) (by assumption) ?_ ?_
              focus (intro w8 hSw; (try dsimp only at hSw); obtain ⟨s80, s81⟩ := hSw; go_simp; (try simp); (try rw [IntKind.wrap_i64]); (try omega))
              try simp only [Act.put, List.setIfInBounds_toArray, List.set_cons_zero, List.set_cons_succ]
              refine takeW (v := ?_) 22 (by decide +kernel) (by decide +kernel) (by kernel_rfl) (by simp only [List.getElem?_toArray, List.getElem?_cons_succ, List.getElem?_cons_zero]; rfl) (by rfl) (by exact fun _ _ _ h => h) (by assumption) ?_ ?_
              rotate_left 1
              focus (intro w8 hSw; (try dsimp only at hSw); obtain ⟨s80, s81⟩ := hSw; go_simp; (try with_reducible rfl); done)
              try simp only [Act.put, List.setIfInBounds_toArray, List.set_cons_zero, List.set_cons_succ]
              refine wpAnyH_done (by decide +kernel) ?_ _
              go_wp2_with fail
              go_roundw
              case rel => exact ⟨k + 1, by omega, by go_num, q, c, d0, BX7.out, RF7.out, B7.out, hdn, HV⟩
              case measure => simp [intOf]; omega
            | cons y t =>
              refine (take_any (l := y.m :: t.map (·.m)) BX.out).mono ?_
              rintro e w4 ⟨⟨ka4, kc4, fa4, fc4, rfl, tk4, tf4, bx4⟩, o4⟩
              unfold mV
              have rf4 := RF.out.onl BX.out.nochan o4
              have b4 := o4.then B.out HLO.out B.out.size
              have k5 := (Below.refl w4.heap.size w4).alloc (Nat.le_refl _) (.cells #[.int .i64 y.m.id, .string (S y.m.chan), .slice ka4 y.m.key.length kc4, .slice fa4 y.m.fields.length fc4] 30)
              have m5 : BM (w4.alloc (.cells #[.int .i64 y.m.id, .string (S y.m.chan), .slice ka4 y.m.key.length kc4, .slice fa4 y.m.fields.length fc4] 30)) w4.heap.size _ _ _ _ := heap_alloc_new w4 _
              obtain ⟨W5, hW5⟩ : ∃ W5, W5 = w4.alloc (.cells #[.int .i64 y.m.id, .string (S y.m.chan), .slice ka4 y.m.key.length kc4, .slice fa4 y.m.fields.length fc4] 30) := ⟨_, rfl⟩
              have HW5 := Lib.hid hW5
              rw [← hW5] at k5 m5
              have RF5 := Lib.hid (rf4.below k5)
              have BX5 := Lib.hid (bx4.below k5)
              have B5 := Lib.hid (b4.trans (k5.mono b4.size))
              have M5 := Lib.hid m5
              have HN5 := Lib.hid (show w4.heap.size ≠ r from fun e => by have := rf4.lt; omega)
              have HQ5 := Lib.hid (rf4.row.fresh (Nat.le_refl _))
              have TK5 := Lib.hid (tk4.below k5)
              have TF5 := Lib.hid (tf4.below k5)
              clear tk4 tf4
              obtain ⟨H4, hH4⟩ : ∃ H4, H4 = w4.heap.size := ⟨_, rfl⟩
              have HH4 := Lib.hid hH4
              rw [← hH4] at M5 HN5 HQ5
              clear rf4 b4 k5 m5 hW5 bx4 o4 hH4 x0
              go_wp2_with fail
              rw [← HW5.out]
              refine (refTake_any RF5.out (by simp at hd60 ⊢; try omega)).mono ?_
              rintro e w6 ⟨⟨rfl, q6, c6, rf6⟩, g6⟩
              unfold mV
              rw [← HH4.out]
              have m6 := M5.out.chg HN5.out HQ5.out g6
              have bx6 := BX5.out.chg RF5.out.blk RF5.out.row g6
              have b6 := Chg.then B5.out g6 RF5.out.row HLO.out (Nat.le_trans HLO.out hlr.out) B5.out.size
              have k7 := (Below.refl w6.heap.size w6).alloc (Nat.le_refl _) (.cells #[.int .i64 y.m.id, .string (S y.m.chan), .slice y.ka y.m.key.length y.kc, .slice y.fa y.m.fields.length y.fc] 30)
              have m7 : BM (w6.alloc (.cells #[.int .i64 y.m.id, .string (S y.m.chan), .slice y.ka y.m.key.length y.kc, .slice y.fa y.m.fields.length y.fc] 30)) w6.heap.size _ _ _ _ := heap_alloc_new w6 _
              have q0 := fun o => (m6.below ((Below.refl w6.heap.size w6).alloc (Nat.le_refl _) o)).c0
              have q1 := fun o => (m6.below ((Below.refl w6.heap.size w6).alloc (Nat.le_refl _) o)).c1
              have q2 := fun o => (m6.below ((Below.refl w6.heap.size w6).alloc (Nat.le_refl _) o)).c2
              have q3 := fun o => (m6.below ((Below.refl w6.heap.size w6).alloc (Nat.le_refl _) o)).c3
              have n0 := m7.c0
              have n1 := m7.c1
              have n2 := m7.c2
              have n3 := m7.c3
              have B7 := Lib.hid (b6.trans (k7.mono b6.size))
              have BX7 := Lib.hid (bx6.below k7)
              have RF7 := Lib.hid (rf6.below k7)
              have HSM := Lib.hid (sameMail_refl y.m (hvl.out y (by simp)).1 ka4 kc4 fa4 fc4 y.ka y.kc y.fa y.fc _ (TwR.vals (TwR.below (TwR.chg TK5.out RF5.out.blk RF5.out.row g6) k7)) (TwR.vals (TwR.below (TwR.chg TF5.out RF5.out.blk RF5.out.row g6) k7)) ((hvl.out y (by simp)).2.1.below B7.out) ((hvl.out y (by simp)).2.2.below B7.out))
              clear m6 bx6 b6 k7 m7 rf6 g6
              go_wp2_with fail
              refine HSM.out.mono ?_
              rintro e w8 ⟨rfl, b8⟩
              have BX := Lib.hid (BX7.out.below b8)
              have RF := Lib.hid (RF7.out.below b8)
              have B := Lib.hid (B7.out.trans (b8.mono B7.out.size))
              have HV : Hid (Vl w t) := Lib.hid (fun z hz => hvl.out z (by simp [hz]))
              clear b8 q0 q1 q2 q3 n0 n1 n2 n3 BX7 RF7 B7
              go_wp2_with fail
              have kd : Below w8.heap.size w8 w8.drew := ⟨rfl, rfl, rfl, Nat.le_refl _, fun _ _ => rfl⟩
              have hdn : t.length ≤ k + 1 := by simp at hdk; omega
              have hcp2 : t.length ≤ CP := by have := BX.out.room; simpa using this
              have HLN := Lib.hid (len_any (BX.out.below kd))
              have HRM := Lib.hid (room_any (BX.out.below kd))
              rw [List.length_map] at HLN HRM
              rw [show ((CP - t.length : Nat) : Int) = (CP : Int) - (t.length : Int) by omega] at HRM
              have HST := Lib.hid (show w8.drew.cell? ⟨r, 0, none⟩ = some (.slice q6 t.length c6) ∧ w8.drew.cell? ⟨r, 1, none⟩ = some (.int .i64 CP) from ⟨(RF.out.below kd).c0, (RF.out.below kd).c1⟩)
              have RFD := Lib.hid (RF.out.below kd)
              have BXD := Lib.hid (BX.out.below kd)
              have BD := Lib.hid (B.out.trans (kd.mono B.out.size))
              have HK0 := Lib.hid (show w8.drew.cell? ⟨r, 0, none⟩ = some (.slice q6 t.length c6) ∧ w8.drew.cell? ⟨r, 1, none⟩ = some (.int .i64 CP) from HST.out)
              have hdi : (t.length : Int) ≤ (CP : Int) := by omega
              have hci : (CP : Int) ≤ 4096 := by omega
              clear kd
              refine wp_region_held_drew (S := (fun w7 => w7.cell? ⟨r, 0, none⟩ = some (.slice q6 t.length c6) ∧ w7.cell? ⟨r, 1, none⟩ = some (.int .i64 CP))) (by kernel_rfl) (by (try dsimp only); exact HST.out) (fun hHeld => ?_)
              refine takeW (v := ?_) 0 (by decide +kernel) (by decide +kernel) (by kernel_rfl) (by simp only [List.getElem?_toArray, List.getElem?_cons_succ, List.getElem?_cons_zero]; rfl) (by rfl) (by exact fun _ _ _ h => h) (by assumption) ?_ ?_
              rotate_left 1
              focus (intro w8 hSw; (try dsimp only at hSw); obtain ⟨s80, s81⟩ := hSw; go_simp; (try with_reducible rfl); done)
              try simp only [Act.put, List.setIfInBounds_toArray, List.set_cons_zero, List.set_cons_succ]
              refine takeW (v := ?_) 2 (by decide +kernel) (by decide +kernel) (by kernel_rfl) (by simp only [List.getElem?_toArray, List.getElem?_cons_succ, List.getElem?_cons_zero]; rfl) (by rfl) (by exact fun _ _ _ h => h) (by assumption) ?_ ?_
              rotate_left 1
              focus (intro w8 hSw; (try dsimp only at hSw); obtain ⟨s80, s81⟩ := hSw; go_simp; (try with_reducible rfl); done)
              try simp only [Act.put, List.setIfInBounds_toArray, List.set_cons_zero, List.set_cons_succ]
              refine takeW (v := ?_) 3 (by decide +kernel) (by decide +kernel) (by kernel_rfl) (by simp only [List.getElem?_toArray, List.getElem?_cons_succ, List.getElem?_cons_zero]; rfl) (by rfl) (by exact fun _ _ _ h => h) (by assumption) ?_ ?_
              rotate_left 1
              focus (intro w8 hSw; (try dsimp only at hSw); obtain ⟨s80, s81⟩ := hSw; go_simp; (try with_reducible rfl); done)
              try simp only [Act.put, List.setIfInBounds_toArray, List.set_cons_zero, List.set_cons_succ]
              refine takeW (v := ?_) 4 (by decide +kernel) (by decide +kernel) (by kernel_rfl) (by simp only [List.getElem?_toArray, List.getElem?_cons_succ, List.getElem?_cons_zero]; rfl) (by rfl) (by exact fun _ _ _ h => h) (by assumption) ?_ ?_
              rotate_left 1
              focus (intro w8 hSw; (try dsimp only at hSw); obtain ⟨s80, s81⟩ := hSw; go_simp; (try with_reducible rfl); done)
              try simp only [Act.put, List.setIfInBounds_toArray, List.set_cons_zero, List.set_cons_succ]
              refine takeW (v := ?_) 5 (by decide +kernel) (by decide +kernel) (by kernel_rfl) (by simp only [List.getElem?_toArray, List.getElem?_cons_succ, List.getElem?_cons_zero]; rfl) (by rfl) (by exact fun _ _ _ h => h) (by assumption) ?_ ?_
              rotate_left 1
              focus (intro w8 hSw; (try dsimp only at hSw); obtain ⟨s80, s81⟩ := hSw; go_simp; (try with_reducible rfl); done)
              try simp only [Act.put, List.setIfInBounds_toArray, List.set_cons_zero, List.set_cons_succ]
              refine takeW (v := ?_) 6 (by decide +kernel) (by decide +kernel) (by kernel_rfl) (by simp only [List.getElem?_toArray, List.getElem?_cons_succ, List.getElem?_cons_zero]; rfl) (by rfl) (by exact fun _ _ _ h => h) (by assumption) ?_ ?_
              rotate_left 1
              focus (intro w8 hSw; (try dsimp only at hSw); obtain ⟨s80, s81⟩ := hSw; go_simp; (try with_reducible rfl); done)
              try simp only [Act.put, List.setIfInBounds_toArray, List.set_cons_zero, List.set_cons_succ]
              refine wpAnyH_ready (rs := [1]) (by decide +kernel) (by simp) ?_
              refine AllReadyH.cons (by simp only [List.getElem?_toArray, List.getElem?_cons_succ, List.getElem?_cons_zero]; rfl) (fun K hK => ?_) AllReadyH.nil
              go_simp
              (go_at_call 17; with_reducible refine (HLN.out).mono ?_; rintro e w7 ⟨rfl, rfl⟩)
              go_wp2_with fail
              refine hK.out _ _ (by (try dsimp only); (first | assumption | exact HK0.out)) (fun hHeld => ?_)
              clear hK K
              try simp only [Act.put, List.setIfInBounds_toArray, List.set_cons_zero, List.set_cons_succ]
              refine takeW (v := .bool false) 7 (by decide +kernel) (by decide +kernel) (by kernel_rfl) (by simp only [List.getElem?_toArray, List.getElem?_cons_succ, List.getElem?_cons_zero]; rfl) (by rfl) (by exact fun _ _ _ h => h) (by assumption) ?_ ?_
              focus (intro w8 hSw; (try dsimp only at hSw); obtain ⟨s80, s81⟩ := hSw; go_simp; (try simp))
              try simp only [Act.put, List.setIfInBounds_toArray, List.set_cons_zero, List.set_cons_succ]
              refine takeW (v := ?_) 8 (by decide +kernel) (by decide +kernel) (by kernel_rfl) (by simp only [List.getElem?_toArray, List.getElem?_cons_succ, List.getElem?_cons_zero]; rfl) (by rfl) (by exact fun _ _ _ h => h) (by assumption) ?_ ?_
              rotate_left 1
              focus (intro w8 hSw; (try dsimp only at hSw); obtain ⟨s80, s81⟩ := hSw; go_simp; (try with_reducible rfl); done)
              try simp only [Act.put, List.setIfInBounds_toArray, List.set_cons_zero, List.set_cons_succ]
              refine takeW (v := ?_) 9 (by decide +kernel) (by decide +kernel) (by kernel_rfl) (by simp only [List.getElem?_toArray, List.getElem?_cons_succ, List.getElem?_cons_zero]; rfl) (by rfl) (by exact fun _ _ _ h => h) (by assumption) ?_ ?_
              rotate_left 1
              focus (intro w8 hSw; (try dsimp only at hSw); obtain ⟨s80, s81⟩ := hSw; go_simp; (try with_reducible rfl); done)
              try simp only [Act.put, List.setIfInBounds_toArray, List.set_cons_zero, List.set_cons_succ]
              refine takeW (v := ?_) 11 (by decide +kernel) (by decide +kernel) (by kernel_rfl) (by simp only [List.getElem?_toArray, List.getElem?_cons_succ, List.getElem?_cons_zero]; rfl) (by rfl) (by exact fun _ _ _ h => h) (by assumption) ?_ ?_
              rotate_left 1
              focus (intro w8 hSw; (try dsimp only at hSw); obtain ⟨s80, s81⟩ := hSw; go_simp; (try with_reducible rfl); done)
              try simp only [Act.put, List.setIfInBounds_toArray, List.set_cons_zero, List.set_cons_succ]
              refine takeW (v := ?_) 12 (by decide +kernel) (by decide +kernel) (by kernel_rfl) (by simp only [List.getElem?_toArray, List.getElem?_cons_succ, List.getElem?_cons_zero]; rfl) (by rfl) (by exact fun _ _ _ h => h) (by assumption) ?_ ?_
              rotate_left 1
              focus (intro w8 hSw; (try dsimp only at hSw); obtain ⟨s80, s81⟩ := hSw; go_simp; (try with_reducible rfl); done)
              try simp only [Act.put, List.setIfInBounds_toArray, List.set_cons_zero, List.set_cons_succ]
              refine takeW (v := ?_) 13 (by decide +kernel) (by decide +kernel) (by kernel_rfl) (by simp only [List.getElem?_toArray, List.getElem?_cons_succ, List.getElem?_cons_zero]; rfl) (by rfl) (by exact fun _ _ _ h => h) (by assumption) ?_ ?_
              rotate_left 1
              focus (intro w8 hSw; (try dsimp only at hSw); obtain ⟨s80, s81⟩ := hSw; go_simp; (try with_reducible rfl); done)
              try simp only [Act.put, List.setIfInBounds_toArray, List.set_cons_zero, List.set_cons_succ]
              refine takeW (v := ?_) 14 (by decide +kernel) (by decide +kernel) (by kernel_rfl) (by simp only [List.getElem?_toArray, List.getElem?_cons_succ, List.getElem?_cons_zero]; rfl) (by rfl) (by exact fun _ _ _ h => h) (by assumption) ?_ ?_
              rotate_left 1
              focus (intro w8 hSw; (try dsimp only at hSw); obtain ⟨s80, s81⟩ := hSw; go_simp; (try with_reducible rfl); done)
              try simp only [Act.put, List.setIfInBounds_toArray, List.set_cons_zero, List.set_cons_succ]
              refine takeW (v := ?_) 15 (by decide +kernel) (by decide +kernel) (by kernel_rfl) (by simp only [List.getElem?_toArray, List.getElem?_cons_succ, List.getElem?_cons_zero]; rfl) (by rfl) (by exact fun _ _ _ h => h) (by assumption) ?_ ?_
              rotate_left 1
              focus (intro w8 hSw; (try dsimp only at hSw); obtain ⟨s80, s81⟩ := hSw; go_simp; (try with_reducible rfl); done)
              try simp only [Act.put, List.setIfInBounds_toArray, List.set_cons_zero, List.set_cons_succ]
              refine takeW (v := ?_) 16 (by decide +kernel) (by decide +kernel) (by kernel_rfl) (by simp only [List.getElem?_toArray, List.getElem?_cons_succ, List.getElem?_cons_zero]; rfl) (by rfl) (by exact fun _ _ _ h => h) (by assumption) ?_ ?_
              rotate_left 1
              focus (intro w8 hSw; (try dsimp only at hSw); obtain ⟨s80, s81⟩ := hSw; go_simp; (try with_reducible rfl); done)
              try simp only [Act.put, List.setIfInBounds_toArray, List.set_cons_zero, List.set_cons_succ]
              refine takeW (v := ?_) 17 (by decide +kernel) (by decide +kernel) (by kernel_rfl) (by simp only [List.getElem?_toArray, List.getElem?_cons_succ, List.getElem?_cons_zero]; rfl) (by rfl) (by exact fun _ _ _ h => h) (by assumption) ?_ ?_
              rotate_left 1
              focus (intro w8 hSw; (try dsimp only at hSw); obtain ⟨s80, s81⟩ := hSw; go_simp; (try with_reducible rfl); done)
              try simp only [Act.put, List.setIfInBounds_toArray, List.set_cons_zero, List.set_cons_succ]
              refine takeW (v := ?_) 18 (by decide +kernel) (by decide +kernel) (by kernel_rfl) (by simp only [List.getElem?_toArray, List.getElem?_cons_succ, List.getElem?_cons_zero]; rfl) (by rfl) (by exact fun _ _ _ h => h) (by assumption) ?_ ?_
              rotate_left 1
              focus (intro w8 hSw; (try dsimp only at hSw); obtain ⟨s80, s81⟩ := hSw; go_simp; (try with_reducible rfl); done)
              try simp only [Act.put, List.setIfInBounds_toArray, List.set_cons_zero, List.set_cons_succ]
              refine takeW (v := ?_) 19 (by decide +kernel) (by decide +kernel) (by kernel_rfl) (by simp only [List.getElem?_toArray, List.getElem?_cons_succ, List.getElem?_cons_zero]; rfl) (by rfl) (by exact fun _ _ _ h => h) (by assumption) ?_ ?_
              rotate_left 1
              focus (intro w8 hSw; (try dsimp only at hSw); obtain ⟨s80, s81⟩ := hSw; go_simp; (try with_reducible rfl); done)
              try simp only [Act.put, List.setIfInBounds_toArray, List.set_cons_zero, List.set_cons_succ]
              refine takeW (v := ?_) 20 (by decide +kernel) (by decide +kernel) (by kernel_rfl) (by simp only [List.getElem?_toArray, List.getElem?_cons_succ, List.getElem?_cons_zero]; rfl) (by rfl) (by exact fun _ _ _ h => h) (by assumption) ?_ ?_
              rotate_left 1
              focus (intro w8 hSw; (try dsimp only at hSw); obtain ⟨s80, s81⟩ := hSw; go_simp; (try with_reducible rfl); done)
              try simp only [Act.put, List.setIfInBounds_toArray, List.set_cons_zero, List.set_cons_succ]
              refine wpAnyH_ready (rs := [10]) (by decide +kernel) (by simp) ?_
              refine AllReadyH.cons (by simp only [List.getElem?_toArray, List.getElem?_cons_succ, List.getElem?_cons_zero]; rfl) (fun K hK => ?_) AllReadyH.nil
              go_simp
              (go_at_call 18; with_reducible refine (HRM.out).mono ?_; rintro e w7 ⟨rfl, b7⟩)
              have BX7 := Lib.hid (BXD.out.below b7)
              have RF7 := Lib.hid (RFD.out.below b7)
              have B7 := Lib.hid (BD.out.trans (b7.mono BD.out.size))
              have HK7 := Lib.hid (show w7.cell? ⟨r, 0, none⟩ = some (.slice q6 t.length c6) ∧ w7.cell? ⟨r, 1, none⟩ = some (.int .i64 CP) from ⟨RF7.out.c0, RF7.out.c1⟩)
              clear b7
              go_wp2_with fail
              refine hK.out _ _ (by (try dsimp only); (first | assumption | exact HK7.out)) (fun hHeld => ?_)
              clear hK K
              try simp only [Act.put, List.setIfInBounds_toArray, List.set_cons_zero, List.set_cons_succ]
              refine takeW (v := .bool false) 21 (by decide +kernel) (by decide +kernel) (by kernel_rfl) (by simp only [List.getElem?_toArray, List.getElem?_cons_succ, List.getElem?_cons_zero]; rfl) (by rfl) (by exact fun _ _ _ h => h) (by assumption) ?_ ?_
              focus (intro w8 hSw; (try dsimp only at hSw); obtain ⟨s80, s81⟩ := hSw; go_simp; (try simp); (try rw [IntKind.wrap_i64]); (try omega))
              try simp only [Act.put, List.setIfInBounds_toArray, List.set_cons_zero, List.set_cons_succ]
              refine takeW (v := ?_) 22 (by decide +kernel) (by decide +kernel) (by kernel_rfl) (by simp only [List.getElem?_toArray, List.getElem?_cons_succ, List.getElem?_cons_zero]; rfl) (by rfl) (by exact fun _ _ _ h => h) (by assumption) ?_ ?_
              rotate_left 1
              focus (intro w8 hSw; (try dsimp only at hSw); obtain ⟨s80, s81⟩ := hSw; go_simp; (try with_reducible rfl); done)
              try simp only [Act.put, List.setIfInBounds_toArray, List.set_cons_zero, List.set_cons_succ]
              refine wpAnyH_done (by decide +kernel) ?_ _
              go_wp2_with fail
              go_roundw
              case rel => exact ⟨k + 1, by omega, by go_num, q6, c6, t, BX7.out, RF7.out, B7.out, hdn, HV⟩
              case measure => simp [intOf]; omega
          · skip
            have kd : Below wA.heap.size wA wA.drew := ⟨rfl, rfl, rfl, Nat.le_refl _, fun _ _ => rfl⟩
            have RFD := Lib.hid (RF.out.below kd)
            have BXD := Lib.hid (BX.out.below kd)
            have BD := Lib.hid (B.out.trans (kd.mono B.out.size))
            have HST := Lib.hid (show wA.drew.cell? ⟨r, 0, none⟩ = some (.slice q d.length c) from RFD.out.c0)
            have HAL := Lib.hid (all_any BXD.out (fun m hm => ⟨(hvl.out.msh m hm).big, Nat.le_trans (hvl.out.msh m hm).key (by omega), Nat.le_trans (hvl.out.msh m hm).fields (by omega)⟩))
            unfold Alled at HAL
            clear kd x0
            refine wp_region_held_drew (S := (fun w7 => w7.cell? ⟨r, 0, none⟩ = some (.slice q d.length c))) (by kernel_rfl) (by (try dsimp only); exact HST.out) (fun hHeld => ?_)
            refine takeW (v := ?_) 0 (by decide +kernel) (by decide +kernel) (by kernel_rfl) (by simp only [List.getElem?_toArray, List.getElem?_cons_succ, List.getElem?_cons_zero]; rfl) (by rfl) (by exact fun _ _ _ h => h) (by assumption) ?_ ?_
            rotate_left 1
            focus (intro w8 hSw; (try dsimp only at hSw); go_simp; (try with_reducible rfl); done)
            try simp only [Act.put, List.setIfInBounds_toArray, List.set_cons_zero, List.set_cons_succ]
            refine takeW (v := ?_) 2 (by decide +kernel) (by decide +kernel) (by kernel_rfl) (by simp only [List.getElem?_toArray, List.getElem?_cons_succ, List.getElem?_cons_zero]; rfl) (by rfl) (by exact fun _ _ _ h => h) (by assumption) ?_ ?_
            rotate_left 1
            focus (intro w8 hSw; (try dsimp only at hSw); go_simp; (try with_reducible rfl); done)
            try simp only [Act.put, List.setIfInBounds_toArray, List.set_cons_zero, List.set_cons_succ]
            refine takeW (v := ?_) 3 (by decide +kernel) (by decide +kernel) (by kernel_rfl) (by simp only [List.getElem?_toArray, List.getElem?_cons_succ, List.getElem?_cons_zero]; rfl) (by rfl) (by exact fun _ _ _ h => h) (by assumption) ?_ ?_
            rotate_left 1
            focus (intro w8 hSw; (try dsimp only at hSw); go_simp; (try with_reducible rfl); done)
            try simp only [Act.put, List.setIfInBounds_toArray, List.set_cons_zero, List.set_cons_succ]
            refine takeW (v := ?_) 4 (by decide +kernel) (by decide +kernel) (by kernel_rfl) (by simp only [List.getElem?_toArray, List.getElem?_cons_succ, List.getElem?_cons_zero]; rfl) (by rfl) (by exact fun _ _ _ h => h) (by assumption) ?_ ?_
            rotate_left 1
            focus (intro w8 hSw; (try dsimp only at hSw); go_simp; (try with_reducible rfl); done)
            try simp only [Act.put, List.setIfInBounds_toArray, List.set_cons_zero, List.set_cons_succ]
            refine takeW (v := ?_) 5 (by decide +kernel) (by decide +kernel) (by kernel_rfl) (by simp only [List.getElem?_toArray, List.getElem?_cons_succ, List.getElem?_cons_zero]; rfl) (by rfl) (by exact fun _ _ _ h => h) (by assumption) ?_ ?_
            rotate_left 1
            focus (intro w8 hSw; (try dsimp only at hSw); go_simp; (try with_reducible rfl); done)
            try simp only [Act.put, List.setIfInBounds_toArray, List.set_cons_zero, List.set_cons_succ]
            refine wpAnyH_ready (rs := [1]) (by decide +kernel) (by simp) ?_
            refine AllReadyH.cons (by simp only [List.getElem?_toArray, List.getElem?_cons_succ, List.getElem?_cons_zero]; rfl) (fun K hK => ?_) AllReadyH.nil
            go_simp
            (go_at_call 14; with_reducible refine (HAL.out).mono ?_; rintro e w7 ⟨⟨⟨q2, d2, cp2, rfl, hd2, ho2⟩, hst2⟩, o7⟩)
            have RF7 := Lib.hid (RFD.out.onl BXD.out.nochan o7)
            have BX7 := Lib.hid (hst2 w7 fun _ _ => rfl)
            have B7 := Lib.hid (o7.then BD.out HLO.out BD.out.size)
            have hd2l : d2.length = d.length := by have := congrArg List.length hd2; simpa using this
            have HSB := sameBox_refl (d.map (·.m)) hvl.out.msh (by simp; omega) q2 q cp2 c w7 (ho2.mails hd2) (RF7.out.row.mails hvl.out B7.out)
            rw [List.length_map] at HSB
            rw [hd2l]
            have HSB := Lib.hid HSB
            have HK7 := Lib.hid (show w7.cell? ⟨r, 0, none⟩ = some (.slice q d.length c) from RF7.out.c0)
            clear hd2 ho2 hst2 o7 hd2l
            go_wp2_with fail
            refine hK.out _ _ (by (try dsimp only); (first | assumption | exact HK7.out)) (fun hHeld => ?_)
            clear hK K
            try simp only [Act.put, List.setIfInBounds_toArray, List.set_cons_zero, List.set_cons_succ]
            refine wpAnyH_ready (rs := [6]) (by decide +kernel) (by simp) ?_
            refine AllReadyH.cons (by simp only [List.getElem?_toArray, List.getElem?_cons_succ, List.getElem?_cons_zero]; rfl) (fun K hK => ?_) AllReadyH.nil
            go_simp
            (go_at_call 13; with_reducible refine (HSB.out).mono ?_; rintro e w8 ⟨rfl, b8⟩)
            have BX8 := Lib.hid (BX7.out.below b8)
            have RF8 := Lib.hid (RF7.out.below b8)
            have B8 := Lib.hid (B7.out.trans (b8.mono B7.out.size))
            have HK8 := Lib.hid (show w8.cell? ⟨r, 0, none⟩ = some (.slice q d.length c) from RF8.out.c0)
            clear b8
            go_wp2_with fail
            refine hK.out _ _ (by (try dsimp only); (first | assumption | exact HK8.out)) (fun hHeld => ?_)
            clear hK K
            try simp only [Act.put, List.setIfInBounds_toArray, List.set_cons_zero, List.set_cons_succ]
            refine takeW (v := .bool false) 7 (by decide +kernel) (by decide +kernel) (by kernel_rfl) (by simp only [List.getElem?_toArray, List.getElem?_cons_succ, List.getElem?_cons_zero]; rfl) (by rfl) (by exact fun _ _ _ h => h) (by assumption) ?_ ?_
            focus (intro w8 hSw; (try dsimp only at hSw); go_simp; (try simp))
            try simp only [Act.put, List.setIfInBounds_toArray, List.set_cons_zero, List.set_cons_succ]
            refine wpAnyH_done (by decide +kernel) ?_ _
            have BX := BX8
            have RF := RF8
            have B := B8
            have HV := hvl
            clear BX7 RF7 B7 HSB HK7 HK8 BX8 RF8 B8 HST RFD BXD BD HAL
            go_wp2_with fail
            have kd : Below w8.heap.size w8 w8.drew := ⟨rfl, rfl, rfl, Nat.le_refl _, fun _ _ => rfl⟩
            have hdn : d.length ≤ k + 1 := by omega
            have hcp2 : d.length ≤ CP := by have := BX.out.room; simpa using this
            have HLN := Lib.hid (len_any (BX.out.below kd))
            have HRM := Lib.hid (room_any (BX.out.below kd))
            rw [List.length_map] at HLN HRM
            rw [show ((CP - d.length : Nat) : Int) = (CP : Int) - (d.length : Int) by omega] at HRM
            have HST := Lib.hid (show w8.drew.cell? ⟨r, 0, none⟩ = some (.slice q d.length c) ∧ w8.drew.cell? ⟨r, 1, none⟩ = some (.int .i64 CP) from ⟨(RF.out.below kd).c0, (RF.out.below kd).c1⟩)
            have RFD := Lib.hid (RF.out.below kd)
            have BXD := Lib.hid (BX.out.below kd)
            have BD := Lib.hid (B.out.trans (kd.mono B.out.size))
            have HK0 := Lib.hid (show w8.drew.cell? ⟨r, 0, none⟩ = some (.slice q d.length c) ∧ w8.drew.cell? ⟨r, 1, none⟩ = some (.int .i64 CP) from HST.out)
            have hdi : (d.length : Int) ≤ (CP : Int) := by omega
            have hci : (CP : Int) ≤ 4096 := by omega
            clear kd
            refine wp_region_held_drew (S := (fun w7 => w7.cell? ⟨r, 0, none⟩ = some (.slice q d.length c) ∧ w7.cell? ⟨r, 1, none⟩ = some (.int .i64 CP))) (by kernel_rfl) (by (try dsimp only); exact HST.out) (fun hHeld => ?_)
            refine takeW (v := ?_) 0 (by decide +kernel) (by decide +kernel) (by kernel_rfl) (by simp only [List.getElem?_toArray, List.getElem?_cons_succ, List.getElem?_cons_zero]; rfl) (by rfl) (by exact fun _ _ _ h => h) (by assumption) ?_ ?_
            rotate_left 1
            focus (intro w8 hSw; (try dsimp only at hSw); obtain ⟨s80, s81⟩ := hSw; go_simp; (try with_reducible rfl); done)
            try simp only [Act.put, List.setIfInBounds_toArray, List.set_cons_zero, List.set_cons_succ]
            refine takeW (v := ?_) 2 (by decide +kernel) (by decide +kernel) (by kernel_rfl) (by simp only [List.getElem?_toArray, List.getElem?_cons_succ, List.getElem?_cons_zero]; rfl) (by rfl) (by exact fun _ _ _ h => h) (by assumption) ?_ ?_
            rotate_left 1
            focus (intro w8 hSw; (try dsimp only at hSw); obtain ⟨s80, s81⟩ := hSw; go_simp; (try with_reducible rfl); done)
            try simp only [Act.put, List.setIfInBounds_toArray, List.set_cons_zero, List.set_cons_succ]
            refine takeW (v := ?_) 3 (by decide +kernel) (by decide +kernel) (by kernel_rfl) (by simp only [List.getElem?_toArray, List.getElem?_cons_succ, List.getElem?_cons_zero]; rfl) (by rfl) (by exact fun _ _ _ h => h) (by assumption) ?_ ?_
            rotate_left 1
            focus (intro w8 hSw; (try dsimp only at hSw); obtain ⟨s80, s81⟩ := hSw; go_simp; (try with_reducible rfl); done)
            try simp only [Act.put, List.setIfInBounds_toArray, List.set_cons_zero, List.set_cons_succ]
            refine takeW (v := ?_) 4 (by decide +kernel) (by decide +kernel) (by kernel_rfl) (by simp only [List.getElem?_toArray, List.getElem?_cons_succ, List.getElem?_cons_zero]; rfl) (by rfl) (by exact fun _ _ _ h => h) (by assumption) ?_ ?_
            rotate_left 1
            focus (intro w8 hSw; (try dsimp only at hSw); obtain ⟨s80, s81⟩ := hSw; go_simp; (try with_reducible rfl); done)
            try simp only [Act.put, List.setIfInBounds_toArray, List.set_cons_zero, List.set_cons_succ]
            refine takeW (v := ?_) 5 (by decide +kernel) (by decide +kernel) (by kernel_rfl) (by simp only [List.getElem?_toArray, List.getElem?_cons_succ, List.getElem?_cons_zero]; rfl) (by rfl) (by exact fun _ _ _ h => h) (by assumption) ?_ ?_
            rotate_left 1
            focus (intro w8 hSw; (try dsimp only at hSw); obtain ⟨s80, s81⟩ := hSw; go_simp; (try with_reducible rfl); done)
            try simp only [Act.put, List.setIfInBounds_toArray, List.set_cons_zero, List.set_cons_succ]
            refine takeW (v := ?_) 6 (by decide +kernel) (by decide +kernel) (by kernel_rfl) (by simp only [List.getElem?_toArray, List.getElem?_cons_succ, List.getElem?_cons_zero]; rfl) (by rfl) (by exact fun _ _ _ h => h) (by assumption) ?_ ?_
            rotate_left 1
            focus (intro w8 hSw; (try dsimp only at hSw); obtain ⟨s80, s81⟩ := hSw; go_simp; (try with_reducible rfl); done)
            try simp only [Act.put, List.setIfInBounds_toArray, List.set_cons_zero, List.set_cons_succ]
            refine wpAnyH_ready (rs := [1]) (by decide +kernel) (by simp) ?_
            refine AllReadyH.cons (by simp only [List.getElem?_toArray, List.getElem?_cons_succ, List.getElem?_cons_zero]; rfl) (fun K hK => ?_) AllReadyH.nil
            go_simp
            (go_at_call 17; with_reducible refine (HLN.out).mono ?_; rintro e w7 ⟨rfl, rfl⟩)
            go_wp2_with fail
            refine hK.out _ _ (by (try dsimp only); (first | assumption | exact HK0.out)) (fun hHeld => ?_)
            clear hK K
            try simp only [Act.put, List.setIfInBounds_toArray, List.set_cons_zero, List.set_cons_succ]
            refine takeW (v := .bool false) 7 (by decide +kernel) (by decide +kernel) (by kernel_rfl) (by simp only [List.getElem?_toArray, List.getElem?_cons_succ, List.getElem?_cons_zero]; rfl) (by rfl) (by exact fun _ _ _ h => h) (by assumption) ?_ ?_
            focus (intro w8 hSw; (try dsimp only at hSw); obtain ⟨s80, s81⟩ := hSw; go_simp; (try simp))
            try simp only [Act.put, List.setIfInBounds_toArray, List.set_cons_zero, List.set_cons_succ]
            refine takeW (v := ?_) 8 (by decide +kernel) (by decide +kernel) (by kernel_rfl) (by simp only [List.getElem?_toArray, List.getElem?_cons_succ, List.getElem?_cons_zero]; rfl) (by rfl) (by exact fun _ _ _ h => h) (by assumption) ?_ ?_
            rotate_left 1
            focus (intro w8 hSw; (try dsimp only at hSw); obtain ⟨s80, s81⟩ := hSw; go_simp; (try with_reducible rfl); done)
            try simp only [Act.put, List.setIfInBounds_toArray, List.set_cons_zero, List.set_cons_succ]
            refine takeW (v := ?_) 9 (by decide +kernel) (by decide +kernel) (by kernel_rfl) (by simp only [List.getElem?_toArray, List.getElem?_cons_succ, List.getElem?_cons_zero]; rfl) (by rfl) (by exact fun _ _ _ h => h) (by assumption) ?_ ?_
            rotate_left 1
            focus (intro w8 hSw; (try dsimp only at hSw); obtain ⟨s80, s81⟩ := hSw; go_simp; (try with_reducible rfl); done)
            try simp only [Act.put, List.setIfInBounds_toArray, List.set_cons_zero, List.set_cons_succ]
            refine takeW (v := ?_) 11 (by decide +kernel) (by decide +kernel) (by kernel_rfl) (by simp only [List.getElem?_toArray, List.getElem?_cons_succ, List.getElem?_cons_zero]; rfl) (by rfl) (by exact fun _ _ _ h => h) (by assumption) ?_ ?_
            rotate_left 1
            focus (intro w8 hSw; (try dsimp only at hSw); obtain ⟨s80, s81⟩ := hSw; go_simp; (try with_reducible rfl); done)
            try simp only [Act.put, List.setIfInBounds_toArray, List.set_cons_zero, List.set_cons_succ]
            refine takeW (v := ?_) 12 (by decide +kernel) (by decide +kernel) (by kernel_rfl) (by simp only [List.getElem?_toArray, List.getElem?_cons_succ, List.getElem?_cons_zero]; rfl) (by rfl) (by exact fun _ _ _ h => h) (by assumption) ?_ ?_
            rotate_left 1
            focus (intro w8 hSw; (try dsimp only at hSw); obtain ⟨s80, s81⟩ := hSw; go_simp; (try with_reducible rfl); done)
            try simp only [Act.put, List.setIfInBounds_toArray, List.set_cons_zero, List.set_cons_succ]
            refine takeW (v := ?_) 13 (by decide +kernel) (by decide +kernel) (by kernel_rfl) (by simp only [List.getElem?_toArray, List.getElem?_cons_succ, List.getElem?_cons_zero]; rfl) (by rfl) (by exact fun _ _ _ h => h) (by assumption) ?_ ?_
            rotate_left 1
            focus (intro w8 hSw; (try dsimp only at hSw); obtain ⟨s80, s81⟩ := hSw; go_simp; (try with_reducible rfl); done)
            try simp only [Act.put, List.setIfInBounds_toArray, List.set_cons_zero, List.set_cons_succ]
            refine takeW (v := ?_) 14 (by decide +kernel) (by decide +kernel) (by kernel_rfl) (by simp only [List.getElem?_toArray, List.getElem?_cons_succ, List.getElem?_cons_zero]; rfl) (by rfl) (by exact fun _ _ _ h => h) (by assumption) ?_ ?_
            rotate_left 1
            focus (intro w8 hSw; (try dsimp only at hSw); obtain ⟨s80, s81⟩ := hSw; go_simp; (try with_reducible rfl); done)
            try simp only [Act.put, List.setIfInBounds_toArray, List.set_cons_zero, List.set_cons_succ]
            refine takeW (v := ?_) 15 (by decide +kernel) (by decide +kernel) (by kernel_rfl) (by simp only [List.getElem?_toArray, List.getElem?_cons_succ, List.getElem?_cons_zero]; rfl) (by rfl) (by exact fun _ _ _ h => h) (by assumption) ?_ ?_
            rotate_left 1
            focus (intro w8 hSw; (try dsimp only at hSw); obtain ⟨s80, s81⟩ := hSw; go_simp; (try with_reducible rfl); done)
            try simp only [Act.put, List.setIfInBounds_toArray, List.set_cons_zero, List.set_cons_succ]
            refine takeW (v := ?_) 16 (by decide +kernel) (by decide +kernel) (by kernel_rfl) (by simp only [List.getElem?_toArray, List.getElem?_cons_succ, List.getElem?_cons_zero]; rfl) (by rfl) (by exact fun _ _ _ h => h) (by assumption) ?_ ?_
            rotate_left 1
            focus (intro w8 hSw; (try dsimp only at hSw); obtain ⟨s80, s81⟩ := hSw; go_simp; (try with_reducible rfl); done)
            try simp only [Act.put, List.setIfInBounds_toArray, List.set_cons_zero, List.set_cons_succ]
            refine takeW (v := ?_) 17 (by decide +kernel) (by decide +kernel) (by kernel_rfl) (by simp only [List.getElem?_toArray, List.getElem?_cons_succ, List.getElem?_cons_zero]; rfl) (by rfl) (by exact fun _ _ _ h => h) (by assumption) ?_ ?_
            rotate_left 1
            focus (intro w8 hSw; (try dsimp only at hSw); obtain ⟨s80, s81⟩ := hSw; go_simp; (try with_reducible rfl); done)
            try simp only [Act.put, List.setIfInBounds_toArray, List.set_cons_zero, List.set_cons_succ]
            refine takeW (v := ?_) 18 (by decide +kernel) (by decide +kernel) (by kernel_rfl) (by simp only [List.getElem?_toArray, List.getElem?_cons_succ, List.getElem?_cons_zero]; rfl) (by rfl) (by exact fun _ _ _ h => h) (by assumption) ?_ ?_
            rotate_left 1
            focus (intro w8 hSw; (try dsimp only at hSw); obtain ⟨s80, s81⟩ := hSw; go_simp; (try with_reducible rfl); done)
            try simp only [Act.put, List.setIfInBounds_toArray, List.set_cons_zero, List.set_cons_succ]
            refine takeW (v := ?_) 19 (by decide +kernel) (by decide +kernel) (by kernel_rfl) (by simp only [List.getElem?_toArray, List.getElem?_cons_succ, List.getElem?_cons_zero]; rfl) (by rfl) (by exact fun _ _ _ h => h) (by assumption) ?_ ?_
            rotate_left 1
            focus (intro w8 hSw; (try dsimp only at hSw); obtain ⟨s80, s81⟩ := hSw; go_simp; (try with_reducible rfl); done)
            try simp only [Act.put, List.setIfInBounds_toArray, List.set_cons_zero, List.set_cons_succ]
            refine takeW (v := ?_) 20 (by decide +kernel) (by decide +kernel) (by kernel_rfl) (by simp only [List.getElem?_toArray, List.getElem?_cons_succ, List.getElem?_cons_zero]; rfl) (by rfl) (by exact fun _ _ _ h => h) (by assumption) ?_ ?_
            rotate_left 1
            focus (intro w8 hSw; (try dsimp only at hSw); obtain ⟨s80, s81⟩ := hSw; go_simp; (try with_reducible rfl); done)
            try simp only [Act.put, List.setIfInBounds_toArray, List.set_cons_zero, List.set_cons_succ]
            refine wpAnyH_ready (rs := [10]) (by decide +kernel) (by simp) ?_
            refine AllReadyH.cons (by simp only [List.getElem?_toArray, List.getElem?_cons_succ, List.getElem?_cons_zero]; rfl) (fun K hK => ?_) AllReadyH.nil
            go_simp
            (go_at_call 18; with_reducible refine (HRM.out).mono ?_; rintro e w7 ⟨rfl, b7⟩)
            have BX7 := Lib.hid (BXD.out.below b7)
            have RF7 := Lib.hid (RFD.out.below b7)
            have B7 := Lib.hid (BD.out.trans (b7.mono BD.out.size))
            have HK7 := Lib.hid (show w7.cell? ⟨r, 0, none⟩ = some (.slice q d.length c) ∧ w7.cell? ⟨r, 1, none⟩ = some (.int .i64 CP) from ⟨RF7.out.c0, RF7.out.c1⟩)
            clear b7
            go_wp2_with fail
            refine hK.out _ _ (by (try dsimp only); (first | assumption | exact HK7.out)) (fun hHeld => ?_)
            clear hK K
            try simp only [Act.put, List.setIfInBounds_toArray, List.set_cons_zero, List.set_cons_succ]
            refine takeW (v := .bool false) 21 (by decide +kernel) (by decide +kernel) (by kernel_rfl) (by simp only [List.getElem?_toArray, List.getElem?_cons_succ, List.getElem?_cons_zero]; rfl) (by rfl) (by exact fun _ _ _ h => h) (by assumption) ?_ ?_
            focus (intro w8 hSw; (try dsimp only at hSw); obtain ⟨s80, s81⟩ := hSw; go_simp; (try simp); (try rw [IntKind.wrap_i64]); (try omega))
            try simp only [Act.put, List.setIfInBounds_toArray, List.set_cons_zero, List.set_cons_succ]
            refine takeW (v := ?_) 22 (by decide +kernel) (by decide +kernel) (by kernel_rfl) (by simp only [List.getElem?_toArray, List.getElem?_cons_succ, List.getElem?_cons_zero]; rfl) (by rfl) (by exact fun _ _ _ h => h) (by assumption) ?_ ?_
            rotate_left 1
            focus (intro w8 hSw; (try dsimp only at hSw); obtain ⟨s80, s81⟩ := hSw; go_simp; (try with_reducible rfl); done)
            try simp only [Act.put, List.setIfInBounds_toArray, List.set_cons_zero, List.set_cons_succ]
            refine wpAnyH_done (by decide +kernel) ?_ _
            go_wp2_with fail
            go_roundw
            case rel => exact ⟨k + 1, by omega, by go_num, q, c, d, BX7.out, RF7.out, B7.out, hdn, HV⟩
            case measure => simp [intOf]; omega
          · skip
            have kd : Below wA.heap.size wA wA.drew := ⟨rfl, rfl, rfl, Nat.le_refl _, fun _ _ => rfl⟩
            have RFD := Lib.hid (RF.out.below kd)
            have BXD := Lib.hid (BX.out.below kd)
            have BD := Lib.hid (B.out.trans (kd.mono B.out.size))
            have HST := Lib.hid (show wA.drew.cell? ⟨r, 0, none⟩ = some (.slice q d.length c) from RFD.out.c0)
            have HAL := Lib.hid (all_any BXD.out (fun m hm => ⟨(hvl.out.msh m hm).big, Nat.le_trans (hvl.out.msh m hm).key (by omega), Nat.le_trans (hvl.out.msh m hm).fields (by omega)⟩))
            unfold Alled at HAL
            clear kd x0
            refine wp_region_held_drew (S := (fun w7 => w7.cell? ⟨r, 0, none⟩ = some (.slice q d.length c))) (by kernel_rfl) (by (try dsimp only); exact HST.out) (fun hHeld => ?_)
            refine takeW (v := ?_) 0 (by decide +kernel) (by decide +kernel) (by kernel_rfl) (by simp only [List.getElem?_toArray, List.getElem?_cons_succ, List.getElem?_cons_zero]; rfl) (by rfl) (by exact fun _ _ _ h => h) (by assumption) ?_ ?_
            rotate_left 1
            focus (intro w8 hSw; (try dsimp only at hSw); go_simp; (try with_reducible rfl); done)
            try simp only [Act.put, List.setIfInBounds_toArray, List.set_cons_zero, List.set_cons_succ]
            refine takeW (v := ?_) 2 (by decide +kernel) (by decide +kernel) (by kernel_rfl) (by simp only [List.getElem?_toArray, List.getElem?_cons_succ, List.getElem?_cons_zero]; rfl) (by rfl) (by exact fun _ _ _ h => h) (by assumption) ?_ ?_
            rotate_left 1
            focus (intro w8 hSw; (try dsimp only at hSw); go_simp; (try with_reducible rfl); done)
            try simp only [Act.put, List.setIfInBounds_toArray, List.set_cons_zero, List.set_cons_succ]
            refine takeW (v := ?_) 3 (by decide +kernel) (by decide +kernel) (by kernel_rfl) (by simp only [List.getElem?_toArray, List.getElem?_cons_succ, List.getElem?_cons_zero]; rfl) (by rfl) (by exact fun _ _ _ h => h) (by assumption) ?_ ?_
            rotate_left 1
            focus (intro w8 hSw; (try dsimp only at hSw); go_simp; (try with_reducible rfl); done)
            try simp only [Act.put, List.setIfInBounds_toArray, List.set_cons_zero, List.set_cons_succ]
            refine takeW (v := ?_) 4 (by decide +kernel) (by decide +kernel) (by kernel_rfl) (by simp only [List.getElem?_toArray, List.getElem?_cons_succ, List.getElem?_cons_zero]; rfl) (by rfl) (by exact fun _ _ _ h => h) (by assumption) ?_ ?_
            rotate_left 1
            focus (intro w8 hSw; (try dsimp only at hSw); go_simp; (try with_reducible rfl); done)
            try simp only [Act.put, List.setIfInBounds_toArray, List.set_cons_zero, List.set_cons_succ]
            refine takeW (v := ?_) 5 (by decide +kernel) (by decide +kernel) (by kernel_rfl) (by simp only [List.getElem?_toArray, List.getElem?_cons_succ, List.getElem?_cons_zero]; rfl) (by rfl) (by exact fun _ _ _ h => h) (by assumption) ?_ ?_
            rotate_left 1
            focus (intro w8 hSw; (try dsimp only at hSw); go_simp; (try with_reducible rfl); done)
            try simp only [Act.put, List.setIfInBounds_toArray, List.set_cons_zero, List.set_cons_succ]
            refine wpAnyH_ready (rs := [1]) (by decide +kernel) (by simp) ?_
            refine AllReadyH.cons (by simp only [List.getElem?_toArray, List.getElem?_cons_succ, List.getElem?_cons_zero]; rfl) (fun K hK => ?_) AllReadyH.nil
            go_simp
            (go_at_call 14; with_reducible refine (HAL.out).mono ?_; rintro e w7 ⟨⟨⟨q2, d2, cp2, rfl, hd2, ho2⟩, hst2⟩, o7⟩)
            have RF7 := Lib.hid (RFD.out.onl BXD.out.nochan o7)
            have BX7 := Lib.hid (hst2 w7 fun _ _ => rfl)
            have B7 := Lib.hid (o7.then BD.out HLO.out BD.out.size)
            have hd2l : d2.length = d.length := by have := congrArg List.length hd2; simpa using this
            have HSB := sameBox_refl (d.map (·.m)) hvl.out.msh (by simp; omega) q2 q cp2 c w7 (ho2.mails hd2) (RF7.out.row.mails hvl.out B7.out)
            rw [List.length_map] at HSB
            rw [hd2l]
            have HSB := Lib.hid HSB
            have HK7 := Lib.hid (show w7.cell? ⟨r, 0, none⟩ = some (.slice q d.length c) from RF7.out.c0)
            clear hd2 ho2 hst2 o7 hd2l
            go_wp2_with fail
            refine hK.out _ _ (by (try dsimp only); (first | assumption | exact HK7.out)) (fun hHeld => ?_)
            clear hK K
            try simp only [Act.put, List.setIfInBounds_toArray, List.set_cons_zero, List.set_cons_succ]
            refine wpAnyH_ready (rs := [6]) (by decide +kernel) (by simp) ?_
            refine AllReadyH.cons (by simp only [List.getElem?_toArray, List.getElem?_cons_succ, List.getElem?_cons_zero]; rfl) (fun K hK => ?_) AllReadyH.nil
            go_simp
            (go_at_call 13; with_reducible refine (HSB.out).mono ?_; rintro e w8 ⟨rfl, b8⟩)
            have BX8 := Lib.hid (BX7.out.below b8)
            have RF8 := Lib.hid (RF7.out.below b8)
            have B8 := Lib.hid (B7.out.trans (b8.mono B7.out.size))
            have HK8 := Lib.hid (show w8.cell? ⟨r, 0, none⟩ = some (.slice q d.length c) from RF8.out.c0)
            clear b8
            go_wp2_with fail
            refine hK.out _ _ (by (try dsimp only); (first | assumption | exact HK8.out)) (fun hHeld => ?_)
            clear hK K
            try simp only [Act.put, List.setIfInBounds_toArray, List.set_cons_zero, List.set_cons_succ]
            refine takeW (v := .bool false) 7 (by decide +kernel) (by decide +kernel) (by kernel_rfl) (by simp only [List.getElem?_toArray, List.getElem?_cons_succ, List.getElem?_cons_zero]; rfl) (by rfl) (by exact fun _ _ _ h => h) (by assumption) ?_ ?_
            focus (intro w8 hSw; (try dsimp only at hSw); go_simp; (try simp))
            try simp only [Act.put, List.setIfInBounds_toArray, List.set_cons_zero, List.set_cons_succ]
            refine wpAnyH_done (by decide +kernel) ?_ _
            have BX := BX8
            have RF := RF8
            have B := B8
            have HV := hvl
            clear BX7 RF7 B7 HSB HK7 HK8 BX8 RF8 B8 HST RFD BXD BD HAL
            go_wp2_with fail
            have kd : Below w8.heap.size w8 w8.drew := ⟨rfl, rfl, rfl, Nat.le_refl _, fun _ _ => rfl⟩
            have hdn : d.length ≤ k + 1 := by omega
            have hcp2 : d.length ≤ CP := by have := BX.out.room; simpa using this
            have HLN := Lib.hid (len_any (BX.out.below kd))
            have HRM := Lib.hid (room_any (BX.out.below kd))
            rw [List.length_map] at HLN HRM
            rw [show ((CP - d.length : Nat) : Int) = (CP : Int) - (d.length : Int) by omega] at HRM
            have HST := Lib.hid (show w8.drew.cell? ⟨r, 0, none⟩ = some (.slice q d.length c) ∧ w8.drew.cell? ⟨r, 1, none⟩ = some (.int .i64 CP) from ⟨(RF.out.below kd).c0, (RF.out.below kd).c1⟩)
            have RFD := Lib.hid (RF.out.below kd)
            have BXD := Lib.hid (BX.out.below kd)
            have BD := Lib.hid (B.out.trans (kd.mono B.out.size))
            have HK0 := Lib.hid (show w8.drew.cell? ⟨r, 0, none⟩ = some (.slice q d.length c) ∧ w8.drew.cell? ⟨r, 1, none⟩ = some (.int .i64 CP) from HST.out)
            have hdi : (d.length : Int) ≤ (CP : Int) := by omega
            have hci : (CP : Int) ≤ 4096 := by omega
            clear kd
            refine wp_region_held_drew (S := (fun w7 => w7.cell? ⟨r, 0, none⟩ = some (.slice q d.length c) ∧ w7.cell? ⟨r, 1, none⟩ = some (.int .i64 CP))) (by kernel_rfl) (by (try dsimp only); exact HST.out) (fun hHeld => ?_)
            refine takeW (v := ?_) 0 (by decide +kernel) (by decide +kernel) (by kernel_rfl) (by simp only [List.getElem?_toArray, List.getElem?_cons_succ, List.getElem?_cons_zero]; rfl) (by rfl) (by exact fun _ _ _ h => h) (by assumption) ?_ ?_
            rotate_left 1
            focus (intro w8 hSw; (try dsimp only at hSw); obtain ⟨s80, s81⟩ := hSw; go_simp; (try with_reducible rfl); done)
            try simp only [Act.put, List.setIfInBounds_toArray, List.set_cons_zero, List.set_cons_succ]
            refine takeW (v := ?_) 2 (by decide +kernel) (by decide +kernel) (by kernel_rfl) (by simp only [List.getElem?_toArray, List.getElem?_cons_succ, List.getElem?_cons_zero]; rfl) (by rfl) (by exact fun _ _ _ h => h) (by assumption) ?_ ?_
            rotate_left 1
            focus (intro w8 hSw; (try dsimp only at hSw); obtain ⟨s80, s81⟩ := hSw; go_simp; (try with_reducible rfl); done)
            try simp only [Act.put, List.setIfInBounds_toArray, List.set_cons_zero, List.set_cons_succ]
            refine takeW (v := ?_) 3 (by decide +kernel) (by decide +kernel) (by kernel_rfl) (by simp only [List.getElem?_toArray, List.getElem?_cons_succ, List.getElem?_cons_zero]; rfl) (by rfl) (by exact fun _ _ _ h => h) (by assumption) ?_ ?_
            rotate_left 1
            focus (intro w8 hSw; (try dsimp only at hSw); obtain ⟨s80, s81⟩ := hSw; go_simp; (try with_reducible rfl); done)
            try simp only [Act.put, List.setIfInBounds_toArray, List.set_cons_zero, List.set_cons_succ]
            refine takeW (v := ?_) 4 (by decide +kernel) (by decide +kernel) (by kernel_rfl) (by simp only [List.getElem?_toArray, List.getElem?_cons_succ, List.getElem?_cons_zero]; rfl) (by rfl) (by exact fun _ _ _ h => h) (by assumption) ?_ ?_
            rotate_left 1
            focus (intro w8 hSw; (try dsimp only at hSw); obtain ⟨s80, s81⟩ := hSw; go_simp; (try with_reducible rfl); done)
            try simp only [Act.put, List.setIfInBounds_toArray, List.set_cons_zero, List.set_cons_succ]
            refine takeW (v := ?_) 5 (by decide +kernel) (by decide +kernel) (by kernel_rfl) (by simp only [List.getElem?_toArray, List.getElem?_cons_succ, List.getElem?_cons_zero]; rfl) (by rfl) (by exact fun _ _ _ h => h) (by assumption) ?_ ?_
            rotate_left 1
            focus (intro w8 hSw; (try dsimp only at hSw); obtain ⟨s80, s81⟩ := hSw; go_simp; (try with_reducible rfl); done)
            try simp only [Act.put, List.setIfInBounds_toArray, List.set_cons_zero, List.set_cons_succ]
            refine takeW (v := ?_) 6 (by decide +kernel) (by decide +kernel) (by kernel_rfl) (by simp only [List.getElem?_toArray, List.getElem?_cons_succ, List.getElem?_cons_zero]; rfl) (by rfl) (by exact fun _ _ _ h => h) (by assumption) ?_ ?_
            rotate_left 1
            focus (intro w8 hSw; (try dsimp only at hSw); obtain ⟨s80, s81⟩ := hSw; go_simp; (try with_reducible rfl); done)
            try simp only [Act.put, List.setIfInBounds_toArray, List.set_cons_zero, List.set_cons_succ]
            refine wpAnyH_ready (rs := [1]) (by decide +kernel) (by simp) ?_
            refine AllReadyH.cons (by simp only [List.getElem?_toArray, List.getElem?_cons_succ, List.getElem?_cons_zero]; rfl) (fun K hK => ?_) AllReadyH.nil
            go_simp
            (go_at_call 17; with_reducible refine (HLN.out).mono ?_; rintro e w7 ⟨rfl, rfl⟩)
            go_wp2_with fail
            refine hK.out _ _ (by (try dsimp only); (first | assumption | exact HK0.out)) (fun hHeld => ?_)
            clear hK K
            try simp only [Act.put, List.setIfInBounds_toArray, List.set_cons_zero, List.set_cons_succ]
            refine takeW (v := .bool false) 7 (by decide +kernel) (by decide +kernel) (by kernel_rfl) (by simp only [List.getElem?_toArray, List.getElem?_cons_succ, List.getElem?_cons_zero]; rfl) (by rfl) (by exact fun _ _ _ h => h) (by assumption) ?_ ?_
            focus (intro w8 hSw; (try dsimp only at hSw); obtain ⟨s80, s81⟩ := hSw; go_simp; (try simp))
            try simp only [Act.put, List.setIfInBounds_toArray, List.set_cons_zero, List.set_cons_succ]
            refine takeW (v := ?_) 8 (by decide +kernel) (by decide +kernel) (by kernel_rfl) (by simp only [List.getElem?_toArray, List.getElem?_cons_succ, List.getElem?_cons_zero]; rfl) (by rfl) (by exact fun _ _ _ h => h) (by assumption) ?_ ?_
            rotate_left 1
            focus (intro w8 hSw; (try dsimp only at hSw); obtain ⟨s80, s81⟩ := hSw; go_simp; (try with_reducible rfl); done)
            try simp only [Act.put, List.setIfInBounds_toArray, List.set_cons_zero, List.set_cons_succ]
            refine takeW (v := ?_) 9 (by decide +kernel) (by decide +kernel) (by kernel_rfl) (by simp only [List.getElem?_toArray, List.getElem?_cons_succ, List.getElem?_cons_zero]; rfl) (by rfl) (by exact fun _ _ _ h => h) (by assumption) ?_ ?_
            rotate_left 1
            focus (intro w8 hSw; (try dsimp only at hSw); obtain ⟨s80, s81⟩ := hSw; go_simp; (try with_reducible rfl); done)
            try simp only [Act.put, List.setIfInBounds_toArray, List.set_cons_zero, List.set_cons_succ]
            refine takeW (v := ?_) 11 (by decide +kernel) (by decide +kernel) (by kernel_rfl) (by simp only [List.getElem?_toArray, List.getElem?_cons_succ, List.getElem?_cons_zero]; rfl) (by rfl) (by exact fun _ _ _ h => h) (by assumption) ?_ ?_
            rotate_left 1
            focus (intro w8 hSw; (try dsimp only at hSw); obtain ⟨s80, s81⟩ := hSw; go_simp; (try with_reducible rfl); done)
            try simp only [Act.put, List.setIfInBounds_toArray, List.set_cons_zero, List.set_cons_succ]
            refine takeW (v := ?_) 12 (by decide +kernel) (by decide +kernel) (by kernel_rfl) (by simp only [List.getElem?_toArray, List.getElem?_cons_succ, List.getElem?_cons_zero]; rfl) (by rfl) (by exact fun _ _ _ h => h) (by assumption) ?_ ?_
            rotate_left 1
            focus (intro w8 hSw; (try dsimp only at hSw); obtain ⟨s80, s81⟩ := hSw; go_simp; (try with_reducible rfl); done)
            try simp only [Act.put, List.setIfInBounds_toArray, List.set_cons_zero, List.set_cons_succ]
            refine takeW (v := ?_) 13 (by decide +kernel) (by decide +kernel) (by kernel_rfl) (by simp only [List.getElem?_toArray, List.getElem?_cons_succ, List.getElem?_cons_zero]; rfl) (by rfl) (by exact fun _ _ _ h => h) (by assumption) ?_ ?_
            rotate_left 1
            focus (intro w8 hSw; (try dsimp only at hSw); obtain ⟨s80, s81⟩ := hSw; go_simp; (try with_reducible rfl); done)
            try simp only [Act.put, List.setIfInBounds_toArray, List.set_cons_zero, List.set_cons_succ]
            refine takeW (v := ?_) 14 (by decide +kernel) (by decide +kernel) (by kernel_rfl) (by simp only [List.getElem?_toArray, List.getElem?_cons_succ, List.getElem?_cons_zero]; rfl) (by rfl) (by exact fun _ _ _ h => h) (by assumption) ?_ ?_
            rotate_left 1
            focus (intro w8 hSw; (try dsimp only at hSw); obtain ⟨s80, s81⟩ := hSw; go_simp; (try with_reducible rfl); done)
            try simp only [Act.put, List.setIfInBounds_toArray, List.set_cons_zero, List.set_cons_succ]
            refine takeW (v := ?_) 15 (by decide +kernel) (by decide +kernel) (by kernel_rfl) (by simp only [List.getElem?_toArray, List.getElem?_cons_succ, List.getElem?_cons_zero]; rfl) (by rfl) (by exact fun _ _ _ h => h) (by assumption) ?_ ?_
            rotate_left 1
            focus (intro w8 hSw; (try dsimp only at hSw); obtain ⟨s80, s81⟩ := hSw; go_simp; (try with_reducible rfl); done)
            try simp only [Act.put, List.setIfInBounds_toArray, List.set_cons_zero, List.set_cons_succ]
            refine takeW (v := ?_) 16 (by decide +kernel) (by decide +kernel) (by kernel_rfl) (by simp only [List.getElem?_toArray, List.getElem?_cons_succ, List.getElem?_cons_zero]; rfl) (by rfl) (by exact fun _ _ _ h => h) (by assumption) ?_ ?_
            rotate_left 1
            focus (intro w8 hSw; (try dsimp only at hSw); obtain ⟨s80, s81⟩ := hSw; go_simp; (try with_reducible rfl); done)
            try simp only [Act.put, List.setIfInBounds_toArray, List.set_cons_zero, List.set_cons_succ]
            refine takeW (v := ?_) 17 (by decide +kernel) (by decide +kernel) (by kernel_rfl) (by simp only [List.getElem?_toArray, List.getElem?_cons_succ, List.getElem?_cons_zero]; rfl) (by rfl) (by exact fun _ _ _ h => h) (by assumption) ?_ ?_
            rotate_left 1
            focus (intro w8 hSw; (try dsimp only at hSw); obtain ⟨s80, s81⟩ := hSw; go_simp; (try with_reducible rfl); done)
            try simp only [Act.put, List.setIfInBounds_toArray, List.set_cons_zero, List.set_cons_succ]
            refine takeW (v := ?_) 18 (by decide +kernel) (by decide +kernel) (by kernel_rfl) (by simp only [List.getElem?_toArray, List.getElem?_cons_succ, List.getElem?_cons_zero]; rfl) (by rfl) (by exact fun _ _ _ h => h) (by assumption) ?_ ?_
            rotate_left 1
            focus (intro w8 hSw; (try dsimp only at hSw); obtain ⟨s80, s81⟩ := hSw; go_simp; (try with_reducible rfl); done)
            try simp only [Act.put, List.setIfInBounds_toArray, List.set_cons_zero, List.set_cons_succ]
            refine takeW (v := ?_) 19 (by decide +kernel) (by decide +kernel) (by kernel_rfl) (by simp only [List.getElem?_toArray, List.getElem?_cons_succ, List.getElem?_cons_zero]; rfl) (by rfl) (by exact fun _ _ _ h => h) (by assumption) ?_ ?_
            rotate_left 1
            focus (intro w8 hSw; (try dsimp only at hSw); obtain ⟨s80, s81⟩ := hSw; go_simp; (try with_reducible rfl); done)
            try simp only [Act.put, List.setIfInBounds_toArray, List.set_cons_zero, List.set_cons_succ]
            refine takeW (v := ?_) 20 (by decide +kernel) (by decide +kernel) (by kernel_rfl) (by simp only [List.getElem?_toArray, List.getElem?_cons_succ, List.getElem?_cons_zero]; rfl) (by rfl) (by exact fun _ _ _ h => h) (by assumption) ?_ ?_
            rotate_left 1
            focus (intro w8 hSw; (try dsimp only at hSw); obtain ⟨s80, s81⟩ := hSw; go_simp; (try with_reducible rfl); done)
            try simp only [Act.put, List.setIfInBounds_toArray, List.set_cons_zero, List.set_cons_succ]
            refine wpAnyH_ready (rs := [10]) (by decide +kernel) (by simp) ?_
            refine AllReadyH.cons (by simp only [List.getElem?_toArray, List.getElem?_cons_succ, List.getElem?_cons_zero]; rfl) (fun K hK => ?_) AllReadyH.nil
            go_simp
            (go_at_call 18; with_reducible refine (HRM.out).mono ?_; rintro e w7 ⟨rfl, b7⟩)
            have BX7 := Lib.hid (BXD.out.below b7)
            have RF7 := Lib.hid (RFD.out.below b7)
            have B7 := Lib.hid (BD.out.trans (b7.mono BD.out.size))
            have HK7 := Lib.hid (show w7.cell? ⟨r, 0, none⟩ = some (.slice q d.length c) ∧ w7.cell? ⟨r, 1, none⟩ = some (.int .i64 CP) from ⟨RF7.out.c0, RF7.out.c1⟩)
            clear b7
            go_wp2_with fail
            refine hK.out _ _ (by (try dsimp only); (first | assumption | exact HK7.out)) (fun hHeld => ?_)
            clear hK K
            try simp only [Act.put, List.setIfInBounds_toArray, List.set_cons_zero, List.set_cons_succ]
            refine takeW (v := .bool false) 21 (by decide +kernel) (by decide +kernel) (by kernel_rfl) (by simp only [List.getElem?_toArray, List.getElem?_cons_succ, List.getElem?_cons_zero]; rfl) (by rfl) (by exact fun _ _ _ h => h) (by assumption) ?_ ?_
            focus (intro w8 hSw; (try dsimp only at hSw); obtain ⟨s80, s81⟩ := hSw; go_simp; (try simp); (try rw [IntKind.wrap_i64]); (try omega))
            try simp only [Act.put, List.setIfInBounds_toArray, List.set_cons_zero, List.set_cons_succ]
            refine takeW (v := ?_) 22 (by decide +kernel) (by decide +kernel) (by kernel_rfl) (by simp only [List.getElem?_toArray, List.getElem?_cons_succ, List.getElem?_cons_zero]; rfl) (by rfl) (by exact fun _ _ _ h => h) (by assumption) ?_ ?_
            rotate_left 1
            focus (intro w8 hSw; (try dsimp only at hSw); obtain ⟨s80, s81⟩ := hSw; go_simp; (try with_reducible rfl); done)
            try simp only [Act.put, List.setIfInBounds_toArray, List.set_cons_zero, List.set_cons_succ]
            refine wpAnyH_done (by decide +kernel) ?_ _
            go_wp2_with fail
            go_roundw
            case rel => exact ⟨k + 1, by omega, by go_num, q, c, d, BX7.out, RF7.out, B7.out, hdn, HV⟩
            case measure => simp [intOf]; omega
          · skip
            have kd : Below wA.heap.size wA wA.drew := ⟨rfl, rfl, rfl, Nat.le_refl _, fun _ _ => rfl⟩
            have RFD := Lib.hid (RF.out.below kd)
            have BXD := Lib.hid (BX.out.below kd)
            have BD := Lib.hid (B.out.trans (kd.mono B.out.size))
            have MAD := Lib.hid (MA.out.below kd)
            have LOD := Lib.hid (Nat.le_trans LOS.out kd.size)
            have HST := Lib.hid (show wA.drew.cell? ⟨H, 1, none⟩ = some (.int .i64 x.m.id) ∧ wA.drew.cell? ⟨H, 2, none⟩ = some (.string (S x.m.chan)) ∧ wA.drew.cell? ⟨H, 3, none⟩ = some (.slice ka x.m.key.length kc) ∧ wA.drew.cell? ⟨H, 4, none⟩ = some (.slice fa x.m.fields.length fc) from ⟨MAD.out.c1, MAD.out.c2, MAD.out.c3, MAD.out.c4⟩)
            clear kd x0
            obtain ⟨D, ans, hD, hans, hDn, hDV, HOF, hro⟩ : ∃ (D : List MK) (ans : Bool), D = (if d.length < CP then d ++ [(⟨x.m, ka, kc, fa, fc⟩ : MK)] else d) ∧ ans = decide (d.length < CP) ∧ D.length ≤ k + 1 ∧ Hid (Vl w D) ∧ Hid (Calls Try.prog 15 #[.pointer (some ⟨b, 0, none⟩), .agg #[.int .i64 x.m.id, .string (S x.m.chan), .slice ka x.m.key.length kc, .slice fa x.m.fields.length fc]] wA.drew fun e w' => (e = .returned (.bool ans) ∧ BoxAt lo w' b lo CP (D.map (·.m))) ∧ Onl lo wA.drew w') ∧ Hid (∀ W, RefAt lo W r CP q c d → lo ≤ W.heap.size → Calls Try.prog 16 #[.pointer (some ⟨r, 0, none⟩), .agg #[.int .i64 x.m.id, .string (S x.m.chan), .slice ka x.m.key.length kc, .slice fa x.m.fields.length fc]] W fun e w' => (e = .returned (.bool ans) ∧ ∃ q8 c8, RefAt lo w' r CP q8 c8 D) ∧ Chg r q W w') := by
              refine ⟨_, _, rfl, rfl, ?_, Lib.hid ?_, Lib.hid ?_, Lib.hid ?_⟩
              · split
                · simp; omega
                · omega
              · split
                · exact hvl.out.app ⟨HMSH.out.2, HKF.out⟩
                · exact hvl.out
              · refine (offer_any BXD.out x.m HOK.out.m HMSH.out.1.key HMSH.out.1.fields ka kc fa fc (HKF.out.1.below BD.out) (HKF.out.2.below BD.out)).mono ?_
                rintro e w9 ⟨⟨h1, h2⟩, h3⟩
                rw [List.length_map] at h1 h2
                refine ⟨⟨h1, ?_⟩, h3⟩
                by_cases h : d.length < CP
                · rw [if_pos h] at h2 ⊢; rw [List.map_append]; exact h2
                · rw [if_neg h] at h2 ⊢; exact h2
              · intro W hrf hlo
                refine (refOffer_any hrf hlo (by omega) hcp x.m ka kc fa fc).mono ?_
                rintro e w9 ⟨⟨q8, c8, d8, h1, h2, h3⟩, h4⟩
                exact ⟨⟨h1, q8, c8, by rw [← h3]; exact h2⟩, h4⟩
            clear hD hans
            refine wp_region_held_drew (S := (fun w7 => w7.cell? ⟨H, 1, none⟩ = some (.int .i64 x.m.id) ∧ w7.cell? ⟨H, 2, none⟩ = some (.string (S x.m.chan)) ∧ w7.cell? ⟨H, 3, none⟩ = some (.slice ka x.m.key.length kc) ∧ w7.cell? ⟨H, 4, none⟩ = some (.slice fa x.m.fields.length fc))) (by kernel_rfl) (by (try dsimp only); exact HST.out) (fun hHeld => ?_)
            refine takeW (v := ?_) 0 (by decide +kernel) (by decide +kernel) (by kernel_rfl) (by simp only [List.getElem?_toArray, List.getElem?_cons_succ, List.getElem?_cons_zero]; rfl) (by rfl) (by exact fun _ _ _ h => h) (by assumption) ?_ ?_
            rotate_left 1
            focus (intro w8 hSw; (try dsimp only at hSw); obtain ⟨s1, s2, s3, s4⟩ := hSw; go_simp; (try with_reducible rfl); done)
            try simp only [Act.put, List.setIfInBounds_toArray, List.set_cons_zero, List.set_cons_succ]
            refine takeW (v := ?_) 1 (by decide +kernel) (by decide +kernel) (by kernel_rfl) (by simp only [List.getElem?_toArray, List.getElem?_cons_succ, List.getElem?_cons_zero]; rfl) (by rfl) (by exact fun _ _ _ h => h) (by assumption) ?_ ?_
            rotate_left 1
            focus (intro w8 hSw; (try dsimp only at hSw); obtain ⟨s1, s2, s3, s4⟩ := hSw; go_simp; (try with_reducible rfl); done)
            try simp only [Act.put, List.setIfInBounds_toArray, List.set_cons_zero, List.set_cons_succ]
            refine takeW (v := ?_) 2 (by decide +kernel) (by decide +kernel) (by kernel_rfl) (by simp only [List.getElem?_toArray, List.getElem?_cons_succ, List.getElem?_cons_zero]; rfl) (by rfl) (by exact fun _ _ _ h => h) (by assumption) ?_ ?_
            rotate_left 1
            focus (intro w8 hSw; (try dsimp only at hSw); obtain ⟨s1, s2, s3, s4⟩ := hSw; go_simp; (try with_reducible rfl); done)
            try simp only [Act.put, List.setIfInBounds_toArray, List.set_cons_zero, List.set_cons_succ]
            refine takeW (v := ?_) 4 (by decide +kernel) (by decide +kernel) (by kernel_rfl) (by simp only [List.getElem?_toArray, List.getElem?_cons_succ, List.getElem?_cons_zero]; rfl) (by rfl) (by exact fun _ _ _ h => h) (by assumption) ?_ ?_
            rotate_left 1
            focus (intro w8 hSw; (try dsimp only at hSw); obtain ⟨s1, s2, s3, s4⟩ := hSw; go_simp; (try with_reducible rfl); done)
            try simp only [Act.put, List.setIfInBounds_toArray, List.set_cons_zero, List.set_cons_succ]
            refine takeW (v := ?_) 5 (by decide +kernel) (by decide +kernel) (by kernel_rfl) (by simp only [List.getElem?_toArray, List.getElem?_cons_succ, List.getElem?_cons_zero]; rfl) (by rfl) (by exact fun _ _ _ h => h) (by assumption) ?_ ?_
            rotate_left 1
            focus (intro w8 hSw; (try dsimp only at hSw); obtain ⟨s1, s2, s3, s4⟩ := hSw; go_simp; (try with_reducible rfl); done)
            try simp only [Act.put, List.setIfInBounds_toArray, List.set_cons_zero, List.set_cons_succ]
            refine takeW (v := ?_) 6 (by decide +kernel) (by decide +kernel) (by kernel_rfl) (by simp only [List.getElem?_toArray, List.getElem?_cons_succ, List.getElem?_cons_zero]; rfl) (by rfl) (by exact fun _ _ _ h => h) (by assumption) ?_ ?_
            rotate_left 1
            focus (intro w8 hSw; (try dsimp only at hSw); obtain ⟨s1, s2, s3, s4⟩ := hSw; go_simp; (try with_reducible rfl); done)
            try simp only [Act.put, List.setIfInBounds_toArray, List.set_cons_zero, List.set_cons_succ]
            refine wpAnyH_ready (rs := [3]) (by decide +kernel) (by simp) ?_
            refine AllReadyH.cons (by simp only [List.getElem?_toArray, List.getElem?_cons_succ, List.getElem?_cons_zero]; rfl) (fun K hK => ?_) AllReadyH.nil
            go_simp
            (go_at_call 15; with_reducible refine (HOF.out).mono ?_; rintro e w7 ⟨⟨rfl, bx7⟩, o7⟩)
            have rf7 := RFD.out.onl BXD.out.nochan o7
            have BX7 := Lib.hid bx7
            have B7 := Lib.hid (o7.then BD.out HLO.out BD.out.size)
            have MA7 := Lib.hid (MAD.out.onl BXD.out.nochan o7)
            have HRO := Lib.hid (hro.out w7 rf7 (Nat.le_trans LOD.out o7.size))
            have RF7 := Lib.hid rf7
            have HK7 := Lib.hid (show w7.cell? ⟨H, 1, none⟩ = some (.int .i64 x.m.id) ∧ w7.cell? ⟨H, 2, none⟩ = some (.string (S x.m.chan)) ∧ w7.cell? ⟨H, 3, none⟩ = some (.slice ka x.m.key.length kc) ∧ w7.cell? ⟨H, 4, none⟩ = some (.slice fa x.m.fields.length fc) from ⟨MA7.out.c1, MA7.out.c2, MA7.out.c3, MA7.out.c4⟩)
            clear bx7 o7 rf7
            go_wp2_with fail
            refine hK.out _ _ (by (try dsimp only); (first | assumption | exact HK7.out)) (fun hHeld => ?_)
            clear hK K
            try simp only [Act.put, List.setIfInBounds_toArray, List.set_cons_zero, List.set_cons_succ]
            refine wpAnyH_ready (rs := [7]) (by decide +kernel) (by simp) ?_
            refine AllReadyH.cons (by simp only [List.getElem?_toArray, List.getElem?_cons_succ, List.getElem?_cons_zero]; rfl) (fun K hK => ?_) AllReadyH.nil
            go_simp
            (go_at_call 16; with_reducible refine (HRO.out).mono ?_; rintro e w8 ⟨⟨rfl, q8, c8, rf8⟩, g8⟩)
            have BX8 := Lib.hid (BX7.out.chg RF7.out.blk RF7.out.row g8)
            have RF8 := Lib.hid rf8
            have B8 := Lib.hid (Chg.then B7.out g8 RF7.out.row HLO.out (Nat.le_trans HLO.out hlr.out) B7.out.size)
            have MA8 := Lib.hid (MA7.out.chg RF7.out.blk RF7.out.row g8)
            have HK8 := Lib.hid (show w8.cell? ⟨H, 1, none⟩ = some (.int .i64 x.m.id) ∧ w8.cell? ⟨H, 2, none⟩ = some (.string (S x.m.chan)) ∧ w8.cell? ⟨H, 3, none⟩ = some (.slice ka x.m.key.length kc) ∧ w8.cell? ⟨H, 4, none⟩ = some (.slice fa x.m.fields.length fc) from ⟨MA8.out.c1, MA8.out.c2, MA8.out.c3, MA8.out.c4⟩)
            clear rf8 g8
            go_wp2_with fail
            refine hK.out _ _ (by (try dsimp only); (first | assumption | exact HK8.out)) (fun hHeld => ?_)
            clear hK K
            try simp only [Act.put, List.setIfInBounds_toArray, List.set_cons_zero, List.set_cons_succ]
            refine takeW (v := .bool false) 8 (by decide +kernel) (by decide +kernel) (by kernel_rfl) (by simp only [List.getElem?_toArray, List.getElem?_cons_succ, List.getElem?_cons_zero]; rfl) (by rfl) (by exact fun _ _ _ h => h) (by assumption) ?_ ?_
            focus (intro w8 hSw; (try dsimp only at hSw); obtain ⟨s1, s2, s3, s4⟩ := hSw; go_simp; (try simp))
            try simp only [Act.put, List.setIfInBounds_toArray, List.set_cons_zero, List.set_cons_succ]
            refine wpAnyH_done (by decide +kernel) ?_ _
            have BX := BX8
            have RF := RF8
            have B := B8
            have HV := hDV
            clear BX7 RF7 B7 MA7 HRO HOF hro HK7 HK8 BX8 RF8 B8 MA8 HST RFD BXD BD MAD LOD
            go_wp2_with fail
            have kd : Below w8.heap.size w8 w8.drew := ⟨rfl, rfl, rfl, Nat.le_refl _, fun _ _ => rfl⟩
            have hdn : D.length ≤ k + 1 := hDn
            have hcp2 : D.length ≤ CP := by have := BX.out.room; simpa using this
            have HLN := Lib.hid (len_any (BX.out.below kd))
            have HRM := Lib.hid (room_any (BX.out.below kd))
            rw [List.length_map] at HLN HRM
            rw [show ((CP - D.length : Nat) : Int) = (CP : Int) - (D.length : Int) by omega] at HRM
            have HST := Lib.hid (show w8.drew.cell? ⟨r, 0, none⟩ = some (.slice q8 D.length c8) ∧ w8.drew.cell? ⟨r, 1, none⟩ = some (.int .i64 CP) from ⟨(RF.out.below kd).c0, (RF.out.below kd).c1⟩)
            have RFD := Lib.hid (RF.out.below kd)
            have BXD := Lib.hid (BX.out.below kd)
            have BD := Lib.hid (B.out.trans (kd.mono B.out.size))
            have HK0 := Lib.hid (show w8.drew.cell? ⟨r, 0, none⟩ = some (.slice q8 D.length c8) ∧ w8.drew.cell? ⟨r, 1, none⟩ = some (.int .i64 CP) from HST.out)
            have hdi : (D.length : Int) ≤ (CP : Int) := by omega
            have hci : (CP : Int) ≤ 4096 := by omega
            clear kd
            refine wp_region_held_drew (S := (fun w7 => w7.cell? ⟨r, 0, none⟩ = some (.slice q8 D.length c8) ∧ w7.cell? ⟨r, 1, none⟩ = some (.int .i64 CP))) (by kernel_rfl) (by (try dsimp only); exact HST.out) (fun hHeld => ?_)
            refine takeW (v := ?_) 0 (by decide +kernel) (by decide +kernel) (by kernel_rfl) (by simp only [List.getElem?_toArray, List.getElem?_cons_succ, List.getElem?_cons_zero]; rfl) (by rfl) (by exact fun _ _ _ h => h) (by assumption) ?_ ?_
            rotate_left 1
            focus (intro w8 hSw; (try dsimp only at hSw); obtain ⟨s80, s81⟩ := hSw; go_simp; (try with_reducible rfl); done)
            try simp only [Act.put, List.setIfInBounds_toArray, List.set_cons_zero, List.set_cons_succ]
            refine takeW (v := ?_) 2 (by decide +kernel) (by decide +kernel) (by kernel_rfl) (by simp only [List.getElem?_toArray, List.getElem?_cons_succ, List.getElem?_cons_zero]; rfl) (by rfl) (by exact fun _ _ _ h => h) (by assumption) ?_ ?_
            rotate_left 1
            focus (intro w8 hSw; (try dsimp only at hSw); obtain ⟨s80, s81⟩ := hSw; go_simp; (try with_reducible rfl); done)
            try simp only [Act.put, List.setIfInBounds_toArray, List.set_cons_zero, List.set_cons_succ]
            refine takeW (v := ?_) 3 (by decide +kernel) (by decide +kernel) (by kernel_rfl) (by simp only [List.getElem?_toArray, List.getElem?_cons_succ, List.getElem?_cons_zero]; rfl) (by rfl) (by exact fun _ _ _ h => h) (by assumption) ?_ ?_
            rotate_left 1
            focus (intro w8 hSw; (try dsimp only at hSw); obtain ⟨s80, s81⟩ := hSw; go_simp; (try with_reducible rfl); done)
            try simp only [Act.put, List.setIfInBounds_toArray, List.set_cons_zero, List.set_cons_succ]
            refine takeW (v := ?_) 4 (by decide +kernel) (by decide +kernel) (by kernel_rfl) (by simp only [List.getElem?_toArray, List.getElem?_cons_succ, List.getElem?_cons_zero]; rfl) (by rfl) (by exact fun _ _ _ h => h) (by assumption) ?_ ?_
            rotate_left 1
            focus (intro w8 hSw; (try dsimp only at hSw); obtain ⟨s80, s81⟩ := hSw; go_simp; (try with_reducible rfl); done)
            try simp only [Act.put, List.setIfInBounds_toArray, List.set_cons_zero, List.set_cons_succ]
            refine takeW (v := ?_) 5 (by decide +kernel) (by decide +kernel) (by kernel_rfl) (by simp only [List.getElem?_toArray, List.getElem?_cons_succ, List.getElem?_cons_zero]; rfl) (by rfl) (by exact fun _ _ _ h => h) (by assumption) ?_ ?_
            rotate_left 1
            focus (intro w8 hSw; (try dsimp only at hSw); obtain ⟨s80, s81⟩ := hSw; go_simp; (try with_reducible rfl); done)
            try simp only [Act.put, List.setIfInBounds_toArray, List.set_cons_zero, List.set_cons_succ]
            refine takeW (v := ?_) 6 (by decide +kernel) (by decide +kernel) (by kernel_rfl) (by simp only [List.getElem?_toArray, List.getElem?_cons_succ, List.getElem?_cons_zero]; rfl) (by rfl) (by exact fun _ _ _ h => h) (by assumption) ?_ ?_
            rotate_left 1
            focus (intro w8 hSw; (try dsimp only at hSw); obtain ⟨s80, s81⟩ := hSw; go_simp; (try with_reducible rfl); done)
            try simp only [Act.put, List.setIfInBounds_toArray, List.set_cons_zero, List.set_cons_succ]
            refine wpAnyH_ready (rs := [1]) (by decide +kernel) (by simp) ?_
            refine AllReadyH.cons (by simp only [List.getElem?_toArray, List.getElem?_cons_succ, List.getElem?_cons_zero]; rfl) (fun K hK => ?_) AllReadyH.nil
            go_simp
            (go_at_call 17; with_reducible refine (HLN.out).mono ?_; rintro e w7 ⟨rfl, rfl⟩)
            go_wp2_with fail
            refine hK.out _ _ (by (try dsimp only); (first | assumption | exact HK0.out)) (fun hHeld => ?_)
            clear hK K
            try simp only [Act.put, List.setIfInBounds_toArray, List.set_cons_zero, List.set_cons_succ]
            refine takeW (v := .bool false) 7 (by decide +kernel) (by decide +kernel) (by kernel_rfl) (by simp only [List.getElem?_toArray, List.getElem?_cons_succ, List.getElem?_cons_zero]; rfl) (by rfl) (by exact fun _ _ _ h => h) (by assumption) ?_ ?_
            focus (intro w8 hSw; (try dsimp only at hSw); obtain ⟨s80, s81⟩ := hSw; go_simp; (try simp))
            try simp only [Act.put, List.setIfInBounds_toArray, List.set_cons_zero, List.set_cons_succ]
            refine takeW (v := ?_) 8 (by decide +kernel) (by decide +kernel) (by kernel_rfl) (by simp only [List.getElem?_toArray, List.getElem?_cons_succ, List.getElem?_cons_zero]; rfl) (by rfl) (by exact fun _ _ _ h => h) (by assumption) ?_ ?_
            rotate_left 1
            focus (intro w8 hSw; (try dsimp only at hSw); obtain ⟨s80, s81⟩ := hSw; go_simp; (try with_reducible rfl); done)
            try simp only [Act.put, List.setIfInBounds_toArray, List.set_cons_zero, List.set_cons_succ]
            refine takeW (v := ?_) 9 (by decide +kernel) (by decide +kernel) (by kernel_rfl) (by simp only [List.getElem?_toArray, List.getElem?_cons_succ, List.getElem?_cons_zero]; rfl) (by rfl) (by exact fun _ _ _ h => h) (by assumption) ?_ ?_
            rotate_left 1
            focus (intro w8 hSw; (try dsimp only at hSw); obtain ⟨s80, s81⟩ := hSw; go_simp; (try with_reducible rfl); done)
            try simp only [Act.put, List.setIfInBounds_toArray, List.set_cons_zero, List.set_cons_succ]
            refine takeW (v := ?_) 11 (by decide +kernel) (by decide +kernel) (by kernel_rfl) (by simp only [List.getElem?_toArray, List.getElem?_cons_succ, List.getElem?_cons_zero]; rfl) (by rfl) (by exact fun _ _ _ h => h) (by assumption) ?_ ?_
            rotate_left 1
            focus (intro w8 hSw; (try dsimp only at hSw); obtain ⟨s80, s81⟩ := hSw; go_simp; (try with_reducible rfl); done)
            try simp only [Act.put, List.setIfInBounds_toArray, List.set_cons_zero, List.set_cons_succ]
            refine takeW (v := ?_) 12 (by decide +kernel) (by decide +kernel) (by kernel_rfl) (by simp only [List.getElem?_toArray, List.getElem?_cons_succ, List.getElem?_cons_zero]; rfl) (by rfl) (by exact fun _ _ _ h => h) (by assumption) ?_ ?_
            rotate_left 1
            focus (intro w8 hSw; (try dsimp only at hSw); obtain ⟨s80, s81⟩ := hSw; go_simp; (try with_reducible rfl); done)
            try simp only [Act.put, List.setIfInBounds_toArray, List.set_cons_zero, List.set_cons_succ]
            refine takeW (v := ?_) 13 (by decide +kernel) (by decide +kernel) (by kernel_rfl) (by simp only [List.getElem?_toArray, List.getElem?_cons_succ, List.getElem?_cons_zero]; rfl) (by rfl) (by exact fun _ _ _ h => h) (by assumption) ?_ ?_
            rotate_left 1
            focus (intro w8 hSw; (try dsimp only at hSw); obtain ⟨s80, s81⟩ := hSw; go_simp; (try with_reducible rfl); done)
            try simp only [Act.put, List.setIfInBounds_toArray, List.set_cons_zero, List.set_cons_succ]
            refine takeW (v := ?_) 14 (by decide +kernel) (by decide +kernel) (by kernel_rfl) (by simp only [List.getElem?_toArray, List.getElem?_cons_succ, List.getElem?_cons_zero]; rfl) (by rfl) (by exact fun _ _ _ h => h) (by assumption) ?_ ?_
            rotate_left 1
            focus (intro w8 hSw; (try dsimp only at hSw); obtain ⟨s80, s81⟩ := hSw; go_simp; (try with_reducible rfl); done)
            try simp only [Act.put, List.setIfInBounds_toArray, List.set_cons_zero, List.set_cons_succ]
            refine takeW (v := ?_) 15 (by decide +kernel) (by decide +kernel) (by kernel_rfl) (by simp only [List.getElem?_toArray, List.getElem?_cons_succ, List.getElem?_cons_zero]; rfl) (by rfl) (by exact fun _ _ _ h => h) (by assumption) ?_ ?_
            rotate_left 1
            focus (intro w8 hSw; (try dsimp only at hSw); obtain ⟨s80, s81⟩ := hSw; go_simp; (try with_reducible rfl); done)
            try simp only [Act.put, List.setIfInBounds_toArray, List.set_cons_zero, List.set_cons_succ]
            refine takeW (v := ?_) 16 (by decide +kernel) (by decide +kernel) (by kernel_rfl) (by simp only [List.getElem?_toArray, List.getElem?_cons_succ, List.getElem?_cons_zero]; rfl) (by rfl) (by exact fun _ _ _ h => h) (by assumption) ?_ ?_
            rotate_left 1
            focus (intro w8 hSw; (try dsimp only at hSw); obtain ⟨s80, s81⟩ := hSw; go_simp; (try with_reducible rfl); done)
            try simp only [Act.put, List.setIfInBounds_toArray, List.set_cons_zero, List.set_cons_succ]
            refine takeW (v := ?_) 17 (by decide +kernel) (by decide +kernel) (by kernel_rfl) (by simp only [List.getElem?_toArray, List.getElem?_cons_succ, List.getElem?_cons_zero]; rfl) (by rfl) (by exact fun _ _ _ h => h) (by assumption) ?_ ?_
            rotate_left 1
            focus (intro w8 hSw; (try dsimp only at hSw); obtain ⟨s80, s81⟩ := hSw; go_simp; (try with_reducible rfl); done)
            try simp only [Act.put, List.setIfInBounds_toArray, List.set_cons_zero, List.set_cons_succ]
            refine takeW (v := ?_) 18 (by decide +kernel) (by decide +kernel) (by kernel_rfl) (by simp only [List.getElem?_toArray, List.getElem?_cons_succ, List.getElem?_cons_zero]; rfl) (by rfl) (by exact fun _ _ _ h => h) (by assumption) ?_ ?_
            rotate_left 1
            focus (intro w8 hSw; (try dsimp only at hSw); obtain ⟨s80, s81⟩ := hSw; go_simp; (try with_reducible rfl); done)
            try simp only [Act.put, List.setIfInBounds_toArray, List.set_cons_zero, List.set_cons_succ]
            refine takeW (v := ?_) 19 (by decide +kernel) (by decide +kernel) (by kernel_rfl) (by simp only [List.getElem?_toArray, List.getElem?_cons_succ, List.getElem?_cons_zero]; rfl) (by rfl) (by exact fun _ _ _ h => h) (by assumption) ?_ ?_
            rotate_left 1
            focus (intro w8 hSw; (try dsimp only at hSw); obtain ⟨s80, s81⟩ := hSw; go_simp; (try with_reducible rfl); done)
            try simp only [Act.put, List.setIfInBounds_toArray, List.set_cons_zero, List.set_cons_succ]
            refine takeW (v := ?_) 20 (by decide +kernel) (by decide +kernel) (by kernel_rfl) (by simp only [List.getElem?_toArray, List.getElem?_cons_succ, List.getElem?_cons_zero]; rfl) (by rfl) (by exact fun _ _ _ h => h) (by assumption) ?_ ?_
            rotate_left 1
            focus (intro w8 hSw; (try dsimp only at hSw); obtain ⟨s80, s81⟩ := hSw; go_simp; (try with_reducible rfl); done)
            try simp only [Act.put, List.setIfInBounds_toArray, List.set_cons_zero, List.set_cons_succ]
            refine wpAnyH_ready (rs := [10]) (by decide +kernel) (by simp) ?_
            refine AllReadyH.cons (by simp only [List.getElem?_toArray, List.getElem?_cons_succ, List.getElem?_cons_zero]; rfl) (fun K hK => ?_) AllReadyH.nil
            go_simp
            (go_at_call 18; with_reducible refine (HRM.out).mono ?_; rintro e w7 ⟨rfl, b7⟩)
            have BX7 := Lib.hid (BXD.out.below b7)
            have RF7 := Lib.hid (RFD.out.below b7)
            have B7 := Lib.hid (BD.out.trans (b7.mono BD.out.size))
            have HK7 := Lib.hid (show w7.cell? ⟨r, 0, none⟩ = some (.slice q8 D.length c8) ∧ w7.cell? ⟨r, 1, none⟩ = some (.int .i64 CP) from ⟨RF7.out.c0, RF7.out.c1⟩)
            clear b7
            go_wp2_with fail
            refine hK.out _ _ (by (try dsimp only); (first | assumption | exact HK7.out)) (fun hHeld => ?_)
            clear hK K
            try simp only [Act.put, List.setIfInBounds_toArray, List.set_cons_zero, List.set_cons_succ]
            refine takeW (v := .bool false) 21 (by decide +kernel) (by decide +kernel) (by kernel_rfl) (by simp only [List.getElem?_toArray, List.getElem?_cons_succ, List.getElem?_cons_zero]; rfl) (by rfl) (by exact fun _ _ _ h => h) (by assumption) ?_ ?_
            focus (intro w8 hSw; (try dsimp only at hSw); obtain ⟨s80, s81⟩ := hSw; go_simp; (try simp); (try rw [IntKind.wrap_i64]); (try omega))
            try simp only [Act.put, List.setIfInBounds_toArray, List.set_cons_zero, List.set_cons_succ]
            refine takeW (v := ?_) 22 (by decide +kernel) (by decide +kernel) (by kernel_rfl) (by simp only [List.getElem?_toArray, List.getElem?_cons_succ, List.getElem?_cons_zero]; rfl) (by rfl) (by exact fun _ _ _ h => h) (by assumption) ?_ ?_
            rotate_left 1
            focus (intro w8 hSw; (try dsimp only at hSw); obtain ⟨s80, s81⟩ := hSw; go_simp; (try with_reducible rfl); done)
            try simp only [Act.put, List.setIfInBounds_toArray, List.set_cons_zero, List.set_cons_succ]
            refine wpAnyH_done (by decide +kernel) ?_ _
            go_wp2_with fail
            go_roundw
            case rel => exact ⟨k + 1, by omega, by go_num, q8, c8, D, BX7.out, RF7.out, B7.out, hdn, HV⟩
            case measure => simp [intOf]; omega
      · skip
        obtain ⟨wz, rfl⟩ : ∃ wz, wz = wr := ⟨_, rfl⟩
        clear rf bx hbl
        have kd : Below wz.heap.size wz wz.drew := ⟨rfl, rfl, rfl, Nat.le_refl _, fun _ _ => rfl⟩
        have RFD := Lib.hid (RF.out.below kd)
        have BXD := Lib.hid (BX.out.below kd)
        have BD := Lib.hid (HBL.out.trans (kd.mono HBL.out.size))
        have HST := Lib.hid (show wz.drew.cell? ⟨r, 0, none⟩ = some (.slice q d.length c) from RFD.out.c0)
        have HAW := Lib.hid (awake18_any wz.drew)
        have hki : ¬ (k : Int) < (l.length : Int) := by omega
        clear kd
        go_wp2_with fail
        refine wp_region_held_drew (S := (fun w7 => w7.cell? ⟨r, 0, none⟩ = some (.slice q d.length c))) (by kernel_rfl) (by (try dsimp only); exact HST.out) (fun hHeld => ?_)
        refine wpAnyH_ready (rs := [0]) (by decide +kernel) (by simp) ?_
        refine AllReadyH.cons (by simp only [List.getElem?_toArray, List.getElem?_cons_succ, List.getElem?_cons_zero]; rfl) (fun K hK => ?_) AllReadyH.nil
        go_simp
        (go_at_call 6; with_reducible refine (HAW.out).mono ?_; rintro e w9 ⟨rfl, b9⟩)
        have RF9 := Lib.hid (RFD.out.below b9)
        have BX9 := Lib.hid (BXD.out.below b9)
        have B9 := Lib.hid (BD.out.trans (b9.mono BD.out.size))
        have HAL := Lib.hid (all_any BX9.out (fun m hm => ⟨(hvl.out.msh m hm).big, Nat.le_trans (hvl.out.msh m hm).key (by omega), Nat.le_trans (hvl.out.msh m hm).fields (by omega)⟩))
        unfold Alled at HAL
        have HK9 := Lib.hid (show w9.cell? ⟨r, 0, none⟩ = some (.slice q d.length c) from RF9.out.c0)
        clear b9
        go_wp2_with fail
        refine hK.out _ _ (by (try dsimp only); (first | assumption | exact HK9.out)) (fun hHeld => ?_)
        clear hK K
        try simp only [Act.put, List.setIfInBounds_toArray, List.set_cons_zero, List.set_cons_succ]
        refine takeW (v := ?_) 1 (by decide +kernel) (by decide +kernel) (by kernel_rfl) (by simp only [List.getElem?_toArray, List.getElem?_cons_succ, List.getElem?_cons_zero]; rfl) (by rfl) (by exact fun _ _ _ h => h) (by assumption) ?_ ?_
        rotate_left 1
        focus (intro w8 hSw; (try dsimp only at hSw); go_simp; (try with_reducible rfl); done)
        try simp only [Act.put, List.setIfInBounds_toArray, List.set_cons_zero, List.set_cons_succ]
        refine takeW (v := ?_) 2 (by decide +kernel) (by decide +kernel) (by kernel_rfl) (by simp only [List.getElem?_toArray, List.getElem?_cons_succ, List.getElem?_cons_zero]; rfl) (by rfl) (by exact fun _ _ _ h => h) (by assumption) ?_ ?_
        rotate_left 1
        focus (intro w8 hSw; (try dsimp only at hSw); go_simp; (try with_reducible rfl); done)
        try simp only [Act.put, List.setIfInBounds_toArray, List.set_cons_zero, List.set_cons_succ]
        refine takeW (v := ?_) 4 (by decide +kernel) (by decide +kernel) (by kernel_rfl) (by simp only [List.getElem?_toArray, List.getElem?_cons_succ, List.getElem?_cons_zero]; rfl) (by rfl) (by exact fun _ _ _ h => h) (by assumption) ?_ ?_
        rotate_left 1
        focus (intro w8 hSw; (try dsimp only at hSw); go_simp; (try with_reducible rfl); done)
        try simp only [Act.put, List.setIfInBounds_toArray, List.set_cons_zero, List.set_cons_succ]
        refine takeW (v := ?_) 5 (by decide +kernel) (by decide +kernel) (by kernel_rfl) (by simp only [List.getElem?_toArray, List.getElem?_cons_succ, List.getElem?_cons_zero]; rfl) (by rfl) (by exact fun _ _ _ h => h) (by assumption) ?_ ?_
        rotate_left 1
        focus (intro w8 hSw; (try dsimp only at hSw); go_simp; (try with_reducible rfl); done)
        try simp only [Act.put, List.setIfInBounds_toArray, List.set_cons_zero, List.set_cons_succ]
        refine takeW (v := ?_) 6 (by decide +kernel) (by decide +kernel) (by kernel_rfl) (by simp only [List.getElem?_toArray, List.getElem?_cons_succ, List.getElem?_cons_zero]; rfl) (by rfl) (by exact fun _ _ _ h => h) (by assumption) ?_ ?_
        rotate_left 1
        focus (intro w8 hSw; (try dsimp only at hSw); go_simp; (try with_reducible rfl); done)
        try simp only [Act.put, List.setIfInBounds_toArray, List.set_cons_zero, List.set_cons_succ]
        refine takeW (v := ?_) 7 (by decide +kernel) (by decide +kernel) (by kernel_rfl) (by simp only [List.getElem?_toArray, List.getElem?_cons_succ, List.getElem?_cons_zero]; rfl) (by rfl) (by exact fun _ _ _ h => h) (by assumption) ?_ ?_
        rotate_left 1
        focus (intro w8 hSw; (try dsimp only at hSw); go_simp; (try with_reducible rfl); done)
        try simp only [Act.put, List.setIfInBounds_toArray, List.set_cons_zero, List.set_cons_succ]
        refine wpAnyH_ready (rs := [3]) (by decide +kernel) (by simp) ?_
        refine AllReadyH.cons (by simp only [List.getElem?_toArray, List.getElem?_cons_succ, List.getElem?_cons_zero]; rfl) (fun K hK => ?_) AllReadyH.nil
        go_simp
        (go_at_call 14; with_reducible refine (HAL.out).mono ?_; rintro e w7 ⟨⟨⟨q2, d2, cp2, rfl, hd2, ho2⟩, hst2⟩, o7⟩)
        have RF7 := Lib.hid (RF9.out.onl BX9.out.nochan o7)
        have B7 := Lib.hid (o7.then B9.out HLO.out B9.out.size)
        have hd2l : d2.length = d.length := by have := congrArg List.length hd2; simpa using this
        have HSB := sameBox_refl (d.map (·.m)) hvl.out.msh (by simp; omega) q2 q cp2 c w7 (ho2.mails hd2) (RF7.out.row.mails hvl.out B7.out)
        rw [List.length_map] at HSB
        rw [hd2l]
        have HSB := Lib.hid HSB
        have HK7 := Lib.hid (show w7.cell? ⟨r, 0, none⟩ = some (.slice q d.length c) from RF7.out.c0)
        clear hd2 ho2 hst2 o7 hd2l
        go_wp2_with fail
        refine hK.out _ _ (by (try dsimp only); (first | assumption | exact HK7.out)) (fun hHeld => ?_)
        clear hK K
        try simp only [Act.put, List.setIfInBounds_toArray, List.set_cons_zero, List.set_cons_succ]
        refine wpAnyH_ready (rs := [8]) (by decide +kernel) (by simp) ?_
        refine AllReadyH.cons (by simp only [List.getElem?_toArray, List.getElem?_cons_succ, List.getElem?_cons_zero]; rfl) (fun K hK => ?_) AllReadyH.nil
        go_simp
        (go_at_call 13; with_reducible refine (HSB.out).mono ?_; rintro e w8 ⟨rfl, b8⟩)
        have B8 := Lib.hid (B7.out.trans (b8.mono B7.out.size))
        have HK8 := Lib.hid (show w8.cell? ⟨r, 0, none⟩ = some (.slice q d.length c) from (RF7.out.below b8).c0)
        clear b8
        go_wp2_with fail
        refine hK.out _ _ (by (try dsimp only); (first | assumption | exact HK8.out)) (fun hHeld => ?_)
        clear hK K
        try simp only [Act.put, List.setIfInBounds_toArray, List.set_cons_zero, List.set_cons_succ]
        refine takeW (v := ?_) 9 (by decide +kernel) (by decide +kernel) (by kernel_rfl) (by simp only [List.getElem?_toArray, List.getElem?_cons_succ, List.getElem?_cons_zero]; rfl) (by rfl) (by exact fun _ _ _ h => h) (by assumption) ?_ ?_
        rotate_left 1
        focus (intro w8 hSw; (try dsimp only at hSw); go_simp; (try with_reducible rfl); done)
        try simp only [Act.put, List.setIfInBounds_toArray, List.set_cons_zero, List.set_cons_succ]
        refine takeW (v := ?_) 10 (by decide +kernel) (by decide +kernel) (by kernel_rfl) (by simp only [List.getElem?_toArray, List.getElem?_cons_succ, List.getElem?_cons_zero]; rfl) (by rfl) (by exact fun _ _ _ h => h) (by assumption) ?_ ?_
        rotate_left 1
        focus (intro w8 hSw; (try dsimp only at hSw); go_simp; (try with_reducible rfl); done)
        try simp only [Act.put, List.setIfInBounds_toArray, List.set_cons_zero, List.set_cons_succ]
        refine wpAnyH_done (by decide +kernel) ?_ _
        go_wp2_with fail
        go_ret
        exact ⟨rfl, B8.out⟩

end Go.Proofs.Ytfkmpegbidojoaa.Md
