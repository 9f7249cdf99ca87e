/-
  Grow, Concat, Put.
-/
import Derived.Test.YtfkmpegbidojoaaMdFind
import Derived.Lib.AppendZeros
namespace Go.Proofs.Ytfkmpegbidojoaa.Md
open Go.RowKit
open Va
set_option linter.unusedVariables false
set_option linter.unusedSimpArgs false

set_option maxRecDepth 100000 in
set_option maxHeartbeats 4000000 in
theorem grow_any (n : Nat) (h0 : 0 < n) (hn : n ≤ 100000) (W0 w : World) :
    Calls Try.prog 47 #[.slice none 0 0, .int .i64 n] w fun e w' => (∃ q cp, e = .returned (.slice q 0 cp) ∧ DO w.heap.size W0 w' q [] cp) ∧ Below w.heap.size w w' := by
  obtain ⟨i0, hi, hz0, hz1, hz2⟩ := info_ptD infoD
  have hrun := fun ty => Lib.run_append_nil_zeros (P := Try.prog) w 44 3 ty 46 i0 _ .i64 .i64 Try.underlying44 Try.underlying3 hi hz0 n h0 (by rw [hz1]; omega) (by omega) (by rw [hz2]; omega)
  have hcm : grownCap w n 0 46 ≤ maxLen := grownCap_le_maxLen w n 0 _ (by unfold maxLen; omega)
  have hge : n ≤ grownCap w n 0 46 := grownCap_ge w n 0 _
  generalize grownCap w n 0 46 = C at *
  obtain ⟨W1, hW1⟩ : ∃ W1, W1 = w.drew.alloc (.cells (Builtin.zeroCells (Value.agg #[.int .i64 0, .int .i64 0, .string ⟨#[]⟩, .slice none 0 0, .slice none 0 0, .int .i64 0]).cells n ++ Builtin.zeroCells (Value.agg #[.int .i64 0, .int .i64 0, .string ⟨#[]⟩, .slice none 0 0, .slice none 0 0, .int .i64 0]).cells (C - n)) 46) := ⟨_, rfl⟩
  rw [← hW1] at hrun
  have HDO : Hid (DO w.heap.size W0 W1 (some ⟨w.heap.size, 0, none⟩) [] C) := Lib.hid ⟨⟨rfl, .inr ⟨w.heap.size, C, _, rfl, Nat.le_refl _, by rw [hW1]; exact heap_alloc_new w.drew _, Nat.zero_le _, hcm, by
      simp only [Array.size_append, size_zeroCells]
      show n * 6 + (C - n) * 6 = C * 6
      omega, by simp [dD]⟩⟩, fun y hy => by simp at hy⟩
  have HB : Hid (Below w.heap.size w W1) := Lib.hid (by rw [hW1]; exact ((show Below w.heap.size w w.drew from ⟨rfl, rfl, rfl, Nat.le_refl _, fun _ _ => rfl⟩).alloc (Nat.le_refl _) _))
  have HRUN := Lib.hid (hrun 44)
  have hni : (n : Int) ≤ 100000 := by omega
  have hn0 : 0 < (n : Int) := by omega
  have hci : (0 : Int) ≤ (C : Int) := by omega
  clear hrun hcm hge hW1 hi hz0 hz1 hz2
  go_enter Try.func47, Try.ntmps47
  go_wp2_with (at_builtin; refine wpList_app rfl _ _ _ _ rfl rfl rfl _ _ HRUN.out ?_)
  go_ret
  exact ⟨⟨_, C, rfl, HDO.out⟩, HB.out⟩

set_option maxRecDepth 100000 in
set_option maxHeartbeats 4000000 in
theorem concat_any (l : List DeadP) (hl : l.length ≤ 1000) (a : Option Addr) (cap SB K sc : Nat) (y : DK) (w : World) (hx : DeadsAt w a l) (hy : RowsOf w K 0 [y]) (hyv : ValsAt w y.ka y.x.mail.key ∧ ValsAt w y.fa y.x.mail.fields)
    (s0 : w.cell? ⟨SB, 0, none⟩ = some (.slice a l.length cap)) (s1 : w.cell? ⟨SB, 1, none⟩ = some (.slice (some ⟨K, 0, none⟩) 1 1)) (hK : K < w.heap.size) :
    Calls Try.prog 37 #[.slice (some ⟨SB, 0, none⟩) 2 sc] w fun e w' => (∃ q cp, e = .returned (.slice q (l.length + 1) cp) ∧ DeadsAt w' q (l ++ [y.x])) ∧ Below w.heap.size w w' := by
  obtain ⟨el, hel, hev, her⟩ := rows_of hx
  have hll : el.length = l.length := by rw [← hel]; simp
  have hsb := World.block_lt_of_cell? w _ s0
  have hli : (l.length : Int) ≤ 1000 := by omega
  have hl0 : (0 : Int) ≤ (l.length : Int) := by omega
  have HG := Lib.hid (grow_any (l.length + 1) (by omega) (by omega) w w)
  rw [show ((l.length + 1 : Nat) : Int) = (l.length : Int) + 1 by omega] at HG
  have HX := Lib.hid hx
  have HEL := Lib.hid hel
  have HEV := Lib.hid hev
  have HER := Lib.hid her
  have HY := Lib.hid hy
  have HYV := Lib.hid hyv
  have HS := Lib.hid (And.intro s0 s1)
  have HLL := Lib.hid hll
  clear hx hel hev her hy hyv hll
  go_enter Try.func37, Try.ntmps37
  go_wp2_with fail
  refine wp_loop_rounds 3 ?_
  rw [rounds_succ]
  go_wp2_with fail
  rw [rounds_succ]
  go_wp2_with fail
  rw [rounds_succ]
  go_wp2_with fail
  refine HG.out.mono ?_
  rintro e w1 ⟨⟨q1, c1, rfl, hdo1⟩, b1⟩
  have t0 := (b1.cell (p := ⟨SB, 0, none⟩) hsb).trans HS.out.1
  have t1 := (b1.cell (p := ⟨SB, 1, none⟩) hsb).trans HS.out.2
  obtain ⟨q2, c2, w2, hrun2, hdo2, b2⟩ : ∃ q2 c2 w2, (Builtin.append_ #[44, 44] 44 #[.slice q1 0 c1, .slice a l.length cap]).run Try.prog w1 = .ok (.slice q2 l.length c2) w2 ∧ DO w.heap.size w w2 q2 el c2 ∧ Below w.heap.size w1 w2 := by
    cases a with
    | none =>
      have h0 : l = [] := by
        cases l with
        | nil => rfl
        | cons x r => obtain ⟨_, _, _, _, _, _, e, _⟩ := HX.out 0 (by simp); cases e
      subst h0
      have he0 : el = [] := by have := HEL.out; simpa using this
      subst he0
      exact ⟨q1, c1, w1, hdo1.app_nil cap, hdo1, Below.refl _ _⟩
    | some p =>
      obtain ⟨q2, c2, w2, h1, h2, h3, _⟩ := hdo1.appA b1.size el (by have := HLL.out; simp; omega) p cap (fun j u hu => by
        have h9 := src_rows HX.out HEL.out HER.out j u hu
        have hlt := World.block_lt_of_cell? w _ h9
        exact (b1.cell (p := p.add j) hlt).trans h9) HEV.out
      rw [HLL.out] at h1
      simp only [List.length_nil, Nat.zero_add, List.nil_append] at h1 h2
      exact ⟨q2, c2, w2, h1, h2, h3⟩
  have HRUN2 := Lib.hid hrun2
  have b12 := b1.trans b2
  have u0 := (b12.cell (p := ⟨SB, 0, none⟩) hsb).trans HS.out.1
  have u1 := (b12.cell (p := ⟨SB, 1, none⟩) hsb).trans HS.out.2
  obtain ⟨q3, c3, w3, hrun3, hdo3, b3, _⟩ := hdo2.app b12.size [y] (by have := HLL.out; simp; omega) K 0 1 (fun j u hu => (b12.cell (p := ⟨K, 0 + j, none⟩) hK).trans (HY.out j u hu)) (fun z hz => by
    obtain rfl : z = y := by simpa using hz
    exact HYV.out)
  rw [HLL.out] at hrun3
  have HRUN3 := Lib.hid hrun3
  have B3 := Lib.hid (b12.trans b3)
  have HD3 : Hid (DeadsAt w3 q3 (l ++ [y.x])) := Lib.hid (by
    have := hdo3.deads (b12.trans b3)
    rwa [List.map_append, HEL.out] at this)
  clear hdo1 hdo2 hdo3 b1 b2 b12 b3 hrun2 hrun3
  go_wp2_with fail
  refine wp_loop_rounds 3 ?_
  rw [rounds_succ]
  go_wp2_with (at_builtin; refine wpList_app rfl _ _ _ _ rfl rfl rfl _ _ HRUN2.out ?_)
  rw [rounds_succ]
  go_wp2_with (at_builtin; refine wpList_app rfl _ _ _ _ rfl rfl rfl _ _ HRUN3.out ?_)
  rw [rounds_succ]
  go_wp2_with fail
  go_ret
  exact ⟨⟨q3, c3, rfl, HD3.out⟩, B3.out⟩

/-- What Put answers besides the letters. -/
def putE (l : List DeadP) (n r most : Int) : Int := if wordL r = [] then 2 else if l.any (fun x => x.n == n) then 21 else if most ≤ l.length then 42 else 0
def Putted (l : List DeadP) (n : Int) (m : MailP) (r most : Int) (w : World) (e : Ending) (w' : World) : Prop :=
  if putE l n r most = 0 then ∃ q cp, e = .returned (.tuple #[.slice q (l.length + 1) cp, .int .i64 0]) ∧ DwR w.heap.size w' q (l ++ [⟨n, m, r⟩]) ∧ l.length + 1 ≤ cp
  else e = .returned (.tuple #[.slice none 0 0, .int .i64 (putE l n r most)])
set_option maxRecDepth 100000 in
set_option maxHeartbeats 4000000 in
theorem put_any (l : List DeadP) (hl : l.length ≤ 900) (ok : ∀ x ∈ l, Dok x) (n : Int) (m : MailP) (r most : Int) (okx : Dok ⟨n, m, r⟩) (a : Option Addr) (cap : Nat) (ka : Option Addr) (kc : Nat) (fa : Option Addr) (fc : Nat) (w : World) (hx : DeadsAt w a l) (hka : ValsAt w ka m.key) (hfa : ValsAt w fa m.fields) :
    Calls Try.prog 21 #[.slice a l.length cap, .int .i64 n, .agg #[.int .i64 m.id, .string (S m.chan), .slice ka m.key.length kc, .slice fa m.fields.length fc], .int .i64 r, .int .i64 most] w fun e w' => Putted l n m r most w e w' ∧ Below w.heap.size w w' := by
  have hli : (l.length : Int) ≤ 900 := by omega
  have k0 := (Below.refl w.heap.size w).alloc (Nat.le_refl _) (.cells #[.int .i64 m.id, .string (S m.chan), .slice ka m.key.length kc, .slice fa m.fields.length fc] 30)
  have h0 : BM (w.alloc (.cells #[.int .i64 m.id, .string (S m.chan), .slice ka m.key.length kc, .slice fa m.fields.length fc] 30)) w.heap.size (.int .i64 m.id) (.string (S m.chan)) (.slice ka m.key.length kc) (.slice fa m.fields.length fc) := heap_alloc_new w _
  obtain ⟨W0, hW0⟩ : ∃ W0, W0 = w.alloc (.cells #[.int .i64 m.id, .string (S m.chan), .slice ka m.key.length kc, .slice fa m.fields.length fc] 30) := ⟨_, rfl⟩
  have HW0 := Lib.hid hW0
  rw [← hW0] at k0 h0
  have HK0 := Lib.hid k0
  have H0 := Lib.hid h0
  have HX := Lib.hid hx
  have HOK := Lib.hid ok
  have HOX := Lib.hid okx
  have HKF := Lib.hid (And.intro hka hfa)
  have HWD := Lib.hid (word_any r W0)
  have HNB := Lib.hid (numbered_any n W0)
  obtain ⟨Pst, hPst⟩ : ∃ Pst : Ending → World → Prop, Pst = fun e w' => Putted l n m r most w e w' ∧ Below w.heap.size w w' := ⟨_, rfl⟩
  rw [← hPst]
  have HP := Lib.hid hPst
  clear k0 h0 hW0 hx ok okx hka hfa hPst
  by_cases hw : wordL r = []
  · rw [hw] at HWD
    have e1 : (S []).toList.isEmpty = true := by rw [ByteArray.toList_eq, S_toList]; rfl
    have HPE : Hid (putE l n r most = 2) := Lib.hid (by unfold putE; rw [if_pos hw])
    clear hw
    go_enter Try.func21, Try.ntmps21
    go_wp2_with fail
    rw [← HW0.out]
    refine HWD.out.mono ?_
    rintro e w1 ⟨rfl, rfl⟩
    go_wp2_with fail
    rw [HP.out]
    refine ⟨?_, HK0.out⟩
    unfold Putted
    rw [if_neg (by rw [HPE.out]; decide), HPE.out]
    rfl
  · have e1 : (S (wordL r)).toList.isEmpty = false := by rw [ByteArray.toList_eq, S_toList]; simpa using hw
    have HW := Lib.hid hw
    clear hw
    have k1 := (Below.refl W0.heap.size W0).alloc (Nat.le_refl _) (.cells #[.int .i64 n] 2)
    have hc0 := cell_of_row _ W0.heap.size 0 _ _ (0, 0) (heap_alloc_new W0 (.cells #[.int .i64 n] 2))
    obtain ⟨W1, hW1⟩ : ∃ W1, W1 = W0.alloc (.cells #[.int .i64 n] 2) := ⟨_, rfl⟩
    rw [← hW1] at k1 hc0 HNB
    have b1 := HK0.out.trans (k1.mono HK0.out.size)
    have hf : Asks 45 (.pointer (some ⟨W0.heap.size, 0, none⟩)) (fun x => x.n == n) W1 := fun x ka kc fa fc W hW =>
      numEq_any x ka kc fa fc n W0.heap.size W ((hW.cell (p := ⟨W0.heap.size, 0, none⟩) (World.block_lt_of_cell? _ _ hc0)).trans hc0)
    have HC := Lib.hid (contains_any 45 _ _ l (by omega) a cap W1 (HX.out.below b1) hf callsF_n)
    have HB1 := Lib.hid b1
    have HM1 := Lib.hid (H0.out.below k1)
    clear k1 hc0 hW1 b1 hf
    cases hany : l.any (fun x => x.n == n) with
    | true =>
      rw [hany] at HC
      have HPE : Hid (putE l n r most = 21) := Lib.hid (by unfold putE; rw [if_neg HW.out, hany, if_pos rfl])
      clear hany
      go_enter Try.func21, Try.ntmps21
      go_wp2_with fail
      rw [← HW0.out]
      refine HWD.out.mono ?_
      rintro e w1 ⟨rfl, rfl⟩
      go_wp2_with fail
      refine HNB.out.mono ?_
      rintro e w2 ⟨rfl, rfl⟩
      go_wp2_with fail
      refine HC.out.mono ?_
      rintro e w3 ⟨rfl, b3⟩
      have B3 := Lib.hid (HB1.out.trans (b3.mono HB1.out.size))
      clear b3
      go_wp2_with fail
      rw [HP.out]
      refine ⟨?_, B3.out⟩
      unfold Putted
      rw [if_neg (by rw [HPE.out]; decide), HPE.out]
      rfl
    | false =>
      rw [hany] at HC
      by_cases hq : most ≤ l.length
      · have HPE : Hid (putE l n r most = 42) := Lib.hid (by unfold putE; rw [if_neg HW.out, hany, if_neg (by decide), if_pos hq])
        clear hany
        go_enter Try.func21, Try.ntmps21
        go_wp2_with fail
        rw [← HW0.out]
        refine HWD.out.mono ?_
        rintro e w1 ⟨rfl, rfl⟩
        go_wp2_with fail
        refine HNB.out.mono ?_
        rintro e w2 ⟨rfl, rfl⟩
        go_wp2_with fail
        refine HC.out.mono ?_
        rintro e w3 ⟨rfl, b3⟩
        have B3 := Lib.hid (HB1.out.trans (b3.mono HB1.out.size))
        clear b3
        go_wp2_with fail
        rw [HP.out]
        refine ⟨?_, B3.out⟩
        unfold Putted
        rw [if_neg (by rw [HPE.out]; decide), HPE.out]
        rfl
      · have HPE : Hid (putE l n r most = 0) := Lib.hid (by unfold putE; rw [if_neg HW.out, hany, if_neg (by decide), if_neg hq])
        have hq2 : (l.length : Int) < most := by omega
        clear hany hq
        go_enter Try.func21, Try.ntmps21
        go_wp2_with fail
        rw [← HW0.out]
        refine HWD.out.mono ?_
        rintro e w1 ⟨rfl, rfl⟩
        go_wp2_with fail
        refine HNB.out.mono ?_
        rintro e w2 ⟨rfl, rfl⟩
        go_wp2_with fail
        refine HC.out.mono ?_
        rintro e w3 ⟨rfl, b3⟩
        have B3 := Lib.hid (HB1.out.trans (b3.mono HB1.out.size))
        have m3 := HM1.out.below b3
        have g0 := m3.c0
        have g1 := m3.c1
        have g2 := m3.c2
        have g3 := m3.c3
        clear b3 m3
        have k4 := (Below.refl w3.heap.size w3).alloc (Nat.le_refl _) (.cells #[.int .i64 n, .int .i64 m.id, .string (S m.chan), .slice ka m.key.length kc, .slice fa m.fields.length fc, .int .i64 r] 46)
        have r4 := rows_one w3 ⟨⟨n, m, r⟩, ka, kc, fa, fc⟩ w3.heap.size rfl
        have k5 := k4.alloc (show w3.heap.size ≤ (w3.alloc (.cells #[.int .i64 n, .int .i64 m.id, .string (S m.chan), .slice ka m.key.length kc, .slice fa m.fields.length fc, .int .i64 r] 46)).heap.size by simp) (.cells #[.slice a l.length cap, .slice (some ⟨w3.heap.size, 0, none⟩) 1 1] 44)
        have k45 := (Below.refl (w3.alloc (.cells #[.int .i64 n, .int .i64 m.id, .string (S m.chan), .slice ka m.key.length kc, .slice fa m.fields.length fc, .int .i64 r] 46)).heap.size (w3.alloc (.cells #[.int .i64 n, .int .i64 m.id, .string (S m.chan), .slice ka m.key.length kc, .slice fa m.fields.length fc, .int .i64 r] 46))).alloc (Nat.le_refl _) (.cells #[.slice a l.length cap, .slice (some ⟨w3.heap.size, 0, none⟩) 1 1] 44)
        have hs5 := heap_alloc_new (w3.alloc (.cells #[.int .i64 n, .int .i64 m.id, .string (S m.chan), .slice ka m.key.length kc, .slice fa m.fields.length fc, .int .i64 r] 46)) (.cells #[.slice a l.length cap, .slice (some ⟨w3.heap.size, 0, none⟩) 1 1] 44)
        rw [show (w3.alloc (.cells #[.int .i64 n, .int .i64 m.id, .string (S m.chan), .slice ka m.key.length kc, .slice fa m.fields.length fc, .int .i64 r] 46)).heap.size = w3.heap.size + 1 by simp] at hs5
        simp only at r4
        have r5 : RowsOf ((w3.alloc (.cells #[.int .i64 n, .int .i64 m.id, .string (S m.chan), .slice ka m.key.length kc, .slice fa m.fields.length fc, .int .i64 r] 46)).alloc (.cells #[.slice a l.length cap, .slice (some ⟨w3.heap.size, 0, none⟩) 1 1] 44)) w3.heap.size 0 [⟨⟨n, m, r⟩, ka, kc, fa, fc⟩] := fun j u hu => by
          have h9 := r4 j u hu
          exact (k45.cell (p := ⟨w3.heap.size, 0 + j, none⟩) (by simp)).trans h9
        obtain ⟨W5, hW5⟩ : ∃ W5, W5 = (w3.alloc (.cells #[.int .i64 n, .int .i64 m.id, .string (S m.chan), .slice ka m.key.length kc, .slice fa m.fields.length fc, .int .i64 r] 46)).alloc (.cells #[.slice a l.length cap, .slice (some ⟨w3.heap.size, 0, none⟩) 1 1] 44) := ⟨_, rfl⟩
        have HW5 := Lib.hid hW5
        rw [← hW5] at k5 hs5 r5
        have b5 := B3.out.trans (k5.mono B3.out.size)
        have HB5 := Lib.hid b5
        have HCC := Lib.hid (concat_any l (by omega) a cap (w3.heap.size + 1) w3.heap.size 2 ⟨⟨n, m, r⟩, ka, kc, fa, fc⟩ W5 (HX.out.below b5) r5 ⟨HKF.out.1.below b5, HKF.out.2.below b5⟩ (cell_of_row _ _ 0 _ _ (0, 0) hs5) (cell_of_row _ _ 1 _ _ (0, 0) hs5) (Nat.lt_of_succ_lt (lt_of_heapV hs5)))
        clear k4 k5 k45 r4 r5 hs5 hW5 b5
        go_wp2_with fail
        rw [← HW5.out]
        refine HCC.out.mono ?_
        rintro e w6 ⟨⟨q6, c6, rfl, hd6⟩, b6⟩
        have B6 := Lib.hid (HB5.out.trans (b6.mono HB5.out.size))
        have HT := Lib.hid (twins_any (l ++ [⟨n, m, r⟩]) (by simp; omega) (fun x hx => by
          rcases List.mem_append.1 hx with hx | hx
          · exact HOK.out x hx
          · have : x = ⟨n, m, r⟩ := by simpa using hx
            rw [this]; exact HOX.out) q6 c6 w6 hd6)
        rw [show (l ++ [(⟨n, m, r⟩ : DeadP)]).length = l.length + 1 by simp] at HT
        clear hd6 b6 g0 g1 g2 g3
        go_wp2_with fail
        refine HT.out.mono ?_
        rintro e w7 ⟨⟨q7, c7, rfl, hr7, hc7⟩, b7⟩
        have B7 := Lib.hid (B6.out.trans (b7.mono B6.out.size))
        have HR7 := Lib.hid (DwR.mono (lo := w.heap.size) hr7 B6.out.size)
        have HC7 := Lib.hid hc7
        clear hr7 hc7 b7
        go_wp2_with fail
        rw [HP.out]
        refine ⟨?_, B7.out⟩
        unfold Putted
        rw [if_pos HPE.out]
        exact ⟨q7, c7, rfl, HR7.out, HC7.out⟩

end Go.Proofs.Ytfkmpegbidojoaa.Md
