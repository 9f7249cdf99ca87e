/-
  Put, and the room behind the letters.
-/
import Derived.Test.YtfkmpegbidojoaaMdPut
import Derived.Test.YtfkmpegbidojoaaMdTwinS
namespace Go.Proofs.Ytfkmpegbidojoaa.Md
open Go.RowKit
open Va
set_option linter.unusedVariables false
set_option linter.unusedSimpArgs false

def PuttedS (l : List DeadP) (n : Int) (m : MailP) (r most : Int) (w : World) (e : Ending) (w' : World) : Prop :=
  if putE l n r most = 0 then ∃ G cp, e = .returned (.tuple #[.slice (some ⟨G, 0, none⟩) (l.length + 1) cp, .int .i64 0]) ∧ DwS cp w.heap.size G (l ++ [⟨n, m, r⟩]) (l.length + 1) w' ∧ l.length + 1 ≤ cp
  else e = .returned (.tuple #[.slice none 0 0, .int .i64 (putE l n r most)])
set_option maxRecDepth 100000 in
set_option maxHeartbeats 4000000 in
theorem putS_any (l : List DeadP) (hl : l.length ≤ 900) (ok : ∀ x ∈ l, Dok x) (n : Int) (m : MailP) (r most : Int) (okx : Dok ⟨n, m, r⟩) (a : Option Addr) (cap : Nat) (ka : Option Addr) (kc : Nat) (fa : Option Addr) (fc : Nat) (w : World) (hx : DeadsAt w a l) (hka : ValsAt w ka m.key) (hfa : ValsAt w fa m.fields) :
    Calls Try.prog 21 #[.slice a l.length cap, .int .i64 n, .agg #[.int .i64 m.id, .string (S m.chan), .slice ka m.key.length kc, .slice fa m.fields.length fc], .int .i64 r, .int .i64 most] w fun e w' => PuttedS l n m r most w e w' ∧ Below w.heap.size w w' := by
  have hli : (l.length : Int) ≤ 900 := by omega
  have k0 := (Below.refl w.heap.size w).alloc (Nat.le_refl _) (.cells #[.int .i64 m.id, .string (S m.chan), .slice ka m.key.length kc, .slice fa m.fields.length fc] 30)
  have h0 : BM (w.alloc (.cells #[.int .i64 m.id, .string (S m.chan), .slice ka m.key.length kc, .slice fa m.fields.length fc] 30)) w.heap.size (.int .i64 m.id) (.string (S m.chan)) (.slice ka m.key.length kc) (.slice fa m.fields.length fc) := heap_alloc_new w _
  obtain ⟨W0, hW0⟩ : ∃ W0, W0 = w.alloc (.cells #[.int .i64 m.id, .string (S m.chan), .slice ka m.key.length kc, .slice fa m.fields.length fc] 30) := ⟨_, rfl⟩
  have HW0 := Lib.hid hW0
  rw [← hW0] at k0 h0
  have HK0 := Lib.hid k0
  have H0 := Lib.hid h0
  have HX := Lib.hid hx
  have HOK := Lib.hid ok
  have HOX := Lib.hid okx
  have HKF := Lib.hid (And.intro hka hfa)
  have HWD := Lib.hid (word_any r W0)
  have HNB := Lib.hid (numbered_any n W0)
  obtain ⟨Pst, hPst⟩ : ∃ Pst : Ending → World → Prop, Pst = fun e w' => PuttedS l n m r most w e w' ∧ Below w.heap.size w w' := ⟨_, rfl⟩
  rw [← hPst]
  have HP := Lib.hid hPst
  clear k0 h0 hW0 hx ok okx hka hfa hPst
  by_cases hw : wordL r = []
  · rw [hw] at HWD
    have e1 : (S []).toList.isEmpty = true := by rw [ByteArray.toList_eq, S_toList]; rfl
    have HPE : Hid (putE l n r most = 2) := Lib.hid (by unfold putE; rw [if_pos hw])
    clear hw
    go_enter Try.func21, Try.ntmps21
    go_wp2_with fail
    rw [← HW0.out]
    refine HWD.out.mono ?_
    rintro e w1 ⟨rfl, rfl⟩
    go_wp2_with fail
    rw [HP.out]
    refine ⟨?_, HK0.out⟩
    unfold PuttedS
    rw [if_neg (by rw [HPE.out]; decide), HPE.out]
    rfl
  · have e1 : (S (wordL r)).toList.isEmpty = false := by rw [ByteArray.toList_eq, S_toList]; simpa using hw
    have HW := Lib.hid hw
    clear hw
    have k1 := (Below.refl W0.heap.size W0).alloc (Nat.le_refl _) (.cells #[.int .i64 n] 2)
    have hc0 := cell_of_row _ W0.heap.size 0 _ _ (0, 0) (heap_alloc_new W0 (.cells #[.int .i64 n] 2))
    obtain ⟨W1, hW1⟩ : ∃ W1, W1 = W0.alloc (.cells #[.int .i64 n] 2) := ⟨_, rfl⟩
    rw [← hW1] at k1 hc0 HNB
    have b1 := HK0.out.trans (k1.mono HK0.out.size)
    have hf : Asks 45 (.pointer (some ⟨W0.heap.size, 0, none⟩)) (fun x => x.n == n) W1 := fun x ka kc fa fc W hW =>
      numEq_any x ka kc fa fc n W0.heap.size W ((hW.cell (p := ⟨W0.heap.size, 0, none⟩) (World.block_lt_of_cell? _ _ hc0)).trans hc0)
    have HC := Lib.hid (contains_any 45 _ _ l (by omega) a cap W1 (HX.out.below b1) hf callsF_n)
    have HB1 := Lib.hid b1
    have HM1 := Lib.hid (H0.out.below k1)
    clear k1 hc0 hW1 b1 hf
    cases hany : l.any (fun x => x.n == n) with
    | true =>
      rw [hany] at HC
      have HPE : Hid (putE l n r most = 21) := Lib.hid (by unfold putE; rw [if_neg HW.out, hany, if_pos rfl])
      clear hany
      go_enter Try.func21, Try.ntmps21
      go_wp2_with fail
      rw [← HW0.out]
      refine HWD.out.mono ?_
      rintro e w1 ⟨rfl, rfl⟩
      go_wp2_with fail
      refine HNB.out.mono ?_
      rintro e w2 ⟨rfl, rfl⟩
      go_wp2_with fail
      refine HC.out.mono ?_
      rintro e w3 ⟨rfl, b3⟩
      have B3 := Lib.hid (HB1.out.trans (b3.mono HB1.out.size))
      clear b3
      go_wp2_with fail
      rw [HP.out]
      refine ⟨?_, B3.out⟩
      unfold PuttedS
      rw [if_neg (by rw [HPE.out]; decide), HPE.out]
      rfl
    | false =>
      rw [hany] at HC
      by_cases hq : most ≤ l.length
      · have HPE : Hid (putE l n r most = 42) := Lib.hid (by unfold putE; rw [if_neg HW.out, hany, if_neg (by decide), if_pos hq])
        clear hany
        go_enter Try.func21, Try.ntmps21
        go_wp2_with fail
        rw [← HW0.out]
        refine HWD.out.mono ?_
        rintro e w1 ⟨rfl, rfl⟩
        go_wp2_with fail
        refine HNB.out.mono ?_
        rintro e w2 ⟨rfl, rfl⟩
        go_wp2_with fail
        refine HC.out.mono ?_
        rintro e w3 ⟨rfl, b3⟩
        have B3 := Lib.hid (HB1.out.trans (b3.mono HB1.out.size))
        clear b3
        go_wp2_with fail
        rw [HP.out]
        refine ⟨?_, B3.out⟩
        unfold PuttedS
        rw [if_neg (by rw [HPE.out]; decide), HPE.out]
        rfl
      · have HPE : Hid (putE l n r most = 0) := Lib.hid (by unfold putE; rw [if_neg HW.out, hany, if_neg (by decide), if_neg hq])
        have hq2 : (l.length : Int) < most := by omega
        clear hany hq
        go_enter Try.func21, Try.ntmps21
        go_wp2_with fail
        rw [← HW0.out]
        refine HWD.out.mono ?_
        rintro e w1 ⟨rfl, rfl⟩
        go_wp2_with fail
        refine HNB.out.mono ?_
        rintro e w2 ⟨rfl, rfl⟩
        go_wp2_with fail
        refine HC.out.mono ?_
        rintro e w3 ⟨rfl, b3⟩
        have B3 := Lib.hid (HB1.out.trans (b3.mono HB1.out.size))
        have m3 := HM1.out.below b3
        have g0 := m3.c0
        have g1 := m3.c1
        have g2 := m3.c2
        have g3 := m3.c3
        clear b3 m3
        have k4 := (Below.refl w3.heap.size w3).alloc (Nat.le_refl _) (.cells #[.int .i64 n, .int .i64 m.id, .string (S m.chan), .slice ka m.key.length kc, .slice fa m.fields.length fc, .int .i64 r] 46)
        have r4 := rows_one w3 ⟨⟨n, m, r⟩, ka, kc, fa, fc⟩ w3.heap.size rfl
        have k5 := k4.alloc (show w3.heap.size ≤ (w3.alloc (.cells #[.int .i64 n, .int .i64 m.id, .string (S m.chan), .slice ka m.key.length kc, .slice fa m.fields.length fc, .int .i64 r] 46)).heap.size by simp) (.cells #[.slice a l.length cap, .slice (some ⟨w3.heap.size, 0, none⟩) 1 1] 44)
        have k45 := (Below.refl (w3.alloc (.cells #[.int .i64 n, .int .i64 m.id, .string (S m.chan), .slice ka m.key.length kc, .slice fa m.fields.length fc, .int .i64 r] 46)).heap.size (w3.alloc (.cells #[.int .i64 n, .int .i64 m.id, .string (S m.chan), .slice ka m.key.length kc, .slice fa m.fields.length fc, .int .i64 r] 46))).alloc (Nat.le_refl _) (.cells #[.slice a l.length cap, .slice (some ⟨w3.heap.size, 0, none⟩) 1 1] 44)
        have hs5 := heap_alloc_new (w3.alloc (.cells #[.int .i64 n, .int .i64 m.id, .string (S m.chan), .slice ka m.key.length kc, .slice fa m.fields.length fc, .int .i64 r] 46)) (.cells #[.slice a l.length cap, .slice (some ⟨w3.heap.size, 0, none⟩) 1 1] 44)
        rw [show (w3.alloc (.cells #[.int .i64 n, .int .i64 m.id, .string (S m.chan), .slice ka m.key.length kc, .slice fa m.fields.length fc, .int .i64 r] 46)).heap.size = w3.heap.size + 1 by simp] at hs5
        simp only at r4
        have r5 : RowsOf ((w3.alloc (.cells #[.int .i64 n, .int .i64 m.id, .string (S m.chan), .slice ka m.key.length kc, .slice fa m.fields.length fc, .int .i64 r] 46)).alloc (.cells #[.slice a l.length cap, .slice (some ⟨w3.heap.size, 0, none⟩) 1 1] 44)) w3.heap.size 0 [⟨⟨n, m, r⟩, ka, kc, fa, fc⟩] := fun j u hu => by
          have h9 := r4 j u hu
          exact (k45.cell (p := ⟨w3.heap.size, 0 + j, none⟩) (by simp)).trans h9
        obtain ⟨W5, hW5⟩ : ∃ W5, W5 = (w3.alloc (.cells #[.int .i64 n, .int .i64 m.id, .string (S m.chan), .slice ka m.key.length kc, .slice fa m.fields.length fc, .int .i64 r] 46)).alloc (.cells #[.slice a l.length cap, .slice (some ⟨w3.heap.size, 0, none⟩) 1 1] 44) := ⟨_, rfl⟩
        have HW5 := Lib.hid hW5
        rw [← hW5] at k5 hs5 r5
        have b5 := B3.out.trans (k5.mono B3.out.size)
        have HB5 := Lib.hid b5
        have HCC := Lib.hid (concat_any l (by omega) a cap (w3.heap.size + 1) w3.heap.size 2 ⟨⟨n, m, r⟩, ka, kc, fa, fc⟩ W5 (HX.out.below b5) r5 ⟨HKF.out.1.below b5, HKF.out.2.below b5⟩ (cell_of_row _ _ 0 _ _ (0, 0) hs5) (cell_of_row _ _ 1 _ _ (0, 0) hs5) (Nat.lt_of_succ_lt (lt_of_heapV hs5)))
        clear k4 k5 k45 r4 r5 hs5 hW5 b5
        go_wp2_with fail
        rw [← HW5.out]
        refine HCC.out.mono ?_
        rintro e w6 ⟨⟨q6, c6, rfl, hd6⟩, b6⟩
        have B6 := Lib.hid (HB5.out.trans (b6.mono HB5.out.size))
        have HT := Lib.hid (twinsS_any (l ++ [⟨n, m, r⟩]) (by simp) (by simp; omega) (fun x hx => by
          rcases List.mem_append.1 hx with hx | hx
          · exact HOK.out x hx
          · have : x = ⟨n, m, r⟩ := by simpa using hx
            rw [this]; exact HOX.out) q6 c6 w6 hd6)
        rw [show (l ++ [(⟨n, m, r⟩ : DeadP)]).length = l.length + 1 by simp] at HT
        clear hd6 b6 g0 g1 g2 g3
        go_wp2_with fail
        refine HT.out.mono ?_
        rintro e w7 ⟨⟨q7, c7, rfl, hr7, hc7⟩, b7⟩
        have B7 := Lib.hid (B6.out.trans (b7.mono B6.out.size))
        have HR7 := Lib.hid (DwS.mono (lo := w.heap.size) hr7 B6.out.size)
        have HC7 := Lib.hid hc7
        clear hr7 hc7 b7
        go_wp2_with fail
        rw [HP.out]
        refine ⟨?_, B7.out⟩
        unfold PuttedS
        rw [if_pos HPE.out]
        exact ⟨q7, c7, rfl, HR7.out, HC7.out⟩

end Go.Proofs.Ytfkmpegbidojoaa.Md
