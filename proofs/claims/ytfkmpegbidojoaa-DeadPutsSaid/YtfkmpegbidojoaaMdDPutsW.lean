/-
  DeadPuts, walked.
-/
import Derived.Test.YtfkmpegbidojoaaMdDBackW
import Derived.Test.YtfkmpegbidojoaaMdRPut
namespace Go.Proofs.Ytfkmpegbidojoaa.Md
open Go.RowKit
open Va
set_option linter.unusedVariables false
set_option linter.unusedSimpArgs false

/-- What Put leaves: the letters, or none. -/
def putA (l : List DeadP) (x : DeadP) (most : Int) : List DeadP := if putE l x.n x.reason most = 0 then l ++ [x] else []
def dropA (l : List DeadP) (n : Int) : List DeadP := if (dropL l n).length = l.length then [] else dropL l n
def dropE (l : List DeadP) (n : Int) : Int := if (dropL l n).length = l.length then 22 else 0
def zDP : DeadP := ⟨0, ⟨0, [], [], []⟩, 0⟩
theorem Putted.flat {l : List DeadP} {x : DeadP} {most : Int} {w w' : World} {e : Ending} (h : Putted l x.n x.mail x.reason most w e w') : ∃ q c, e = .returned (.tuple #[.slice q (putA l x most).length c, .int .i64 (putE l x.n x.reason most)]) ∧ DeadsAt w' q (putA l x most) := by
  unfold Putted at h
  unfold putA
  by_cases hp : putE l x.n x.reason most = 0
  · rw [if_pos hp] at h ⊢
    obtain ⟨q, c, he, hr, _⟩ := h
    exact ⟨q, c, by rw [he, hp]; simp, DwR.deads hr⟩
  · rw [if_neg hp] at h ⊢
    exact ⟨none, 0, h, fun i hi => absurd hi (by simp)⟩
theorem RPutted.flat {l : List DeadP} {x : DeadP} {most : Int} {w w' : World} {e : Ending} (h : RPutted l x.n x.mail x.reason most w e w') : ∃ q c, e = .returned (.tuple #[.slice q (putA l x most).length c, .int .i64 (putE l x.n x.reason most)]) ∧ DeadsAt w' q (putA l x most) := by
  unfold RPutted at h
  unfold putA
  by_cases hp : putE l x.n x.reason most = 0
  · rw [if_pos hp] at h ⊢
    obtain ⟨q, c, he, hr⟩ := h
    exact ⟨q, c, by rw [he, hp]; simp, hr⟩
  · rw [if_neg hp] at h ⊢
    exact ⟨none, 0, h, fun i hi => absurd hi (by simp)⟩
theorem Dropped.flat {l : List DeadP} {n : Int} {w w' : World} {e : Ending} (h : Dropped l n w e w') : ∃ q c, e = .returned (.tuple #[.slice q (dropA l n).length c, .int .i64 (dropE l n)]) ∧ DeadsAt w' q (dropA l n) := by
  unfold Dropped at h
  unfold dropA dropE
  by_cases hp : (dropL l n).length = l.length
  · rw [if_pos hp] at h; rw [if_pos hp, if_pos hp]
    exact ⟨none, 0, h, fun i hi => absurd hi (by simp)⟩
  · rw [if_neg hp] at h; rw [if_neg hp, if_neg hp]
    obtain ⟨q, c, he, hr, _⟩ := h
    exact ⟨q, c, he, DwR.deads hr⟩
theorem RDropped.flat {l : List DeadP} {n : Int} {w w' : World} {e : Ending} (h : RDropped l n w e w') : ∃ q c, e = .returned (.tuple #[.slice q (dropA l n).length c, .int .i64 (dropE l n)]) ∧ DeadsAt w' q (dropA l n) := by
  unfold RDropped at h
  unfold dropA dropE
  by_cases hp : (dropL l n).length = l.length
  · rw [if_pos hp] at h; rw [if_pos hp, if_pos hp]
    exact ⟨none, 0, h, fun i hi => absurd hi (by simp)⟩
  · rw [if_neg hp] at h; rw [if_neg hp, if_neg hp]
    obtain ⟨q, c, he, hr⟩ := h
    exact ⟨q, c, he, hr⟩
theorem Found.flat {o : Option DeadP} {w w' : World} {e : Ending} (h : Found o w e w') : ∃ ka kc fa fc, e = .returned (.tuple #[dV (o.getD zDP) ka kc fa fc, .bool o.isSome]) ∧ ValsAt w' ka (o.getD zDP).mail.key ∧ ValsAt w' fa (o.getD zDP).mail.fields := by
  cases o with
  | none => exact ⟨none, 0, none, 0, h, fun i hi => absurd hi (by simp [zDP]), fun i hi => absurd hi (by simp [zDP])⟩
  | some x => obtain ⟨ka, kc, fa, fc, h1, h2, h3⟩ := h; exact ⟨ka, kc, fa, fc, h1, TwR.vals h2, TwR.vals h3⟩
theorem RFound.flat {o : Option DeadP} {w : World} {e : Ending} (h : RFound o w e) : ∃ ka kc fa fc, e = .returned (.tuple #[dV (o.getD zDP) ka kc fa fc, .bool o.isSome]) ∧ ValsAt w ka (o.getD zDP).mail.key ∧ ValsAt w fa (o.getD zDP).mail.fields := by
  cases o with
  | none => exact ⟨none, 0, none, 0, h, fun i hi => absurd hi (by simp [zDP]), fun i hi => absurd hi (by simp [zDP])⟩
  | some x => obtain ⟨ka, kc, fa, fc, h1, h2, h3⟩ := h; exact ⟨ka, kc, fa, fc, h1, h2, h3⟩
theorem find_msh {l : List DeadP} {n : Int} (h : ∀ y ∈ l, Msh y.mail) : Msh ((findL l n).getD zDP).mail := by
  cases h2 : findL l n with
  | none => exact ⟨mini_bigD 0 (by omega) (by omega), by simp [zDP], by simp [zDP]⟩
  | some x => exact h x (List.mem_of_find?_eq_some h2)
theorem countL_next (l : List DeadP) (r : Int) (k : Nat) (hk : k < l.length) : countL (l.take (k + 1)) r = countL (l.take k) r + (if l[k].reason = r then 1 else 0) := by
  unfold countL
  rw [List.take_succ_eq_append_getElem hk, List.filter_append, List.length_append]
  by_cases h : l[k].reason = r <;> simp [h]

set_option maxRecDepth 100000 in
set_option maxHeartbeats 16000000 in
theorem deadPuts_walk (l : List DeadP) (a : Option Addr) (cap : Nat) (x : DeadP) (ka : Option Addr) (kc : Nat) (fa : Option Addr) (fc : Nat) (most : Int) (w : World) (hl0 : l.length ≤ 281474976710656 ∧ l.length ≤ cap) (hx : DeadsAt w a l) (hb : ∀ y ∈ l, DBig y) (hxn : Num64 x.n) (hxr : Num64 x.reason) (hxm : MBig x.mail) (hka : ValsAt w ka x.mail.key) (hfa : ValsAt w fa x.mail.fields) (hmost : Num64 most) :
    Calls Try.prog 4 #[.slice a l.length cap, .agg #[.int .i64 x.n, .int .i64 x.mail.id, .string (S x.mail.chan), .slice ka x.mail.key.length kc, .slice fa x.mail.fields.length fc, .int .i64 x.reason], .int .i64 most] w fun e w' => e = .returned (.bool true) ∧ Below w.heap.size w w' := by
  have k0 := (Below.refl w.heap.size w).alloc (Nat.le_refl _) (.cells #[.int .i64 x.n, .int .i64 x.mail.id, .string (S x.mail.chan), .slice ka x.mail.key.length kc, .slice fa x.mail.fields.length fc, .int .i64 x.reason] 46)
  have h0 : BD (w.alloc (.cells #[.int .i64 x.n, .int .i64 x.mail.id, .string (S x.mail.chan), .slice ka x.mail.key.length kc, .slice fa x.mail.fields.length fc, .int .i64 x.reason] 46)) w.heap.size (.int .i64 x.n) (.int .i64 x.mail.id) (.string (S x.mail.chan)) (.slice ka x.mail.key.length kc) (.slice fa x.mail.fields.length fc) (.int .i64 x.reason) := heap_alloc_new w _
  obtain ⟨W0, hW0⟩ : ∃ W0, W0 = w.alloc (.cells #[.int .i64 x.n, .int .i64 x.mail.id, .string (S x.mail.chan), .slice ka x.mail.key.length kc, .slice fa x.mail.fields.length fc, .int .i64 x.reason] 46) := ⟨_, rfl⟩
  have HW0 := Lib.hid hW0
  rw [← hW0] at k0 h0
  have K0 := Lib.hid k0
  have D0 := Lib.hid h0
  have HX := Lib.hid hx
  have HBG := Lib.hid hb
  have HDX : Hid (DBig x) := Lib.hid ⟨hxn, hxr, hxm⟩
  have HKF := Lib.hid (And.intro hka hfa)
  have HLL := Lib.hid hl0
  have hl : l.length ≤ 281474976710656 := hl0.1
  have hli : (l.length : Int) ≤ 281474976710656 := by omega
  clear k0 h0 hW0 hx hb hxn hxr hxm hka hfa hl0
  go_enter Try.func4, Try.ntmps4
  go_wp2_with fail
  rw [← HW0.out]
  refine (awake19_any _).mono ?_
  rintro e w1 ⟨rfl, b1⟩
  have B1 := Lib.hid (K0.out.trans (b1.mono K0.out.size))
  have D1 := Lib.hid (D0.out.below b1)
  have HSM := Lib.hid (small_any l hl HBG.out a cap w1 (HX.out.below B1.out))
  clear b1
  cases hs1 : smallB l with
  | false =>
    rw [hs1] at HSM
    clear hs1
    go_wp2_with fail
    refine HSM.out.mono ?_
    rintro e w2 ⟨rfl, b2⟩
    have B2 := Lib.hid (B1.out.trans (b2.mono B1.out.size))
    clear b2
    go_wp2_with fail
    refine (awake19_any _).mono ?_
    rintro e w3 ⟨rfl, b3⟩
    have B3 := Lib.hid (B2.out.trans (b3.mono B2.out.size))
    clear b3
    go_wp2_with fail
    go_ret
    exact ⟨rfl, B3.out⟩
  | true =>
    rw [hs1] at HSM
    have HOK := Lib.hid (smallB_ok HBG.out hs1)
    have hl100 : l.length ≤ 100 := HOK.out.1
    clear hs1
    go_wp2_with fail
    refine HSM.out.mono ?_
    rintro e w2 ⟨rfl, b2⟩
    have B2 := Lib.hid (B1.out.trans (b2.mono B1.out.size))
    have D2 := Lib.hid (D1.out.below b2)
    clear b2
    have x0 := D2.out.c0
    have x1 := D2.out.c1
    have x2 := D2.out.c2
    have x3 := D2.out.c3
    have x4 := D2.out.c4
    have x5 := D2.out.c5
    have k3 := (Below.refl w2.heap.size w2).alloc (Nat.le_refl _) (.cells #[.int .i64 x.n, .int .i64 x.mail.id, .string (S x.mail.chan), .slice ka x.mail.key.length kc, .slice fa x.mail.fields.length fc, .int .i64 x.reason] 46)
    have B3 := Lib.hid (B2.out.trans (k3.mono B2.out.size))
    have D3 := Lib.hid (D2.out.below k3)
    have HS3 := Lib.hid (small_any [x] (by simp) (fun y hy => by
      have : y = x := by simpa using hy
      rw [this]; exact HDX.out) (some ⟨w2.heap.size, 0, none⟩) 1 (w2.alloc (.cells #[.int .i64 x.n, .int .i64 x.mail.id, .string (S x.mail.chan), .slice ka x.mail.key.length kc, .slice fa x.mail.fields.length fc, .int .i64 x.reason] 46)) (deads_one (HKF.out.1.below B3.out) (HKF.out.2.below B3.out)))
    clear k3
    cases hs2 : smallB [x] with
    | false =>
      rw [hs2] at HS3
      clear hs2
      go_wp2_with fail
      refine HS3.out.mono ?_
      rintro e w4 ⟨rfl, b4⟩
      have B4 := Lib.hid (B3.out.trans (b4.mono B3.out.size))
      clear b4
      go_wp2_with fail
      refine (awake19_any _).mono ?_
      rintro e w5 ⟨rfl, b5⟩
      have B5 := Lib.hid (B4.out.trans (b5.mono B4.out.size))
      clear b5
      go_wp2_with fail
      go_ret
      exact ⟨rfl, B5.out⟩
    | true =>
      rw [hs2] at HS3
      have HXO := Lib.hid ((smallB_ok (l := [x]) (fun y hy => by
        have : y = x := by simpa using hy
        rw [this]; exact HDX.out) hs2).2 x (by simp))
      clear hs2
      go_wp2_with fail
      refine HS3.out.mono ?_
      rintro e w4 ⟨rfl, b4⟩
      have B4 := Lib.hid (B3.out.trans (b4.mono B3.out.size))
      have D4 := Lib.hid (D3.out.below b4)
      clear b4 x0 x1 x2 x3 x4 x5
      have x0 := D4.out.c0
      have x1 := D4.out.c1
      have x2 := D4.out.c2
      have x3 := D4.out.c3
      have x4 := D4.out.c4
      have x5 := D4.out.c5
      have HPU := Lib.hid (put_any l (by omega) (fun y hy => (HOK.out.2 y hy).1) x.n x.mail x.reason most HXO.out.1 a cap ka kc fa fc w4 (HX.out.below B4.out) (HKF.out.1.below B4.out) (HKF.out.2.below B4.out))
      obtain ⟨PE, hPE⟩ : ∃ PE, PE = putE l x.n x.reason most := ⟨_, rfl⟩
      obtain ⟨PA, hPA⟩ : ∃ PA, PA = putA l x most := ⟨_, rfl⟩
      obtain ⟨DE, hDE⟩ : ∃ DE, DE = dropE l x.n := ⟨_, rfl⟩
      obtain ⟨DA, hDA⟩ : ∃ DA, DA = dropA l x.n := ⟨_, rfl⟩
      obtain ⟨y, hy⟩ : ∃ y, y = (findL l x.n).getD zDP := ⟨_, rfl⟩
      obtain ⟨fb, hfb⟩ : ∃ fb, fb = (findL l x.n).isSome := ⟨_, rfl⟩
      have HPAM : Hid (∀ y ∈ PA, Msh y.mail) := Lib.hid (by
        rw [hPA]; unfold putA
        split
        · intro y hy
          rcases List.mem_append.1 hy with hy | hy
          · exact (HOK.out.2 y hy).2
          · have : y = x := by simpa using hy
            rw [this]; exact HXO.out.2
        · intro y hy; simp at hy)
      have HPAL : Hid (PA.length ≤ 1000) := Lib.hid (by rw [hPA]; unfold putA; split <;> simp; omega)
      have HDAM : Hid (∀ y ∈ DA, Msh y.mail) := Lib.hid (by
        rw [hDA]; unfold dropA
        split
        · intro y hy; simp at hy
        · intro y hy; exact (HOK.out.2 y (List.mem_filter.1 hy).1).2)
      have HDAL : Hid (DA.length ≤ 1000) := Lib.hid (by
        rw [hDA]; unfold dropA
        split
        · simp
        · have : (dropL l x.n).length ≤ l.length := List.length_filter_le _ _
          omega)
      have HYM : Hid (Msh y.mail) := Lib.hid (by rw [hy]; exact find_msh fun z hz => (HOK.out.2 z hz).2)
      have HN := Lib.hid (And.intro hPE (And.intro hPA (And.intro hDE (And.intro hDA (And.intro hy hfb)))))
      clear hPE hPA hDE hDA hy hfb
      go_wp2_with fail
      refine HPU.out.mono ?_
      rintro e w5 ⟨h5, b5⟩
      obtain ⟨q5, c5, rfl, d5⟩ := h5.flat
      rw [← HN.out.1, ← HN.out.2.1]
      rw [← HN.out.2.1] at d5
      have P5 := Lib.hid d5
      have B5 := Lib.hid (B4.out.trans (b5.mono B4.out.size))
      have D5 := Lib.hid (D4.out.below b5)
      clear h5 d5 b5 x0 x1 x2 x3 x4 x5
      have x0 := D5.out.c0
      have x1 := D5.out.c1
      have x2 := D5.out.c2
      have x3 := D5.out.c3
      have x4 := D5.out.c4
      have x5 := D5.out.c5
      go_wp2_with fail
      refine (rput_any l (by omega) x.n x.mail x.reason most a cap ka kc fa fc w5 (HX.out.below B5.out) (HKF.out.1.below B5.out) (HKF.out.2.below B5.out)).mono ?_
      rintro e w6 ⟨h6, b6⟩
      obtain ⟨q6, c6, rfl, d6⟩ := h6.flat
      rw [← HN.out.1, ← HN.out.2.1]
      rw [← HN.out.2.1] at d6
      have P6 := Lib.hid (P5.out.below b6)
      have Q6 := Lib.hid d6
      have B6 := Lib.hid (B5.out.trans (b6.mono B5.out.size))
      have D6 := Lib.hid (D5.out.below b6)
      clear h6 d6 b6 x0 x1 x2 x3 x4 x5
      have x0 := D6.out.c0
      go_wp2_with fail
      refine (drop_any l (by omega) (fun y hy => (HOK.out.2 y hy).1) x.n a cap w6 (HX.out.below B6.out)).mono ?_
      rintro e w7 ⟨h7, b7⟩
      obtain ⟨q7, c7, rfl, d7⟩ := h7.flat
      rw [← HN.out.2.2.1, ← HN.out.2.2.2.1]
      rw [← HN.out.2.2.2.1] at d7
      have P7 := Lib.hid (P6.out.below b7)
      have Q7 := Lib.hid (Q6.out.below b7)
      have R7 := Lib.hid d7
      have B7 := Lib.hid (B6.out.trans (b7.mono B6.out.size))
      have D7 := Lib.hid (D6.out.below b7)
      clear h7 d7 b7 x0
      have x0 := D7.out.c0
      go_wp2_with fail
      refine (rdrop_any l (by omega) x.n a cap w7 (HX.out.below B7.out)).mono ?_
      rintro e w8 ⟨h8, b8⟩
      obtain ⟨q8, c8, rfl, d8⟩ := h8.flat
      rw [← HN.out.2.2.1, ← HN.out.2.2.2.1]
      rw [← HN.out.2.2.2.1] at d8
      have P8 := Lib.hid (P7.out.below b8)
      have Q8 := Lib.hid (Q7.out.below b8)
      have R8 := Lib.hid (R7.out.below b8)
      have S8 := Lib.hid d8
      have B8 := Lib.hid (B7.out.trans (b8.mono B7.out.size))
      have D8 := Lib.hid (D7.out.below b8)
      clear h8 d8 b8 x0
      have x0 := D8.out.c0
      go_wp2_with fail
      refine (find_any l (by omega) cap HLL.out.2 (fun y hy => (HOK.out.2 y hy).1) x.n a w8 (HX.out.below B8.out)).mono ?_
      rintro e w9 ⟨h9, b9⟩
      obtain ⟨ky, cy, fy, dy, rfl, vk9, vf9⟩ := h9.flat
      rw [← HN.out.2.2.2.2.1] at vk9 vf9 ⊢
      rw [← HN.out.2.2.2.2.2]
      unfold dV
      have k9 := (Below.refl w9.heap.size w9).alloc (Nat.le_refl _) (.cells #[.int .i64 y.n, .int .i64 y.mail.id, .string (S y.mail.chan), .slice ky y.mail.key.length cy, .slice fy y.mail.fields.length dy, .int .i64 y.reason] 46)
      have h9y : BD (w9.alloc (.cells #[.int .i64 y.n, .int .i64 y.mail.id, .string (S y.mail.chan), .slice ky y.mail.key.length cy, .slice fy y.mail.fields.length dy, .int .i64 y.reason] 46)) w9.heap.size (.int .i64 y.n) (.int .i64 y.mail.id) (.string (S y.mail.chan)) (.slice ky y.mail.key.length cy) (.slice fy y.mail.fields.length dy) (.int .i64 y.reason) := heap_alloc_new w9 _
      obtain ⟨W9, hW9⟩ : ∃ W9, W9 = w9.alloc (.cells #[.int .i64 y.n, .int .i64 y.mail.id, .string (S y.mail.chan), .slice ky y.mail.key.length cy, .slice fy y.mail.fields.length dy, .int .i64 y.reason] 46) := ⟨_, rfl⟩
      have HW9 := Lib.hid hW9
      rw [← hW9] at k9 h9y
      have g9 : Below w8.heap.size w8 W9 := b9.trans (k9.mono b9.size)
      obtain ⟨HY, hHY⟩ : ∃ HY, HY = w9.heap.size := ⟨_, rfl⟩
      have HHY := Lib.hid hHY
      rw [← hHY] at h9y
      have Y9 := Lib.hid h9y
      have P9 := Lib.hid (P8.out.below g9)
      have Q9 := Lib.hid (Q8.out.below g9)
      have R9 := Lib.hid (R8.out.below g9)
      have S9 := Lib.hid (S8.out.below g9)
      have B9 := Lib.hid (B8.out.trans (g9.mono B8.out.size))
      have D9 := Lib.hid (D8.out.below g9)
      have V9 := Lib.hid (And.intro (vk9.below k9) (vf9.below k9))
      clear x0
      have x0 : (w9.alloc (.cells #[.int .i64 y.n, .int .i64 y.mail.id, .string (S y.mail.chan), .slice ky y.mail.key.length cy, .slice fy y.mail.fields.length dy, .int .i64 y.reason] 46)).cell? ⟨w.heap.size, 0, none⟩ = some (.int .i64 x.n) := by rw [← hW9]; exact D9.out.c0
      clear h9 b9 vk9 vf9 k9 h9y g9 hW9 hHY
      go_wp2_with fail
      rw [← HW9.out]
      refine (rfind_any l (by omega) x.n a cap W9 (HX.out.below B9.out)).mono ?_
      rintro e w10 ⟨h10, b10⟩
      obtain ⟨kz, cz, fz, dz, rfl, vk10, vf10⟩ := h10.flat
      rw [← HN.out.2.2.2.2.1] at vk10 vf10 ⊢
      rw [← HN.out.2.2.2.2.2]
      unfold dV
      have k10 := (Below.refl w10.heap.size w10).alloc (Nat.le_refl _) (.cells #[.int .i64 y.n, .int .i64 y.mail.id, .string (S y.mail.chan), .slice kz y.mail.key.length cz, .slice fz y.mail.fields.length dz, .int .i64 y.reason] 46)
      have h10z : BD (w10.alloc (.cells #[.int .i64 y.n, .int .i64 y.mail.id, .string (S y.mail.chan), .slice kz y.mail.key.length cz, .slice fz y.mail.fields.length dz, .int .i64 y.reason] 46)) w10.heap.size (.int .i64 y.n) (.int .i64 y.mail.id) (.string (S y.mail.chan)) (.slice kz y.mail.key.length cz) (.slice fz y.mail.fields.length dz) (.int .i64 y.reason) := heap_alloc_new w10 _
      obtain ⟨W10, hW10⟩ : ∃ W10, W10 = w10.alloc (.cells #[.int .i64 y.n, .int .i64 y.mail.id, .string (S y.mail.chan), .slice kz y.mail.key.length cz, .slice fz y.mail.fields.length dz, .int .i64 y.reason] 46) := ⟨_, rfl⟩
      have HW10 := Lib.hid hW10
      rw [← hW10] at k10 h10z
      have g10 : Below W9.heap.size W9 W10 := b10.trans (k10.mono b10.size)
      obtain ⟨HZ, hHZ⟩ : ∃ HZ, HZ = w10.heap.size := ⟨_, rfl⟩
      have HHZ := Lib.hid hHZ
      rw [← hHZ] at h10z
      have Z10 := Lib.hid h10z
      have Y10 := Lib.hid (Y9.out.below g10)
      have P10 := Lib.hid (P9.out.below g10)
      have Q10 := Lib.hid (Q9.out.below g10)
      have R10 := Lib.hid (R9.out.below g10)
      have S10 := Lib.hid (S9.out.below g10)
      have B10 := Lib.hid (B9.out.trans (g10.mono B9.out.size))
      have D10 := Lib.hid (D9.out.below g10)
      have V10 := Lib.hid (And.intro (V9.out.1.below g10) (V9.out.2.below g10))
      have U10 := Lib.hid (And.intro (vk10.below g10) (vf10.below g10))
      rw [← HHY.out]
      clear x0 h10 b10 vk10 vf10 k10 h10z g10 hW10 hHZ
      have hcl : ∀ k, countL (l.take k) x.reason ≤ 100 := fun k => Nat.le_trans (countL_le _ _) (by rw [List.length_take]; omega)
      have HCL := Lib.hid hcl
      clear hcl
      go_wp2_with fail
      rw [← HW10.out, ← HHZ.out]
      go_loopw [19, 88] (fun nv iv wr => ∃ k : Nat, k ≤ l.length ∧ iv = .int .i64 k ∧ nv = .int .i64 (countL (l.take k) x.reason : Nat) ∧ Below W10.heap.size W10 wr) (fun _ iv _ => l.length - (intOf iv).toNat)
      case atStart => exact ⟨0, by omega, rfl, rfl, Below.refl _ _⟩
      case round =>
        obtain ⟨k, hk, rfl, rfl, hb⟩ := hrel
        have HB := Lib.hid hb
        by_cases hlt : k < l.length
        · have hki : (k : Int) < (l.length : Int) := by omega
          obtain ⟨b, off, ja, jc, la, lc, hae, ⟨v0, v1, v2, v3, v4, v5, _, _⟩, hgl⟩ := HX.out k hlt
          subst hae
          have HCN := Lib.hid (countL_next l x.reason k hlt)
          obtain ⟨t, hte⟩ : ∃ t, t = l[k] := ⟨_, rfl⟩
          rw [← hte] at v0 v1 v2 v3 v4 v5 HCN
          have hbb := B10.out.trans (hb.mono B10.out.size)
          have p0 := (hbb.cell (p := ⟨b, off + k * 6, none⟩) hgl).trans v0
          have p1 := (hbb.cell (p := ⟨b, off + k * 6 + 1, none⟩) hgl).trans v1
          have p2 := (hbb.cell (p := ⟨b, off + k * 6 + 2, none⟩) hgl).trans v2
          have p3 := (hbb.cell (p := ⟨b, off + k * 6 + 3, none⟩) hgl).trans v3
          have p4 := (hbb.cell (p := ⟨b, off + k * 6 + 4, none⟩) hgl).trans v4
          have p5 := (hbb.cell (p := ⟨b, off + k * 6 + 5, none⟩) hgl).trans v5
          have hcl := HCL.out k
          have kk := (Below.refl wr.heap.size wr).alloc (Nat.le_refl _) (.cells #[.int .i64 t.n, .int .i64 t.mail.id, .string (S t.mail.chan), .slice ja t.mail.key.length jc, .slice la t.mail.fields.length lc, .int .i64 t.reason] 46)
          have B11 := Lib.hid (hb.trans (kk.mono hb.size))
          have ht1 : BD (wr.alloc (.cells #[.int .i64 t.n, .int .i64 t.mail.id, .string (S t.mail.chan), .slice ja t.mail.key.length jc, .slice la t.mail.fields.length lc, .int .i64 t.reason] 46)) wr.heap.size _ _ _ _ _ _ := heap_alloc_new wr _
          have t5 := ht1.c5
          have x5 := (D10.out.below (hb.trans (kk.mono hb.size))).c5
          obtain ⟨CL, hCL⟩ : ∃ CL, CL = countL (l.take k) x.reason := ⟨_, rfl⟩
          rw [← hCL] at HCN hcl ⊢
          have hci : (CL : Int) ≤ 100 := by omega
          clear hb v0 v1 v2 v3 v4 v5 hte hbb kk ht1 hCL
          by_cases htr : t.reason = x.reason
          · rw [if_pos htr] at HCN
            have e1 : (t.reason == x.reason) = true := by simpa using htr
            clear htr
            go_wp2_with fail
            go_roundw
            case rel => exact ⟨k + 1, by omega, by go_num, by rw [HCN.out]; go_num, B11.out⟩
            case measure => simp [intOf]; omega
          · rw [if_neg htr] at HCN
            have e1 : (t.reason == x.reason) = false := by simpa using htr
            clear htr
            go_wp2_with fail
            go_roundw
            case rel => exact ⟨k + 1, by omega, by go_num, by rw [HCN.out]; rfl, B11.out⟩
            case measure => simp [intOf]; omega
        · have hke : k = l.length := by omega
          have hki : ¬ (k : Int) < (l.length : Int) := by omega
          rw [hke, List.take_length]
          have hki2 : ¬ (l.length : Int) < (l.length : Int) := by omega
          obtain ⟨wz, rfl⟩ : ∃ wz, wz = wr := ⟨_, rfl⟩
          have B11 := Lib.hid (B10.out.trans (hb.mono B10.out.size))
          have D11 := Lib.hid (D10.out.below hb)
          have Y11 := Lib.hid (Y10.out.below hb)
          have Z11 := Lib.hid (Z10.out.below hb)
          have HKEEP := Lib.hid (fun W (k : Good wz W) => show (W.cell? ⟨w.heap.size, 0, none⟩ = some (.int .i64 x.n) ∧ W.cell? ⟨w.heap.size, 1, none⟩ = some (.int .i64 x.mail.id) ∧ W.cell? ⟨w.heap.size, 2, none⟩ = some (.string (S x.mail.chan)) ∧ W.cell? ⟨w.heap.size, 3, none⟩ = some (.slice ka x.mail.key.length kc) ∧ W.cell? ⟨w.heap.size, 4, none⟩ = some (.slice fa x.mail.fields.length fc) ∧ W.cell? ⟨w.heap.size, 5, none⟩ = some (.int .i64 x.reason)) ∧ (W.cell? ⟨HY, 0, none⟩ = some (.int .i64 y.n) ∧ W.cell? ⟨HY, 1, none⟩ = some (.int .i64 y.mail.id) ∧ W.cell? ⟨HY, 2, none⟩ = some (.string (S y.mail.chan)) ∧ W.cell? ⟨HY, 3, none⟩ = some (.slice ky y.mail.key.length cy) ∧ W.cell? ⟨HY, 4, none⟩ = some (.slice fy y.mail.fields.length dy) ∧ W.cell? ⟨HY, 5, none⟩ = some (.int .i64 y.reason)) ∧ (W.cell? ⟨HZ, 0, none⟩ = some (.int .i64 y.n) ∧ W.cell? ⟨HZ, 1, none⟩ = some (.int .i64 y.mail.id) ∧ W.cell? ⟨HZ, 2, none⟩ = some (.string (S y.mail.chan)) ∧ W.cell? ⟨HZ, 3, none⟩ = some (.slice kz y.mail.key.length cz) ∧ W.cell? ⟨HZ, 4, none⟩ = some (.slice fz y.mail.fields.length dz) ∧ W.cell? ⟨HZ, 5, none⟩ = some (.int .i64 y.reason)) from
            ⟨⟨(D11.out.below k).c0, (D11.out.below k).c1, (D11.out.below k).c2, (D11.out.below k).c3, (D11.out.below k).c4, (D11.out.below k).c5⟩, ⟨(Y11.out.below k).c0, (Y11.out.below k).c1, (Y11.out.below k).c2, (Y11.out.below k).c3, (Y11.out.below k).c4, (Y11.out.below k).c5⟩, ⟨(Z11.out.below k).c0, (Z11.out.below k).c1, (Z11.out.below k).c2, (Z11.out.below k).c3, (Z11.out.below k).c4, (Z11.out.below k).c5⟩⟩)
          have HG0 := Lib.hid (Good.refl wz)
          have HST := Lib.hid (HKEEP.out _ HG0.out.drew)
          have HAW := Lib.hid (fun W (k : Good wz W) => good_call (R := fun e => e = .returned (.bool true)) k (awake19_any W))
          have HS1 := Lib.hid (fun W (k : Good wz W) => good_call (R := fun e => e = .returned (.bool true)) k (same_refl PA HPAM.out (by have := HPAL.out; omega) q5 q6 c5 c6 W ((P10.out.below HB.out).below k) ((Q10.out.below HB.out).below k)))
          have HS2 := Lib.hid (fun W (k : Good wz W) => good_call (R := fun e => e = .returned (.bool true)) k (same_refl DA HDAM.out (by have := HDAL.out; omega) q7 q8 c7 c8 W ((R10.out.below HB.out).below k) ((S10.out.below HB.out).below k)))
          have HSD := Lib.hid (fun W (k : Good wz W) => good_call (R := fun e => e = .returned (.bool true)) k (sameDead_refl y HYM.out ky cy fy dy kz cz fz dz W ((V10.out.1.below HB.out).below k) ((V10.out.2.below HB.out).below k) ((U10.out.1.below HB.out).below k) ((U10.out.2.below HB.out).below k)))
          have HWD := Lib.hid (fun W => word_any x.reason W)
          have HRW := Lib.hid (fun W => rword_any x.reason W)
          have HCO := Lib.hid (fun W (k : Good wz W) => good_call (R := fun e => e = .returned (.int .i64 (countL l x.reason : Int))) k (count_any l (by omega) x.reason a cap W ((HX.out.below B11.out).below k)))
          have HFIN := Lib.hid (fun W (k : Good wz W) => B11.out.trans (k.mono B11.out.size))
          obtain ⟨CL, hCL⟩ : ∃ CL, CL = countL l x.reason := ⟨_, rfl⟩
          rw [← hCL] at HCO ⊢
          obtain ⟨WD, hWD⟩ : ∃ WD, WD = S (wordL x.reason) := ⟨_, rfl⟩
          rw [← hWD] at HWD HRW
          clear hCL hWD hb hke hki
          go_wp2_with fail
          refine wp_region_held_drew (S := (fun w7 => (w7.cell? ⟨w.heap.size, 0, none⟩ = some (.int .i64 x.n) ∧ w7.cell? ⟨w.heap.size, 1, none⟩ = some (.int .i64 x.mail.id) ∧ w7.cell? ⟨w.heap.size, 2, none⟩ = some (.string (S x.mail.chan)) ∧ w7.cell? ⟨w.heap.size, 3, none⟩ = some (.slice ka x.mail.key.length kc) ∧ w7.cell? ⟨w.heap.size, 4, none⟩ = some (.slice fa x.mail.fields.length fc) ∧ w7.cell? ⟨w.heap.size, 5, none⟩ = some (.int .i64 x.reason)) ∧ (w7.cell? ⟨HY, 0, none⟩ = some (.int .i64 y.n) ∧ w7.cell? ⟨HY, 1, none⟩ = some (.int .i64 y.mail.id) ∧ w7.cell? ⟨HY, 2, none⟩ = some (.string (S y.mail.chan)) ∧ w7.cell? ⟨HY, 3, none⟩ = some (.slice ky y.mail.key.length cy) ∧ w7.cell? ⟨HY, 4, none⟩ = some (.slice fy y.mail.fields.length dy) ∧ w7.cell? ⟨HY, 5, none⟩ = some (.int .i64 y.reason)) ∧ (w7.cell? ⟨HZ, 0, none⟩ = some (.int .i64 y.n) ∧ w7.cell? ⟨HZ, 1, none⟩ = some (.int .i64 y.mail.id) ∧ w7.cell? ⟨HZ, 2, none⟩ = some (.string (S y.mail.chan)) ∧ w7.cell? ⟨HZ, 3, none⟩ = some (.slice kz y.mail.key.length cz) ∧ w7.cell? ⟨HZ, 4, none⟩ = some (.slice fz y.mail.fields.length dz) ∧ w7.cell? ⟨HZ, 5, none⟩ = some (.int .i64 y.reason)))) (by kernel_rfl) (by (try dsimp only); exact HST.out) (fun hHeld => ?_)
          refine wpAnyH_ready (rs := [0]) (by decide +kernel) (by simp) ?_
          refine AllReadyH.cons (by simp only [List.getElem?_toArray, List.getElem?_cons_succ, List.getElem?_cons_zero]; rfl) (fun K hK => ?_) AllReadyH.nil
          go_simp
          (go_at_call 19; with_reducible refine (HAW.out _ (by first | exact good_id (by assumption) | exact good_drew (by assumption))).mono ?_; rintro e w7 ⟨rfl, b7⟩)
          have HG7 := Lib.hid b7
          have HK7 := Lib.hid (HKEEP.out _ b7)
          clear b7
          go_wp2_with fail
          refine hK.out _ _ (by (try dsimp only); (first | assumption | exact HK7.out)) (fun hHeld => ?_)
          clear hK K
          try simp only [Act.put, List.setIfInBounds_toArray, List.set_cons_zero, List.set_cons_succ]
          refine takeW (v := ?_) 1 (by decide +kernel) (by decide +kernel) (by kernel_rfl) (by simp only [List.getElem?_toArray, List.getElem?_cons_succ, List.getElem?_cons_zero]; rfl) (by rfl) (by exact fun _ _ _ h => h) (by assumption) ?_ ?_
          rotate_left 1
          focus (intro w8 hSw; (try dsimp only at hSw); obtain ⟨⟨x0, x1, x2, x3, x4, x5⟩, ⟨y0, y1, y2, y3, y4, y5⟩, ⟨z0, z1, z2, z3, z4, z5⟩⟩ := hSw; go_simp; (try with_reducible rfl); done)
          try simp only [Act.put, List.setIfInBounds_toArray, List.set_cons_zero, List.set_cons_succ]
          refine takeW (v := ?_) 2 (by decide +kernel) (by decide +kernel) (by kernel_rfl) (by simp only [List.getElem?_toArray, List.getElem?_cons_succ, List.getElem?_cons_zero]; rfl) (by rfl) (by exact fun _ _ _ h => h) (by assumption) ?_ ?_
          rotate_left 1
          focus (intro w8 hSw; (try dsimp only at hSw); obtain ⟨⟨x0, x1, x2, x3, x4, x5⟩, ⟨y0, y1, y2, y3, y4, y5⟩, ⟨z0, z1, z2, z3, z4, z5⟩⟩ := hSw; go_simp; (try with_reducible rfl); done)
          try simp only [Act.put, List.setIfInBounds_toArray, List.set_cons_zero, List.set_cons_succ]
          refine takeW (v := ?_) 3 (by decide +kernel) (by decide +kernel) (by kernel_rfl) (by simp only [List.getElem?_toArray, List.getElem?_cons_succ, List.getElem?_cons_zero]; rfl) (by rfl) (by exact fun _ _ _ h => h) (by assumption) ?_ ?_
          rotate_left 1
          focus (intro w8 hSw; (try dsimp only at hSw); obtain ⟨⟨x0, x1, x2, x3, x4, x5⟩, ⟨y0, y1, y2, y3, y4, y5⟩, ⟨z0, z1, z2, z3, z4, z5⟩⟩ := hSw; go_simp; (try with_reducible rfl); done)
          try simp only [Act.put, List.setIfInBounds_toArray, List.set_cons_zero, List.set_cons_succ]
          refine wpAnyH_ready (rs := [4]) (by decide +kernel) (by simp) ?_
          refine AllReadyH.cons (by simp only [List.getElem?_toArray, List.getElem?_cons_succ, List.getElem?_cons_zero]; rfl) (fun K hK => ?_) AllReadyH.nil
          go_simp
          (go_at_call 27; with_reducible refine (HS1.out _ (by first | exact good_id (by assumption) | exact good_drew (by assumption))).mono ?_; rintro e w7 ⟨rfl, b7⟩)
          have HG7 := Lib.hid b7
          have HK7 := Lib.hid (HKEEP.out _ b7)
          clear b7
          go_wp2_with fail
          refine hK.out _ _ (by (try dsimp only); (first | assumption | exact HK7.out)) (fun hHeld => ?_)
          clear hK K
          try simp only [Act.put, List.setIfInBounds_toArray, List.set_cons_zero, List.set_cons_succ]
          refine takeW (v := ?_) 5 (by decide +kernel) (by decide +kernel) (by kernel_rfl) (by simp only [List.getElem?_toArray, List.getElem?_cons_succ, List.getElem?_cons_zero]; rfl) (by rfl) (by exact fun _ _ _ h => h) (by assumption) ?_ ?_
          rotate_left 1
          focus (intro w8 hSw; (try dsimp only at hSw); obtain ⟨⟨x0, x1, x2, x3, x4, x5⟩, ⟨y0, y1, y2, y3, y4, y5⟩, ⟨z0, z1, z2, z3, z4, z5⟩⟩ := hSw; go_simp; (try with_reducible rfl); done)
          try simp only [Act.put, List.setIfInBounds_toArray, List.set_cons_zero, List.set_cons_succ]
          refine takeW (v := ?_) 6 (by decide +kernel) (by decide +kernel) (by kernel_rfl) (by simp only [List.getElem?_toArray, List.getElem?_cons_succ, List.getElem?_cons_zero]; rfl) (by rfl) (by exact fun _ _ _ h => h) (by assumption) ?_ ?_
          rotate_left 1
          focus (intro w8 hSw; (try dsimp only at hSw); obtain ⟨⟨x0, x1, x2, x3, x4, x5⟩, ⟨y0, y1, y2, y3, y4, y5⟩, ⟨z0, z1, z2, z3, z4, z5⟩⟩ := hSw; go_simp; (try with_reducible rfl); done)
          try simp only [Act.put, List.setIfInBounds_toArray, List.set_cons_zero, List.set_cons_succ]
          refine takeW (v := ?_) 7 (by decide +kernel) (by decide +kernel) (by kernel_rfl) (by simp only [List.getElem?_toArray, List.getElem?_cons_succ, List.getElem?_cons_zero]; rfl) (by rfl) (by exact fun _ _ _ h => h) (by assumption) ?_ ?_
          rotate_left 1
          focus (intro w8 hSw; (try dsimp only at hSw); obtain ⟨⟨x0, x1, x2, x3, x4, x5⟩, ⟨y0, y1, y2, y3, y4, y5⟩, ⟨z0, z1, z2, z3, z4, z5⟩⟩ := hSw; go_simp; (try with_reducible rfl); done)
          try simp only [Act.put, List.setIfInBounds_toArray, List.set_cons_zero, List.set_cons_succ]
          refine takeW (v := ?_) 8 (by decide +kernel) (by decide +kernel) (by kernel_rfl) (by simp only [List.getElem?_toArray, List.getElem?_cons_succ, List.getElem?_cons_zero]; rfl) (by rfl) (by exact fun _ _ _ h => h) (by assumption) ?_ ?_
          rotate_left 1
          focus (intro w8 hSw; (try dsimp only at hSw); obtain ⟨⟨x0, x1, x2, x3, x4, x5⟩, ⟨y0, y1, y2, y3, y4, y5⟩, ⟨z0, z1, z2, z3, z4, z5⟩⟩ := hSw; go_simp; (try with_reducible rfl); done)
          try simp only [Act.put, List.setIfInBounds_toArray, List.set_cons_zero, List.set_cons_succ]
          refine takeW (v := ?_) 9 (by decide +kernel) (by decide +kernel) (by kernel_rfl) (by simp only [List.getElem?_toArray, List.getElem?_cons_succ, List.getElem?_cons_zero]; rfl) (by rfl) (by exact fun _ _ _ h => h) (by assumption) ?_ ?_
          rotate_left 1
          focus (intro w8 hSw; (try dsimp only at hSw); obtain ⟨⟨x0, x1, x2, x3, x4, x5⟩, ⟨y0, y1, y2, y3, y4, y5⟩, ⟨z0, z1, z2, z3, z4, z5⟩⟩ := hSw; go_simp; (try with_reducible rfl); done)
          try simp only [Act.put, List.setIfInBounds_toArray, List.set_cons_zero, List.set_cons_succ]
          refine takeW (v := ?_) 10 (by decide +kernel) (by decide +kernel) (by kernel_rfl) (by simp only [List.getElem?_toArray, List.getElem?_cons_succ, List.getElem?_cons_zero]; rfl) (by rfl) (by exact fun _ _ _ h => h) (by assumption) ?_ ?_
          rotate_left 1
          focus (intro w8 hSw; (try dsimp only at hSw); obtain ⟨⟨x0, x1, x2, x3, x4, x5⟩, ⟨y0, y1, y2, y3, y4, y5⟩, ⟨z0, z1, z2, z3, z4, z5⟩⟩ := hSw; go_simp; (try with_reducible rfl); done)
          try simp only [Act.put, List.setIfInBounds_toArray, List.set_cons_zero, List.set_cons_succ]
          refine takeW (v := ?_) 11 (by decide +kernel) (by decide +kernel) (by kernel_rfl) (by simp only [List.getElem?_toArray, List.getElem?_cons_succ, List.getElem?_cons_zero]; rfl) (by rfl) (by exact fun _ _ _ h => h) (by assumption) ?_ ?_
          rotate_left 1
          focus (intro w8 hSw; (try dsimp only at hSw); obtain ⟨⟨x0, x1, x2, x3, x4, x5⟩, ⟨y0, y1, y2, y3, y4, y5⟩, ⟨z0, z1, z2, z3, z4, z5⟩⟩ := hSw; go_simp; (try with_reducible rfl); done)
          try simp only [Act.put, List.setIfInBounds_toArray, List.set_cons_zero, List.set_cons_succ]
          refine takeW (v := ?_) 12 (by decide +kernel) (by decide +kernel) (by kernel_rfl) (by simp only [List.getElem?_toArray, List.getElem?_cons_succ, List.getElem?_cons_zero]; rfl) (by rfl) (by exact fun _ _ _ h => h) (by assumption) ?_ ?_
          rotate_left 1
          focus (intro w8 hSw; (try dsimp only at hSw); obtain ⟨⟨x0, x1, x2, x3, x4, x5⟩, ⟨y0, y1, y2, y3, y4, y5⟩, ⟨z0, z1, z2, z3, z4, z5⟩⟩ := hSw; go_simp; (try with_reducible rfl); done)
          try simp only [Act.put, List.setIfInBounds_toArray, List.set_cons_zero, List.set_cons_succ]
          refine takeW (v := ?_) 13 (by decide +kernel) (by decide +kernel) (by kernel_rfl) (by simp only [List.getElem?_toArray, List.getElem?_cons_succ, List.getElem?_cons_zero]; rfl) (by rfl) (by exact fun _ _ _ h => h) (by assumption) ?_ ?_
          rotate_left 1
          focus (intro w8 hSw; (try dsimp only at hSw); obtain ⟨⟨x0, x1, x2, x3, x4, x5⟩, ⟨y0, y1, y2, y3, y4, y5⟩, ⟨z0, z1, z2, z3, z4, z5⟩⟩ := hSw; go_simp; (try with_reducible rfl); done)
          try simp only [Act.put, List.setIfInBounds_toArray, List.set_cons_zero, List.set_cons_succ]
          refine wpAnyH_ready (rs := [14]) (by decide +kernel) (by simp) ?_
          refine AllReadyH.cons (by simp only [List.getElem?_toArray, List.getElem?_cons_succ, List.getElem?_cons_zero]; rfl) (fun K hK => ?_) AllReadyH.nil
          go_simp
          (go_at_call 27; with_reducible refine (HS2.out _ (by first | exact good_id (by assumption) | exact good_drew (by assumption))).mono ?_; rintro e w7 ⟨rfl, b7⟩)
          have HG7 := Lib.hid b7
          have HK7 := Lib.hid (HKEEP.out _ b7)
          clear b7
          go_wp2_with fail
          refine hK.out _ _ (by (try dsimp only); (first | assumption | exact HK7.out)) (fun hHeld => ?_)
          clear hK K
          try simp only [Act.put, List.setIfInBounds_toArray, List.set_cons_zero, List.set_cons_succ]
          refine takeW (v := ?_) 15 (by decide +kernel) (by decide +kernel) (by kernel_rfl) (by simp only [List.getElem?_toArray, List.getElem?_cons_succ, List.getElem?_cons_zero]; rfl) (by rfl) (by exact fun _ _ _ h => h) (by assumption) ?_ ?_
          rotate_left 1
          focus (intro w8 hSw; (try dsimp only at hSw); obtain ⟨⟨x0, x1, x2, x3, x4, x5⟩, ⟨y0, y1, y2, y3, y4, y5⟩, ⟨z0, z1, z2, z3, z4, z5⟩⟩ := hSw; go_simp; (try with_reducible rfl); done)
          try simp only [Act.put, List.setIfInBounds_toArray, List.set_cons_zero, List.set_cons_succ]
          refine takeW (v := ?_) 16 (by decide +kernel) (by decide +kernel) (by kernel_rfl) (by simp only [List.getElem?_toArray, List.getElem?_cons_succ, List.getElem?_cons_zero]; rfl) (by rfl) (by exact fun _ _ _ h => h) (by assumption) ?_ ?_
          rotate_left 1
          focus (intro w8 hSw; (try dsimp only at hSw); obtain ⟨⟨x0, x1, x2, x3, x4, x5⟩, ⟨y0, y1, y2, y3, y4, y5⟩, ⟨z0, z1, z2, z3, z4, z5⟩⟩ := hSw; go_simp; (try with_reducible rfl); done)
          try simp only [Act.put, List.setIfInBounds_toArray, List.set_cons_zero, List.set_cons_succ]
          refine takeW (v := ?_) 17 (by decide +kernel) (by decide +kernel) (by kernel_rfl) (by simp only [List.getElem?_toArray, List.getElem?_cons_succ, List.getElem?_cons_zero]; rfl) (by rfl) (by exact fun _ _ _ h => h) (by assumption) ?_ ?_
          rotate_left 1
          focus (intro w8 hSw; (try dsimp only at hSw); obtain ⟨⟨x0, x1, x2, x3, x4, x5⟩, ⟨y0, y1, y2, y3, y4, y5⟩, ⟨z0, z1, z2, z3, z4, z5⟩⟩ := hSw; go_simp; (try with_reducible rfl); done)
          try simp only [Act.put, List.setIfInBounds_toArray, List.set_cons_zero, List.set_cons_succ]
          refine takeW (v := ?_) 18 (by decide +kernel) (by decide +kernel) (by kernel_rfl) (by simp only [List.getElem?_toArray, List.getElem?_cons_succ, List.getElem?_cons_zero]; rfl) (by rfl) (by exact fun _ _ _ h => h) (by assumption) ?_ ?_
          rotate_left 1
          focus (intro w8 hSw; (try dsimp only at hSw); obtain ⟨⟨x0, x1, x2, x3, x4, x5⟩, ⟨y0, y1, y2, y3, y4, y5⟩, ⟨z0, z1, z2, z3, z4, z5⟩⟩ := hSw; go_simp; (try with_reducible rfl); done)
          try simp only [Act.put, List.setIfInBounds_toArray, List.set_cons_zero, List.set_cons_succ]
          refine takeW (v := ?_) 19 (by decide +kernel) (by decide +kernel) (by kernel_rfl) (by simp only [List.getElem?_toArray, List.getElem?_cons_succ, List.getElem?_cons_zero]; rfl) (by rfl) (by exact fun _ _ _ h => h) (by assumption) ?_ ?_
          rotate_left 1
          focus (intro w8 hSw; (try dsimp only at hSw); obtain ⟨⟨x0, x1, x2, x3, x4, x5⟩, ⟨y0, y1, y2, y3, y4, y5⟩, ⟨z0, z1, z2, z3, z4, z5⟩⟩ := hSw; go_simp; (try with_reducible rfl); done)
          try simp only [Act.put, List.setIfInBounds_toArray, List.set_cons_zero, List.set_cons_succ]
          refine takeW (v := ?_) 20 (by decide +kernel) (by decide +kernel) (by kernel_rfl) (by simp only [List.getElem?_toArray, List.getElem?_cons_succ, List.getElem?_cons_zero]; rfl) (by rfl) (by exact fun _ _ _ h => h) (by assumption) ?_ ?_
          rotate_left 1
          focus (intro w8 hSw; (try dsimp only at hSw); obtain ⟨⟨x0, x1, x2, x3, x4, x5⟩, ⟨y0, y1, y2, y3, y4, y5⟩, ⟨z0, z1, z2, z3, z4, z5⟩⟩ := hSw; go_simp; (try with_reducible rfl); done)
          try simp only [Act.put, List.setIfInBounds_toArray, List.set_cons_zero, List.set_cons_succ]
          refine takeW (v := ?_) 21 (by decide +kernel) (by decide +kernel) (by kernel_rfl) (by simp only [List.getElem?_toArray, List.getElem?_cons_succ, List.getElem?_cons_zero]; rfl) (by rfl) (by exact fun _ _ _ h => h) (by assumption) ?_ ?_
          rotate_left 1
          focus (intro w8 hSw; (try dsimp only at hSw); obtain ⟨⟨x0, x1, x2, x3, x4, x5⟩, ⟨y0, y1, y2, y3, y4, y5⟩, ⟨z0, z1, z2, z3, z4, z5⟩⟩ := hSw; go_simp; (try with_reducible rfl); done)
          try simp only [Act.put, List.setIfInBounds_toArray, List.set_cons_zero, List.set_cons_succ]
          refine takeW (v := ?_) 22 (by decide +kernel) (by decide +kernel) (by kernel_rfl) (by simp only [List.getElem?_toArray, List.getElem?_cons_succ, List.getElem?_cons_zero]; rfl) (by rfl) (by exact fun _ _ _ h => h) (by assumption) ?_ ?_
          rotate_left 1
          focus (intro w8 hSw; (try dsimp only at hSw); obtain ⟨⟨x0, x1, x2, x3, x4, x5⟩, ⟨y0, y1, y2, y3, y4, y5⟩, ⟨z0, z1, z2, z3, z4, z5⟩⟩ := hSw; go_simp; (try with_reducible rfl); done)
          try simp only [Act.put, List.setIfInBounds_toArray, List.set_cons_zero, List.set_cons_succ]
          refine takeW (v := ?_) 23 (by decide +kernel) (by decide +kernel) (by kernel_rfl) (by simp only [List.getElem?_toArray, List.getElem?_cons_succ, List.getElem?_cons_zero]; rfl) (by rfl) (by exact fun _ _ _ h => h) (by assumption) ?_ ?_
          rotate_left 1
          focus (intro w8 hSw; (try dsimp only at hSw); obtain ⟨⟨x0, x1, x2, x3, x4, x5⟩, ⟨y0, y1, y2, y3, y4, y5⟩, ⟨z0, z1, z2, z3, z4, z5⟩⟩ := hSw; go_simp; (try with_reducible rfl); done)
          try simp only [Act.put, List.setIfInBounds_toArray, List.set_cons_zero, List.set_cons_succ]
          refine takeW (v := ?_) 24 (by decide +kernel) (by decide +kernel) (by kernel_rfl) (by simp only [List.getElem?_toArray, List.getElem?_cons_succ, List.getElem?_cons_zero]; rfl) (by rfl) (by exact fun _ _ _ h => h) (by assumption) ?_ ?_
          rotate_left 1
          focus (intro w8 hSw; (try dsimp only at hSw); obtain ⟨⟨x0, x1, x2, x3, x4, x5⟩, ⟨y0, y1, y2, y3, y4, y5⟩, ⟨z0, z1, z2, z3, z4, z5⟩⟩ := hSw; go_simp; (try with_reducible rfl); done)
          try simp only [Act.put, List.setIfInBounds_toArray, List.set_cons_zero, List.set_cons_succ]
          refine takeW (v := ?_) 25 (by decide +kernel) (by decide +kernel) (by kernel_rfl) (by simp only [List.getElem?_toArray, List.getElem?_cons_succ, List.getElem?_cons_zero]; rfl) (by rfl) (by exact fun _ _ _ h => h) (by assumption) ?_ ?_
          rotate_left 1
          focus (intro w8 hSw; (try dsimp only at hSw); obtain ⟨⟨x0, x1, x2, x3, x4, x5⟩, ⟨y0, y1, y2, y3, y4, y5⟩, ⟨z0, z1, z2, z3, z4, z5⟩⟩ := hSw; go_simp; (try with_reducible rfl); done)
          try simp only [Act.put, List.setIfInBounds_toArray, List.set_cons_zero, List.set_cons_succ]
          refine takeW (v := ?_) 26 (by decide +kernel) (by decide +kernel) (by kernel_rfl) (by simp only [List.getElem?_toArray, List.getElem?_cons_succ, List.getElem?_cons_zero]; rfl) (by rfl) (by exact fun _ _ _ h => h) (by assumption) ?_ ?_
          rotate_left 1
          focus (intro w8 hSw; (try dsimp only at hSw); obtain ⟨⟨x0, x1, x2, x3, x4, x5⟩, ⟨y0, y1, y2, y3, y4, y5⟩, ⟨z0, z1, z2, z3, z4, z5⟩⟩ := hSw; go_simp; (try with_reducible rfl); done)
          try simp only [Act.put, List.setIfInBounds_toArray, List.set_cons_zero, List.set_cons_succ]
          refine takeW (v := ?_) 27 (by decide +kernel) (by decide +kernel) (by kernel_rfl) (by simp only [List.getElem?_toArray, List.getElem?_cons_succ, List.getElem?_cons_zero]; rfl) (by rfl) (by exact fun _ _ _ h => h) (by assumption) ?_ ?_
          rotate_left 1
          focus (intro w8 hSw; (try dsimp only at hSw); obtain ⟨⟨x0, x1, x2, x3, x4, x5⟩, ⟨y0, y1, y2, y3, y4, y5⟩, ⟨z0, z1, z2, z3, z4, z5⟩⟩ := hSw; go_simp; (try with_reducible rfl); done)
          try simp only [Act.put, List.setIfInBounds_toArray, List.set_cons_zero, List.set_cons_succ]
          refine takeW (v := ?_) 28 (by decide +kernel) (by decide +kernel) (by kernel_rfl) (by simp only [List.getElem?_toArray, List.getElem?_cons_succ, List.getElem?_cons_zero]; rfl) (by rfl) (by exact fun _ _ _ h => h) (by assumption) ?_ ?_
          rotate_left 1
          focus (intro w8 hSw; (try dsimp only at hSw); obtain ⟨⟨x0, x1, x2, x3, x4, x5⟩, ⟨y0, y1, y2, y3, y4, y5⟩, ⟨z0, z1, z2, z3, z4, z5⟩⟩ := hSw; go_simp; (try with_reducible rfl); done)
          try simp only [Act.put, List.setIfInBounds_toArray, List.set_cons_zero, List.set_cons_succ]
          refine wpAnyH_ready (rs := [29]) (by decide +kernel) (by simp) ?_
          refine AllReadyH.cons (by simp only [List.getElem?_toArray, List.getElem?_cons_succ, List.getElem?_cons_zero]; rfl) (fun K hK => ?_) AllReadyH.nil
          go_simp
          (go_at_call 28; with_reducible refine (HSD.out _ (by first | exact good_id (by assumption) | exact good_drew (by assumption))).mono ?_; rintro e w7 ⟨rfl, b7⟩)
          have HG7 := Lib.hid b7
          have HK7 := Lib.hid (HKEEP.out _ b7)
          clear b7
          go_wp2_with fail
          refine hK.out _ _ (by (try dsimp only); (first | assumption | exact HK7.out)) (fun hHeld => ?_)
          clear hK K
          try simp only [Act.put, List.setIfInBounds_toArray, List.set_cons_zero, List.set_cons_succ]
          refine takeW (v := ?_) 30 (by decide +kernel) (by decide +kernel) (by kernel_rfl) (by simp only [List.getElem?_toArray, List.getElem?_cons_succ, List.getElem?_cons_zero]; rfl) (by rfl) (by exact fun _ _ _ h => h) (by assumption) ?_ ?_
          rotate_left 1
          focus (intro w8 hSw; (try dsimp only at hSw); obtain ⟨⟨x0, x1, x2, x3, x4, x5⟩, ⟨y0, y1, y2, y3, y4, y5⟩, ⟨z0, z1, z2, z3, z4, z5⟩⟩ := hSw; go_simp; (try with_reducible rfl); done)
          try simp only [Act.put, List.setIfInBounds_toArray, List.set_cons_zero, List.set_cons_succ]
          refine takeW (v := ?_) 31 (by decide +kernel) (by decide +kernel) (by kernel_rfl) (by simp only [List.getElem?_toArray, List.getElem?_cons_succ, List.getElem?_cons_zero]; rfl) (by rfl) (by exact fun _ _ _ h => h) (by assumption) ?_ ?_
          rotate_left 1
          focus (intro w8 hSw; (try dsimp only at hSw); obtain ⟨⟨x0, x1, x2, x3, x4, x5⟩, ⟨y0, y1, y2, y3, y4, y5⟩, ⟨z0, z1, z2, z3, z4, z5⟩⟩ := hSw; go_simp; (try with_reducible rfl); done)
          try simp only [Act.put, List.setIfInBounds_toArray, List.set_cons_zero, List.set_cons_succ]
          refine takeW (v := ?_) 32 (by decide +kernel) (by decide +kernel) (by kernel_rfl) (by simp only [List.getElem?_toArray, List.getElem?_cons_succ, List.getElem?_cons_zero]; rfl) (by rfl) (by exact fun _ _ _ h => h) (by assumption) ?_ ?_
          rotate_left 1
          focus (intro w8 hSw; (try dsimp only at hSw); obtain ⟨⟨x0, x1, x2, x3, x4, x5⟩, ⟨y0, y1, y2, y3, y4, y5⟩, ⟨z0, z1, z2, z3, z4, z5⟩⟩ := hSw; go_simp; (try with_reducible rfl); done)
          try simp only [Act.put, List.setIfInBounds_toArray, List.set_cons_zero, List.set_cons_succ]
          refine takeW (v := ?_) 33 (by decide +kernel) (by decide +kernel) (by kernel_rfl) (by simp only [List.getElem?_toArray, List.getElem?_cons_succ, List.getElem?_cons_zero]; rfl) (by rfl) (by exact fun _ _ _ h => h) (by assumption) ?_ ?_
          rotate_left 1
          focus (intro w8 hSw; (try dsimp only at hSw); obtain ⟨⟨x0, x1, x2, x3, x4, x5⟩, ⟨y0, y1, y2, y3, y4, y5⟩, ⟨z0, z1, z2, z3, z4, z5⟩⟩ := hSw; go_simp; (try with_reducible rfl); done)
          try simp only [Act.put, List.setIfInBounds_toArray, List.set_cons_zero, List.set_cons_succ]
          refine takeW (v := ?_) 35 (by decide +kernel) (by decide +kernel) (by kernel_rfl) (by simp only [List.getElem?_toArray, List.getElem?_cons_succ, List.getElem?_cons_zero]; rfl) (by rfl) (by exact fun _ _ _ h => h) (by assumption) ?_ ?_
          rotate_left 1
          focus (intro w8 hSw; (try dsimp only at hSw); obtain ⟨⟨x0, x1, x2, x3, x4, x5⟩, ⟨y0, y1, y2, y3, y4, y5⟩, ⟨z0, z1, z2, z3, z4, z5⟩⟩ := hSw; go_simp; (try with_reducible rfl); done)
          try simp only [Act.put, List.setIfInBounds_toArray, List.set_cons_zero, List.set_cons_succ]
          refine takeW (v := ?_) 36 (by decide +kernel) (by decide +kernel) (by kernel_rfl) (by simp only [List.getElem?_toArray, List.getElem?_cons_succ, List.getElem?_cons_zero]; rfl) (by rfl) (by exact fun _ _ _ h => h) (by assumption) ?_ ?_
          rotate_left 1
          focus (intro w8 hSw; (try dsimp only at hSw); obtain ⟨⟨x0, x1, x2, x3, x4, x5⟩, ⟨y0, y1, y2, y3, y4, y5⟩, ⟨z0, z1, z2, z3, z4, z5⟩⟩ := hSw; go_simp; (try with_reducible rfl); done)
          try simp only [Act.put, List.setIfInBounds_toArray, List.set_cons_zero, List.set_cons_succ]
          refine wpAnyH_ready (rs := [34]) (by decide +kernel) (by simp) ?_
          refine AllReadyH.cons (by simp only [List.getElem?_toArray, List.getElem?_cons_succ, List.getElem?_cons_zero]; rfl) (fun K hK => ?_) AllReadyH.nil
          go_simp
          (go_at_call 29; with_reducible refine (HWD.out _).mono ?_; rintro e w7 ⟨rfl, rfl⟩)
          go_wp2_with fail
          refine hK.out _ _ (by (try dsimp only); (first | assumption | exact HK7.out)) (fun hHeld => ?_)
          clear hK K
          try simp only [Act.put, List.setIfInBounds_toArray, List.set_cons_zero, List.set_cons_succ]
          refine wpAnyH_ready (rs := [37]) (by decide +kernel) (by simp) ?_
          refine AllReadyH.cons (by simp only [List.getElem?_toArray, List.getElem?_cons_succ, List.getElem?_cons_zero]; rfl) (fun K hK => ?_) AllReadyH.nil
          go_simp
          (go_at_call 30; with_reducible refine (HRW.out _).mono ?_; rintro e w7 ⟨rfl, rfl⟩)
          go_wp2_with fail
          refine hK.out _ _ (by (try dsimp only); (first | assumption | exact HK7.out)) (fun hHeld => ?_)
          clear hK K
          try simp only [Act.put, List.setIfInBounds_toArray, List.set_cons_zero, List.set_cons_succ]
          refine takeW (v := ?_) 38 (by decide +kernel) (by decide +kernel) (by kernel_rfl) (by simp only [List.getElem?_toArray, List.getElem?_cons_succ, List.getElem?_cons_zero]; rfl) (by rfl) (by exact fun _ _ _ h => h) (by assumption) ?_ ?_
          rotate_left 1
          focus (intro w8 hSw; (try dsimp only at hSw); obtain ⟨⟨x0, x1, x2, x3, x4, x5⟩, ⟨y0, y1, y2, y3, y4, y5⟩, ⟨z0, z1, z2, z3, z4, z5⟩⟩ := hSw; go_simp; (try with_reducible rfl); done)
          try simp only [Act.put, List.setIfInBounds_toArray, List.set_cons_zero, List.set_cons_succ]
          refine takeW (v := ?_) 39 (by decide +kernel) (by decide +kernel) (by kernel_rfl) (by simp only [List.getElem?_toArray, List.getElem?_cons_succ, List.getElem?_cons_zero]; rfl) (by rfl) (by exact fun _ _ _ h => h) (by assumption) ?_ ?_
          rotate_left 1
          focus (intro w8 hSw; (try dsimp only at hSw); obtain ⟨⟨x0, x1, x2, x3, x4, x5⟩, ⟨y0, y1, y2, y3, y4, y5⟩, ⟨z0, z1, z2, z3, z4, z5⟩⟩ := hSw; go_simp; (try with_reducible rfl); done)
          try simp only [Act.put, List.setIfInBounds_toArray, List.set_cons_zero, List.set_cons_succ]
          refine takeW (v := ?_) 40 (by decide +kernel) (by decide +kernel) (by kernel_rfl) (by simp only [List.getElem?_toArray, List.getElem?_cons_succ, List.getElem?_cons_zero]; rfl) (by rfl) (by exact fun _ _ _ h => h) (by assumption) ?_ ?_
          rotate_left 1
          focus (intro w8 hSw; (try dsimp only at hSw); obtain ⟨⟨x0, x1, x2, x3, x4, x5⟩, ⟨y0, y1, y2, y3, y4, y5⟩, ⟨z0, z1, z2, z3, z4, z5⟩⟩ := hSw; go_simp; (try with_reducible rfl); done)
          try simp only [Act.put, List.setIfInBounds_toArray, List.set_cons_zero, List.set_cons_succ]
          refine takeW (v := ?_) 41 (by decide +kernel) (by decide +kernel) (by kernel_rfl) (by simp only [List.getElem?_toArray, List.getElem?_cons_succ, List.getElem?_cons_zero]; rfl) (by rfl) (by exact fun _ _ _ h => h) (by assumption) ?_ ?_
          rotate_left 1
          focus (intro w8 hSw; (try dsimp only at hSw); obtain ⟨⟨x0, x1, x2, x3, x4, x5⟩, ⟨y0, y1, y2, y3, y4, y5⟩, ⟨z0, z1, z2, z3, z4, z5⟩⟩ := hSw; go_simp; (try with_reducible rfl); done)
          try simp only [Act.put, List.setIfInBounds_toArray, List.set_cons_zero, List.set_cons_succ]
          refine takeW (v := ?_) 42 (by decide +kernel) (by decide +kernel) (by kernel_rfl) (by simp only [List.getElem?_toArray, List.getElem?_cons_succ, List.getElem?_cons_zero]; rfl) (by rfl) (by exact fun _ _ _ h => h) (by assumption) ?_ ?_
          rotate_left 1
          focus (intro w8 hSw; (try dsimp only at hSw); obtain ⟨⟨x0, x1, x2, x3, x4, x5⟩, ⟨y0, y1, y2, y3, y4, y5⟩, ⟨z0, z1, z2, z3, z4, z5⟩⟩ := hSw; go_simp; (try with_reducible rfl); done)
          try simp only [Act.put, List.setIfInBounds_toArray, List.set_cons_zero, List.set_cons_succ]
          refine takeW (v := ?_) 43 (by decide +kernel) (by decide +kernel) (by kernel_rfl) (by simp only [List.getElem?_toArray, List.getElem?_cons_succ, List.getElem?_cons_zero]; rfl) (by rfl) (by exact fun _ _ _ h => h) (by assumption) ?_ ?_
          rotate_left 1
          focus (intro w8 hSw; (try dsimp only at hSw); obtain ⟨⟨x0, x1, x2, x3, x4, x5⟩, ⟨y0, y1, y2, y3, y4, y5⟩, ⟨z0, z1, z2, z3, z4, z5⟩⟩ := hSw; go_simp; (try with_reducible rfl); done)
          try simp only [Act.put, List.setIfInBounds_toArray, List.set_cons_zero, List.set_cons_succ]
          refine takeW (v := ?_) 45 (by decide +kernel) (by decide +kernel) (by kernel_rfl) (by simp only [List.getElem?_toArray, List.getElem?_cons_succ, List.getElem?_cons_zero]; rfl) (by rfl) (by exact fun _ _ _ h => h) (by assumption) ?_ ?_
          rotate_left 1
          focus (intro w8 hSw; (try dsimp only at hSw); obtain ⟨⟨x0, x1, x2, x3, x4, x5⟩, ⟨y0, y1, y2, y3, y4, y5⟩, ⟨z0, z1, z2, z3, z4, z5⟩⟩ := hSw; go_simp; (try with_reducible rfl); done)
          try simp only [Act.put, List.setIfInBounds_toArray, List.set_cons_zero, List.set_cons_succ]
          refine wpAnyH_ready (rs := [44]) (by decide +kernel) (by simp) ?_
          refine AllReadyH.cons (by simp only [List.getElem?_toArray, List.getElem?_cons_succ, List.getElem?_cons_zero]; rfl) (fun K hK => ?_) AllReadyH.nil
          go_simp
          (go_at_call 31; with_reducible refine (HCO.out _ (by first | exact good_id (by assumption) | exact good_drew (by assumption))).mono ?_; rintro e w7 ⟨rfl, b7⟩)
          have HG7 := Lib.hid b7
          have HK7 := Lib.hid (HKEEP.out _ b7)
          clear b7
          go_wp2_with fail
          refine hK.out _ _ (by (try dsimp only); (first | assumption | exact HK7.out)) (fun hHeld => ?_)
          clear hK K
          try simp only [Act.put, List.setIfInBounds_toArray, List.set_cons_zero, List.set_cons_succ]
          refine takeW (v := ?_) 46 (by decide +kernel) (by decide +kernel) (by kernel_rfl) (by simp only [List.getElem?_toArray, List.getElem?_cons_succ, List.getElem?_cons_zero]; rfl) (by rfl) (by exact fun _ _ _ h => h) (by assumption) ?_ ?_
          rotate_left 1
          focus (intro w8 hSw; (try dsimp only at hSw); obtain ⟨⟨x0, x1, x2, x3, x4, x5⟩, ⟨y0, y1, y2, y3, y4, y5⟩, ⟨z0, z1, z2, z3, z4, z5⟩⟩ := hSw; go_simp; (try with_reducible rfl); done)
          try simp only [Act.put, List.setIfInBounds_toArray, List.set_cons_zero, List.set_cons_succ]
          refine takeW (v := ?_) 47 (by decide +kernel) (by decide +kernel) (by kernel_rfl) (by simp only [List.getElem?_toArray, List.getElem?_cons_succ, List.getElem?_cons_zero]; rfl) (by rfl) (by exact fun _ _ _ h => h) (by assumption) ?_ ?_
          rotate_left 1
          focus (intro w8 hSw; (try dsimp only at hSw); obtain ⟨⟨x0, x1, x2, x3, x4, x5⟩, ⟨y0, y1, y2, y3, y4, y5⟩, ⟨z0, z1, z2, z3, z4, z5⟩⟩ := hSw; go_simp; (try with_reducible rfl); done)
          try simp only [Act.put, List.setIfInBounds_toArray, List.set_cons_zero, List.set_cons_succ]
          refine takeW (v := ?_) 48 (by decide +kernel) (by decide +kernel) (by kernel_rfl) (by simp only [List.getElem?_toArray, List.getElem?_cons_succ, List.getElem?_cons_zero]; rfl) (by rfl) (by exact fun _ _ _ h => h) (by assumption) ?_ ?_
          rotate_left 1
          focus (intro w8 hSw; (try dsimp only at hSw); obtain ⟨⟨x0, x1, x2, x3, x4, x5⟩, ⟨y0, y1, y2, y3, y4, y5⟩, ⟨z0, z1, z2, z3, z4, z5⟩⟩ := hSw; go_simp; (try with_reducible rfl); done)
          try simp only [Act.put, List.setIfInBounds_toArray, List.set_cons_zero, List.set_cons_succ]
          refine wpAnyH_done (by decide +kernel) ?_ _
          go_wp2_with fail
          go_ret
          exact ⟨rfl, HFIN.out _ (by first | exact good_id (by assumption) | exact good_drew (by assumption))⟩

end Go.Proofs.Ytfkmpegbidojoaa.Md
