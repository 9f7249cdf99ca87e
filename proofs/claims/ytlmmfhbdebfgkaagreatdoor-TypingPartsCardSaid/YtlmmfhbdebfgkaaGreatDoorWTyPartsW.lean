/-
  TyPartsW.
-/
import Derived.Test.YtlmmfhbdebfgkaaGreatDoorWLxRScanWQ
import Derived.Test.YtlmmfhbdebfgkaaGreatDoorWTySmallQ
import Derived.Test.YtlmmfhbdebfgkaaGreatDoorWTyPartsQ
import Derived.Test.YtlmmfhbdebfgkaaGreatDoorWLxScanWQ
set_option linter.unusedVariables false
set_option linter.unusedSimpArgs false
set_option maxRecDepth 100000
set_option maxHeartbeats 16000000
namespace Go.Proofs.YtlmmfhbdebfgkaaGreatDoor.Ty
open Go.RowKit
open Ex Lx
def Bxp (w : World) (H : Nat) (a b c : Value) : Prop := w.heap[H]? = some (.cells #[a, b, c] 42 (0, 0))
theorem Bxp.c0 {w : World} {H : Nat} {a b c : Value} (h : Bxp w H a b c) : w.cell? ⟨H, 0, none⟩ = some a := cell_of_row w H 0 _ _ (0, 0) h
theorem Bxp.c1 {w : World} {H : Nat} {a b c : Value} (h : Bxp w H a b c) : w.cell? ⟨H, 1, none⟩ = some b := cell_of_row w H 1 _ _ (0, 0) h
theorem Bxp.c2 {w : World} {H : Nat} {a b c : Value} (h : Bxp w H a b c) : w.cell? ⟨H, 2, none⟩ = some c := cell_of_row w H 2 _ _ (0, 0) h
theorem Bxp.lt {w : World} {H : Nat} {a b c : Value} (h : Bxp w H a b c) : H < w.heap.size := World.block_lt_of_cell? w _ h.c0
theorem Bxp.keep {w w' : World} {H : Nat} {a b c : Value} (h : Bxp w H a b c) (k : Below w.heap.size w w') : Bxp w' H a b c := (k.block H h.lt).trans h
def Cd (k : Nat) (z : Int) : Prop := (z = 0 ∧ k = 0) ∨ ((z == 0) = false ∧ (z != 0) = true ∧ k ≠ 0)
theorem cd_of (k : Nat) : Cd k (k : Int) := by
  by_cases h : k = 0
  · exact .inl ⟨by omega, h⟩
  · exact .inr ⟨by simp [h], by simp [h], h⟩
def PQ (s : Sc) (xb : Nat) (op : Int) (len : Nat) (a : T) : Prop := ((xb = 0 → (ofM s a).2 = 0) ∧ (len = 1 → op = 11 → (ofM s a).2 = 0 → ((ofM s a).1.kind = 1 ↔ xb = 0))) ∧ Fine a
theorem parts_bad (s : Sc) (pe pa pf : Option Addr) (ce ca cf : Nat) (l : List UInt8) (x : T) (k pos : Nat) (hr : rdM l = (x, k, pos)) (hbad : ((k : Int) != 0) = true ∨ (((k : Int) != 0) = false ∧ smallS s = false)) (w : World) (hs : ScAt w pe pa pf s) (hf : ScFit s) (hL : Laid w) (hC : ConsAt w) :
    Calls Tryz.prog 7 #[.agg #[.slice pe s.enums.length ce, .slice pa s.attrs.length ca, .slice pf s.fields.length cf], .string (S l)] w fun e w' => e = .returned (.bool true) ∧ Below w.heap.size w w' := by
  have hb1 := (Below.refl w.heap.size w).alloc (Nat.le_refl _) (.cells #[.slice pe s.enums.length ce, .slice pa s.attrs.length ca, .slice pf s.fields.length cf] 42)
  obtain ⟨W1, hW1⟩ : ∃ W1, W1 = w.alloc (.cells #[.slice pe s.enums.length ce, .slice pa s.attrs.length ca, .slice pf s.fields.length cf] 42) := ⟨_, rfl⟩
  have hbs : Bxp W1 w.heap.size (.slice pe s.enums.length ce) (.slice pa s.attrs.length ca) (.slice pf s.fields.length cf) := by rw [hW1]; exact heap_alloc_new w _
  rw [← hW1] at hb1
  have hL1 := hL.below hb1
  have hC1 := consB hC hb1
  have hs1 := hs.later hb1
  have AW := Lib.hid (fun wr (b : Below W1.heap.size W1 wr) => awake_any wr (hL1.below b).tab (consB hC1 b))
  have SM := Lib.hid (fun wr (b : Below W1.heap.size W1 wr) => small_any s pe pa pf ce ca cf wr (hs1.later b).enums hf.enums hf.attrs hf.fields hf.syms)
  have RD := Lib.hid (fun wr (b : Below W1.heap.size W1 wr) => pread_l hr wr (hL1.below b) (consB hC1 b))
  have BS := Lib.hid (fun wr (b : Below W1.heap.size W1 wr) => hbs.keep b)
  have FIN := Lib.hid (fun wr (b : Below W1.heap.size W1 wr) => hb1.trans (b.mono hb1.size))
  have HW1 := Lib.hid hW1
  have HR1 := Lib.hid (Below.refl W1.heap.size W1)
  clear hr hs hf hL hC hb1 hbs hL1 hC1 hs1 hW1
  rcases hbad with hbad | ⟨hbad, hsm⟩
  all_goals
    go_enter Tryz.func7, Tryz.ntmps7
    go_wp2_with fail
    rw [← HW1.out]
    refine (AW.out W1 HR1.out).mono ?_
    rintro e w2 ⟨rfl, b2⟩
    have RD2 := Lib.hid (RD.out w2 b2)
    have B2 := Lib.hid b2
    clear b2
    go_wp2_with fail
    refine RD2.out.mono ?_
    rintro e w3 ⟨⟨p, c, rfl, hfa⟩, b3⟩
    obtain ⟨W4, hW4⟩ : ∃ W4, W4 = w3.alloc (.cells #[.int .i64 x.op, .int .i64 x.num, .string (S x.text), .slice p x.args.len c] 24) := ⟨_, rfl⟩
    have hB3 := B2.out.trans (b3.mono B2.out.size)
    have hB4 : Below W1.heap.size W1 W4 := by rw [hW4]; exact hB3.alloc hB3.size _
    have hbs4 := BS.out W4 hB4
    have q0 := hbs4.c0
    have q1 := hbs4.c1
    have q2 := hbs4.c2
    have AW4 := Lib.hid (AW.out W4 hB4)
    have SM4 := Lib.hid (SM.out W4 hB4)
    have B4 := Lib.hid hB4
    have HW4 := Lib.hid hW4
    rw [hW4] at q0 q1 q2
    clear b3 hfa hB3 hB4 hbs4 hW4
    go_wp2_with fail
    rw [← HW4.out]
  · refine AW4.out.mono ?_
    rintro e w5 ⟨rfl, b5⟩
    have B5 := Lib.hid (B4.out.trans (b5.mono B4.out.size))
    clear b5 q0 q1 q2
    go_wp2_with fail
    go_ret
    exact ⟨rfl, FIN.out _ B5.out⟩
  · rw [hsm] at SM4
    refine SM4.out.mono ?_
    rintro e w5 ⟨rfl, b5⟩
    have hB5 := B4.out.trans (b5.mono B4.out.size)
    have AW5 := Lib.hid (AW.out w5 hB5)
    have B5 := Lib.hid hB5
    clear b5 hB5 q0 q1 q2
    go_wp2_with fail
    refine AW5.out.mono ?_
    rintro e w6 ⟨rfl, b6⟩
    have B6 := Lib.hid (B5.out.trans (b6.mono B5.out.size))
    clear b6
    go_wp2_with fail
    go_ret
    exact ⟨rfl, FIN.out _ B6.out⟩
theorem parts_good (s : Sc) (pe pa pf : Option Addr) (ce ca cf : Nat) (l : List UInt8) (o n : Int) (tx : List UInt8) (A : F) (pos : Nat) (hr : rdM l = (⟨o, n, tx, A⟩, 0, pos)) (hsm : smallS s = true)
    (xk : Int) (xe xl : ByteArray) (xb : Nat) (z : Int) (hz : Cd xb z) (hx : retT (ofM s ⟨o, n, tx, A⟩) = .returned (.tuple #[.agg #[.int .i64 xk, .string xe, .string xl], .int .i64 z]))
    (hPO : AllF (PQ s xb o A.len) A) (hfit : (T.row ⟨o, n, tx, A⟩).fits) (hnums : (T.row ⟨o, n, tx, A⟩).nums)
    (hK : xb = 0 → o ≠ 6 → o ≠ 7 → 1 ≤ xk ∧ xk ≤ 5) (hE : xb ≠ 0 → xk = 0 ∧ xe = ⟨#[]⟩ ∧ xl = ⟨#[]⟩)
    (w : World) (hs : ScAt w pe pa pf s) (hf : ScFit s) (hL : Laid w) (hC : ConsAt w) :
    Calls Tryz.prog 7 #[.agg #[.slice pe s.enums.length ce, .slice pa s.attrs.length ca, .slice pf s.fields.length cf], .string (S l)] w fun e w' => e = .returned (.bool true) ∧ Below w.heap.size w w' := by
  have hb1 := (Below.refl w.heap.size w).alloc (Nat.le_refl _) (.cells #[.slice pe s.enums.length ce, .slice pa s.attrs.length ca, .slice pf s.fields.length cf] 42)
  obtain ⟨W1, hW1⟩ : ∃ W1, W1 = w.alloc (.cells #[.slice pe s.enums.length ce, .slice pa s.attrs.length ca, .slice pf s.fields.length cf] 42) := ⟨_, rfl⟩
  have hbs : Bxp W1 w.heap.size (.slice pe s.enums.length ce) (.slice pa s.attrs.length ca) (.slice pf s.fields.length cf) := by rw [hW1]; exact heap_alloc_new w _
  rw [← hW1] at hb1
  have hL1 := hL.below hb1
  have hC1 := consB hC hb1
  have hs1 := hs.later hb1
  have hki : (A.len : Int) ≤ 281474976710656 := by have : A.len ≤ 281474976710656 := hfit.2.1; omega
  have AW := Lib.hid (fun wr (b : Below W1.heap.size W1 wr) => awake_any wr (hL1.below b).tab (consB hC1 b))
  have SM := Lib.hid (fun wr (b : Below W1.heap.size W1 wr) => small_any s pe pa pf ce ca cf wr (hs1.later b).enums hf.enums hf.attrs hf.fields hf.syms)
  rw [hsm] at SM
  have RD := Lib.hid (fun wr (b : Below W1.heap.size W1 wr) => pread_0 hr wr (hL1.below b) (consB hC1 b))
  have OF := Lib.hid (fun (t : T) (h1 : t.row.fits) (h2 : t.row.nums) p c wr (b : Below W1.heap.size W1 wr) (hfa : FAt wr (fun _ => True) t.args p) => of_any s pe pa pf ce ca cf hf t h1 h2 p c wr (hs1.later b) hfa (hL1.below b).tab (consB hC1 b))
  have OFX := Lib.hid (fun p c wr b hfa => by have h := OF.out ⟨o, n, tx, A⟩ hfit hnums p c wr b hfa; rw [hx] at h; exact h)
  have BS := Lib.hid (fun wr (b : Below W1.heap.size W1 wr) => hbs.keep b)
  have FIN := Lib.hid (fun wr (b : Below W1.heap.size W1 wr) => hb1.trans (b.mono hb1.size))
  have HW1 := Lib.hid hW1
  have HR1 := Lib.hid (Below.refl W1.heap.size W1)
  have HPO := Lib.hid hPO
  have HK := Lib.hid hK
  have HE := Lib.hid hE
  have HZ := Lib.hid hz
  clear hr hs hf hL hC hb1 hbs hL1 hC1 hs1 hW1 hx hPO hfit hnums hK hE hz hsm
  go_enter Tryz.func7, Tryz.ntmps7
  go_wp2_with fail
  rw [← HW1.out]
  refine (AW.out W1 HR1.out).mono ?_
  rintro e w2 ⟨rfl, b2⟩
  have RD2 := Lib.hid (RD.out w2 b2)
  have B2 := Lib.hid b2
  clear b2
  go_wp2_with fail
  refine RD2.out.mono ?_
  rintro e w3 ⟨⟨p, c, rfl, hfa⟩, b3⟩
  change FAt w3 _ A p at hfa
  obtain ⟨W4, hW4⟩ : ∃ W4, W4 = w3.alloc (.cells #[.int .i64 o, .int .i64 n, .string (S tx), .slice p A.len c] 24) := ⟨_, rfl⟩
  have hB3 := B2.out.trans (b3.mono B2.out.size)
  have hB4 : Below W1.heap.size W1 W4 := by rw [hW4]; exact hB3.alloc hB3.size _
  have hbs4 := BS.out W4 hB4
  have q0 := hbs4.c0
  have q1 := hbs4.c1
  have q2 := hbs4.c2
  have hx4 : Bx W4 w3.heap.size (.int .i64 o) (.int .i64 n) (.string (S tx)) (.slice p A.len c) := by rw [hW4]; exact Bx.new _ _ _ _ _
  have HF4 := Lib.hid (FAt.mono (ok' := fun _ => True) (fun _ _ _ => trivial) _ _ (hfa.keep (show Kept _ w3 W4 by rw [hW4]; exact Kept.alloc w3 _)))
  have SM4 := Lib.hid (SM.out W4 hB4)
  have B4 := Lib.hid hB4
  have HX4 := Lib.hid hx4
  have HW4 := Lib.hid hW4
  rw [hW4] at q0 q1 q2
  clear b3 hfa hB3 hB4 hbs4 hW4 hx4
  go_wp2_with fail
  rw [← HW4.out]
  refine SM4.out.mono ?_
  rintro e w5 ⟨rfl, b5⟩
  have hB5 := B4.out.trans (b5.mono B4.out.size)
  have hx5 := HX4.out.keep (Kept.of_below (ok := fun _ => True) b5) trivial
  have hf5 := HF4.out.keep (Kept.of_below (ok := fun _ => True) b5)
  have hbs5 := BS.out w5 hB5
  clear q0 q1 q2
  have q0 := hbs5.c0
  have q1 := hbs5.c1
  have q2 := hbs5.c2
  have p0 := hx5.c0
  have p1 := hx5.c1
  have p2 := hx5.c2
  have p3 := hx5.c3
  have OF5 := Lib.hid (OFX.out p c w5 hB5 hf5)
  have B5 := Lib.hid hB5
  have HX5 := Lib.hid hx5
  have HF5 := Lib.hid hf5
  clear b5 hB5 hx5 hf5 hbs5
  go_wp2_with fail
  refine OF5.out.mono ?_
  rintro e w6 ⟨rfl, b6⟩
  clear q0 q1 q2 p0 p1 p2 p3
  obtain ⟨W7, hW7⟩ : ∃ W7, W7 = w6.alloc (.cells #[.int .i64 xk, .string xe, .string xl] 44) := ⟨_, rfl⟩
  have hB6 := B5.out.trans (b6.mono B5.out.size)
  have hB7 : Below W1.heap.size W1 W7 := by rw [hW7]; exact hB6.alloc hB6.size _
  have k7 : Kept (fun _ => True) w6 W7 := by rw [hW7]; exact Kept.alloc _ _
  have hx7 := (HX5.out.keep (Kept.of_below (ok := fun _ => True) b6) trivial).keep k7 trivial
  have ht7 : TB W7 w6.heap.size (.int .i64 xk) (.string xe) (.string xl) := by rw [hW7]; exact TB.new w6 _ _ _ _ rfl
  have HF7 := Lib.hid ((HF5.out.keep (Kept.of_below (ok := fun _ => True) b6)).keep k7)
  have BE := Lib.hid (fun wr (b : Below W7.heap.size W7 wr) => hx7.keep (Kept.of_below (ok := fun _ => True) b) trivial)
  have BT := Lib.hid (fun wr (b : Below W7.heap.size W7 wr) => ht7.later b)
  have UP := Lib.hid (fun wr (b : Below W7.heap.size W7 wr) => hB7.trans (b.mono hB7.size))
  have HR7 := Lib.hid (Below.refl W7.heap.size W7)
  have p3 := hx7.c3
  have HW7 := Lib.hid hW7
  rw [hW7] at p3
  clear b6 hB6 hB7 k7 hx7 ht7 hW7 HX4 HX5 HF4 HF5 OF5 SM4 RD2
  go_wp2_with fail
  rw [← HW7.out]
  clear p3
  go_loopw [45] (fun iv wr => ∃ (i : Nat) (r : F) (pr : Option Addr), iv = .int .i64 i ∧ i + r.len = A.len ∧ AllF (PQ s xb o A.len) r ∧ FAt wr (fun _ => True) r pr ∧
    (∀ g k, pr = some ⟨g, k, none⟩ → r ≠ .nil → ∃ k0, p = some ⟨g, k0, none⟩ ∧ k = k0 + 4 * i) ∧ Below W7.heap.size W7 wr) (fun iv _ => A.len - (intOf iv).toNat)
  case atStart => exact ⟨0, A, p, rfl, by omega, HPO.out, HF7.out, fun g k e _ => ⟨k, e, by omega⟩, HR7.out⟩
  case round =>
    obtain ⟨i, r, pr, rfl, hil, hal, hfr, hpr, hb⟩ := hrel
    have HB := Lib.hid hb
    have hbe := BE.out wr hb
    have p0 := hbe.c0
    have p3 := hbe.c3
    cases r with
    | nil =>
      have hil2 : i = A.len := by simpa [F.len] using hil
      have hie : ¬ (i : Int) < (A.len : Int) := by omega
      have AWr := Lib.hid (AW.out wr (UP.out wr hb))
      have hbt := BT.out wr hb
      have HBT := Lib.hid hbt
      clear hfr hpr hal hb hbe hil hbt
      have ho : o = 6 ∨ o = 7 ∨ ((o == 6) = false ∧ (o == 7) = false ∧ o ≠ 6 ∧ o ≠ 7) := by
        by_cases h6 : o = 6
        · exact .inl h6
        by_cases h7 : o = 7
        · exact .inr (.inl h7)
        exact .inr (.inr ⟨by simp [h6], by simp [h7], h6, h7⟩)
      have hzz := HZ.out
      rcases hzz with ⟨rfl, hx0⟩ | ⟨z1, z2, hx0⟩
      · rcases ho with rfl | rfl | ⟨o1, o2, o3, o4⟩
        · go_wp2_with fail
          refine AWr.out.mono ?_
          rintro e w8 ⟨rfl, b8⟩
          have B8 := Lib.hid (UP.out _ (HB.out.trans (b8.mono HB.out.size)))
          clear b8 p0 p3
          go_wp2_with fail
          go_ret
          exact ⟨rfl, FIN.out _ B8.out⟩
        · go_wp2_with fail
          refine AWr.out.mono ?_
          rintro e w8 ⟨rfl, b8⟩
          have B8 := Lib.hid (UP.out _ (HB.out.trans (b8.mono HB.out.size)))
          clear b8 p0 p3
          go_wp2_with fail
          go_ret
          exact ⟨rfl, FIN.out _ B8.out⟩
        · obtain ⟨k1, k5⟩ := HK.out hx0 o3 o4
          clear o3 o4
          go_wp2_with fail
          refine AWr.out.mono ?_
          rintro e w8 ⟨rfl, b8⟩
          have ht8 := (HBT.out.later b8)
          have t0 := ht8.c0
          have B8 := Lib.hid (UP.out _ (HB.out.trans (b8.mono HB.out.size)))
          clear b8 p0 p3 ht8
          go_wp2_with fail
          go_ret
          exact ⟨by simp [k1, k5], FIN.out _ B8.out⟩
      · obtain ⟨rfl, rfl, rfl⟩ := HE.out hx0
        rcases ho with rfl | rfl | ⟨o1, o2, o3, o4⟩
        all_goals
          go_wp2_with fail
          refine AWr.out.mono ?_
          rintro e w8 ⟨rfl, b8⟩
          have ht8 := (HBT.out.later b8)
          have t0 := ht8.c0
          have t1 := ht8.c1
          have t2 := ht8.c2
          have B8 := Lib.hid (UP.out _ (HB.out.trans (b8.mono HB.out.size)))
          clear b8 p0 p3 ht8
          go_wp2_with fail
          go_ret
          exact ⟨rfl, FIN.out _ B8.out⟩
    | cons o2 n2 t2 a2 r =>
      obtain ⟨g, k, qq, cc, rfl, hgk, hgl, f0, f1, f2, f3, hfa, hfr2⟩ := hfr
      obtain ⟨k0, rfl, rfl⟩ := hpr g k rfl (by intro e; cases e)
      have hil2 : i + (r.len + 1) = A.len := by simpa [F.len] using hil
      have hie : (i : Int) < (A.len : Int) := by omega
      rw [show k0 + 4 * i = k0 + i * 4 by omega] at f0 f1 f2 f3
      obtain ⟨⟨hpq1, hpq2⟩, hfine⟩ := hal.1
      obtain ⟨⟨⟨yk, ye, yl⟩, yb⟩, hY⟩ : ∃ Y, ofM s ⟨o2, n2, t2, a2⟩ = Y := ⟨_, rfl⟩
      rw [hY] at hpq1 hpq2
      simp only at hpq1 hpq2
      obtain ⟨y, hy⟩ : ∃ y : Int, (yb : Int) = y := ⟨_, rfl⟩
      obtain ⟨W8, hW8⟩ : ∃ W8, W8 = wr.alloc (.cells #[.int .i64 o2, .int .i64 n2, .string (S t2), .slice qq a2.len cc] 24) := ⟨_, rfl⟩
      have k8 : Kept (fun _ => True) wr W8 := by rw [hW8]; exact Kept.alloc _ _
      have hB8 : Below W7.heap.size W7 W8 := by rw [hW8]; exact hb.alloc hb.size _
      have hO8 := OF.out ⟨o2, n2, t2, a2⟩ (wf_fits _ hfine.wf) (nums_of _ hfine.num) qq cc W8 (UP.out _ hB8) (hfa.keep k8)
      rw [hY] at hO8
      unfold retT at hO8
      simp only [hy] at hO8
      have O8 := Lib.hid hO8
      have hbs8 := BS.out W8 (UP.out _ hB8)
      have q0 := hbs8.c0
      have q1 := hbs8.c1
      have q2 := hbs8.c2
      rw [hW8] at q0 q1 q2
      have HY := Lib.hid (show Cd yb y by rw [← hy]; exact cd_of yb)
      have HP1 := Lib.hid hpq1
      have HP2 := Lib.hid hpq2
      have HAL := Lib.hid hal.2
      have HFR8 := Lib.hid (hfr2.keep k8)
      have HB8 := Lib.hid hB8
      have HW8 := Lib.hid hW8
      clear hfa hfr2 hal hb hbe hpr hgk hil hpq1 hpq2 hfine hY hy hW8 k8 hB8 hO8 hbs8
      go_wp2_with fail
      rw [← HW8.out]
      refine O8.out.mono ?_
      rintro e w9 ⟨rfl, b9⟩
      clear q0 q1 q2 p0 p3 f0 f1 f2 f3
      have hB9 := HB8.out.trans (b9.mono HB8.out.size)
      have hB10 := hB9.alloc hB9.size (.cells #[.int .i64 yk, .string (S ye), .string (S yl)] 44)
      have HFR10 := Lib.hid ((HFR8.out.keep (Kept.of_below (ok := fun _ => True) b9)).keep (Kept.alloc w9 (.cells #[.int .i64 yk, .string (S ye), .string (S yl)] 44)))
      have hbe := BE.out _ hB10
      have p0 := hbe.c0
      have p3 := hbe.c3
      have HB10 := Lib.hid hB10
      clear b9 hB9 hB10 hbe hgl
      have hcase : (A.len = 1 ∧ ((A.len : Int) == 1) = true ∧ o = 11) ∨ (((A.len : Int) == 1) = true ∧ (o == 11) = false) ∨ ((A.len : Int) == 1) = false := by
        by_cases h1 : A.len = 1
        · by_cases h2 : o = 11
          · exact .inl ⟨h1, by simp [h1], h2⟩
          · exact .inr (.inl ⟨by simp [h1], by simp [h2]⟩)
        · exact .inr (.inr (by simp; omega))
      have hzz := HZ.out
      have hyy := HY.out
      rcases hzz with ⟨rfl, hx0⟩ | ⟨z1, z2, hx0⟩
      · rcases hyy with ⟨rfl, hy0⟩ | ⟨y1, y2, hy0⟩
        · rcases hcase with ⟨h1, h2, rfl⟩ | ⟨h2, h3⟩ | h2
          · obtain rfl := (HP2.out h1 rfl hy0).2 hx0
            clear h1
            go_wp2_with fail
            go_roundw
            case rel => exact ⟨i + 1, r, some ⟨g, k0 + 4 * i + 4, none⟩, by go_num, by omega, HAL.out, HFR10.out, fun g2 k2 e _ => by injection e with e; injection e with e1 e2 _; subst e1 e2; exact ⟨k0, rfl, by omega⟩, HB10.out⟩
            case measure => simp [intOf]; omega
          all_goals
            go_wp2_with fail
            go_roundw
            case rel => exact ⟨i + 1, r, some ⟨g, k0 + 4 * i + 4, none⟩, by go_num, by omega, HAL.out, HFR10.out, fun g2 k2 e _ => by injection e with e; injection e with e1 e2 _; subst e1 e2; exact ⟨k0, rfl, by omega⟩, HB10.out⟩
            case measure => simp [intOf]; omega
        · exact absurd (HP1.out hx0) hy0
      · rcases hyy with ⟨rfl, hy0⟩ | ⟨y1, y2, hy0⟩
        · rcases hcase with ⟨h1, h2, rfl⟩ | ⟨h2, h3⟩ | h2
          · have hyk : (yk == 1) = false := by
              have := HP2.out h1 rfl hy0
              simp only [beq_eq_false_iff_ne, ne_eq]
              exact fun h => hx0 (this.1 h)
            clear h1
            go_wp2_with fail
            go_roundw
            case rel => exact ⟨i + 1, r, some ⟨g, k0 + 4 * i + 4, none⟩, by go_num, by omega, HAL.out, HFR10.out, fun g2 k2 e _ => by injection e with e; injection e with e1 e2 _; subst e1 e2; exact ⟨k0, rfl, by omega⟩, HB10.out⟩
            case measure => simp [intOf]; omega
          all_goals
            go_wp2_with fail
            go_roundw
            case rel => exact ⟨i + 1, r, some ⟨g, k0 + 4 * i + 4, none⟩, by go_num, by omega, HAL.out, HFR10.out, fun g2 k2 e _ => by injection e with e; injection e with e1 e2 _; subst e1 e2; exact ⟨k0, rfl, by omega⟩, HB10.out⟩
            case measure => simp [intOf]; omega
        · go_wp2_with fail
          go_roundw
          case rel => exact ⟨i + 1, r, some ⟨g, k0 + 4 * i + 4, none⟩, by go_num, by omega, HAL.out, HFR10.out, fun g2 k2 e _ => by injection e with e; injection e with e1 e2 _; subst e1 e2; exact ⟨k0, rfl, by omega⟩, HB10.out⟩
          case measure => simp [intOf]; omega
theorem parts_walk (s : Sc) (pe pa pf : Option Addr) (ce ca cf : Nat) (a : ByteArray) (w : World) (hs : ScAt w pe pa pf s) (hf : ScFit s) (_ : a.size ≤ maxLen) (hz : a.size ≤ 140737488355328) (hL : Laid w) (hC : ConsAt w) :
    Calls Tryz.prog 7 #[.agg #[.slice pe s.enums.length ce, .slice pa s.attrs.length ca, .slice pf s.fields.length cf], .string a] w fun e w' => e = .returned (.bool true) ∧ Below w.heap.size w w' := by
  obtain ⟨l, rfl⟩ : ∃ l, a = S l := ⟨a.data.toList, (S_list a).symm⟩
  obtain ⟨x, k, pos, hr⟩ : ∃ x k pos, rdM l = (x, k, pos) := ⟨_, _, _, rfl⟩
  by_cases hgo : k = 0 ∧ smallS s = true
  · obtain ⟨rfl, hsm⟩ := hgo
    obtain ⟨hfx, hfit, hnums⟩ := rd_fine hr
    have hpo := parts_ok s hfx
    have hof := of_fine (s := s) hfx
    obtain ⟨o, n, tx, A⟩ := x
    refine parts_good s pe pa pf ce ca cf l o n tx A pos hr hsm (ofM s ⟨o, n, tx, A⟩).1.kind (S (ofM s ⟨o, n, tx, A⟩).1.enum) (S (ofM s ⟨o, n, tx, A⟩).1.lit) (ofM s ⟨o, n, tx, A⟩).2 _ (cd_of _) rfl hpo hfit hnums ?_ ?_ w hs hf hL hC
    · rw [hof]; exact fun h h6 h7 => ty_kind h h6 h7
    · rw [hof]; intro h; rw [ty_err h]; exact ⟨rfl, rfl, rfl⟩
  · refine parts_bad s pe pa pf ce ca cf l x k pos hr ?_ w hs hf hL hC
    by_cases h : k = 0
    · right; subst h
      refine ⟨rfl, ?_⟩
      cases hsm : smallS s with
      | false => rfl
      | true => exact absurd ⟨rfl, hsm⟩ hgo
    · left; simp; omega
end Go.Proofs.YtlmmfhbdebfgkaaGreatDoor.Ty
