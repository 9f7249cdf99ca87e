/-
  ExJoinsB.
-/
import Derived.Test.YtlmmfhbdebfgkaaGreatDoorYExJoinsA
namespace Go.Proofs.YtlmmfhbdebfgkaaGreatDoor.Ex
open Go.RowKit
open Lx Va
set_option linter.unusedVariables false
set_option linter.unusedSimpArgs false
set_option maxRecDepth 100000 in
set_option maxHeartbeats 8000000 in
theorem joins_4 (l m : List UInt8) (hl : l.length ≤ 3000) (hm : m.length ≤ 3000) (x y z : T) (p1 p2 : Nat) (hr : rdM l = (x, 0, p1)) (hq : rdM m = (y, 0, p2)) (op : Int) (hK : wrap64 ((IntKind.u64.wrap op).tmod 11) = 4) (kk jj : Nat) (hkk : kk = 0 ∨ kk = 26 ∨ kk = 27) (hj : rdM (joinT l 32 m) = (z, kk, jj)) (hz : kk = 0 → z = ⟨32, 0, [], two x y⟩)
    (hwf : kk = 0 → WfF (T.row ⟨32, 0, [], two x y⟩)) (w : World) (hL : Laid w) (hC : ConsAt w) :
    Calls Tryz.prog 6 #[.string (S l), .string (S m), .int .i64 op] w fun e w' => e = .returned (.bool true) ∧ Below w.heap.size w w' := by
  have HA := Lib.hid (fun W (b : Below w.heap.size w W) => awake8 W (hL.below b) (consB hC b))
  have HR := Lib.hid (fun W (b : Below w.heap.size w W) => pread_0 hr W (hL.below b) (consB hC b))
  have HQ := Lib.hid (fun W (b : Below w.heap.size w W) => pread_0 hq W (hL.below b) (consB hC b))
  have HJ := Lib.hid (fun W (b : Below w.heap.size w W) => pread_l hj W (hL.below b) (consB hC b))
  have HA0 := Lib.hid (HA.out w (Below.refl _ _))
  have h3 : ¬ (3000 : Int) < ((S l).size : Int) := by rw [S_size]; omega
  have h4 : ¬ (3000 : Int) < ((S m).size : Int) := by rw [S_size]; omega
  obtain ⟨a1, a2, a3, a4, a5, a6⟩ := join_adds l m 32 hl hm (by decide)
  change ∀ w, (Op.stringOp .add _ ⟨#[60]⟩).run _ w = _ at a3
  have HK := Lib.hid hK
  have HZ := Lib.hid hz
  have HWF := Lib.hid hwf
  generalize S (joinT l 32 m) = T6 at *
  generalize S ([40] ++ l ++ [10, 41] ++ signL 32 ++ [40] ++ m) = T5 at *
  generalize S ([40] ++ l ++ [10, 41] ++ signL 32 ++ [40]) = T4 at *
  generalize S ([40] ++ l ++ [10, 41] ++ signL 32) = T3 at *
  generalize S ([40] ++ l ++ [10, 41]) = T2 at *
  generalize S ([40] ++ l) = T1 at *
  clear hr hq hj hz hwf hL hC hl hm hK
  focus
    go_enter Tryz.func6, Tryz.ntmps6
    go_wp2_with fail
    refine HA0.out.mono ?_
    rintro e w1 ⟨rfl, b1⟩
    have HR1 := Lib.hid (HR.out w1 b1)
    have HB1 := Lib.hid b1
    clear b1
    go_wp2_with fail
    refine HR1.out.mono ?_
    rintro e w2 ⟨⟨p, c, rfl, hfa⟩, b2⟩
    have hb2 := HB1.out.trans (b2.mono HB1.out.size)
    have hb3 := hb2.alloc hb2.size (.cells #[.int .i64 x.op, .int .i64 x.num, .string (S x.text), .slice p x.args.len c] 24)
    have HX3 := Lib.hid (Bx.new w2 (.int .i64 x.op) (.int .i64 x.num) (.string (S x.text)) (.slice p x.args.len c))
    have HF3 := Lib.hid (FAt.mono (ok' := fun _ => True) (fun _ _ _ => trivial) _ _ (hfa.keep (Kept.alloc w2 (.cells #[.int .i64 x.op, .int .i64 x.num, .string (S x.text), .slice p x.args.len c] 24))))
    have HR3 := Lib.hid (HQ.out _ hb3)
    have HB3 := Lib.hid hb3
    clear b2 hb2 hb3 hfa HR1 HB1
    go_wp2_with fail
    refine HR3.out.mono ?_
    rintro e w4 ⟨⟨p', c', rfl, hfb⟩, b4⟩
    have hb4 := HB3.out.trans (b4.mono HB3.out.size)
    have hb5 := hb4.alloc hb4.size (.cells #[.int .i64 y.op, .int .i64 y.num, .string (S y.text), .slice p' y.args.len c'] 24)
    have HX5 := Lib.hid ((HX3.out.keep (Kept.of_below (ok := fun _ => True) b4) trivial).keep (Kept.alloc (ok := fun _ => True) w4 (.cells #[.int .i64 y.op, .int .i64 y.num, .string (S y.text), .slice p' y.args.len c'] 24)) trivial)
    have HY5 := Lib.hid (Bx.new w4 (.int .i64 y.op) (.int .i64 y.num) (.string (S y.text)) (.slice p' y.args.len c'))
    have HF5 := Lib.hid ((HF3.out.keep (Kept.of_below (ok := fun _ => True) b4)).keep (Kept.alloc w4 (.cells #[.int .i64 y.op, .int .i64 y.num, .string (S y.text), .slice p' y.args.len c'] 24)))
    have HG5 := Lib.hid (FAt.mono (ok' := fun _ => True) (fun _ _ _ => trivial) _ _ (hfb.keep (Kept.alloc w4 (.cells #[.int .i64 y.op, .int .i64 y.num, .string (S y.text), .slice p' y.args.len c'] 24))))
    have HA5 := Lib.hid (HA.out _ hb5)
    have HB5 := Lib.hid hb5
    clear b4 hb4 hb5 hfb HR3 HX3 HF3 HB3
    go_wp2_with fail
    refine HA5.out.mono ?_
    rintro e w6 ⟨rfl, b6⟩
    have hb6 := HB5.out.trans (b6.mono HB5.out.size)
    have HB6 := Lib.hid hb6
    have HX6 := Lib.hid (HX5.out.keep (Kept.of_below (ok := fun _ => True) b6) trivial)
    have HY6 := Lib.hid (HY5.out.keep (Kept.of_below (ok := fun _ => True) b6) trivial)
    have HF6 := Lib.hid (HF5.out.keep (Kept.of_below (ok := fun _ => True) b6))
    have HG6 := Lib.hid (HG5.out.keep (Kept.of_below (ok := fun _ => True) b6))
    clear b6 hb6 HA5 HX5 HY5 HF5 HG5 HB5
    go_upto_region 8 with fail
    rw [HK.out]
    obtain ⟨W8, hW8⟩ : ∃ W8, W8 = ((w6.alloc (.cells #[.string ⟨#[124, 124]⟩, .string ⟨#[38, 38]⟩, .string ⟨#[61, 61]⟩, .string ⟨#[33, 61]⟩, .string ⟨#[60]⟩, .string ⟨#[60, 61]⟩, .string ⟨#[43]⟩, .string ⟨#[45]⟩, .string ⟨#[42]⟩, .string ⟨#[47]⟩, .string ⟨#[37]⟩] 9)).alloc (.cells #[.int .i64 41, .int .i64 40, .int .i64 30, .int .i64 31, .int .i64 32, .int .i64 33, .int .i64 23, .int .i64 24, .int .i64 20, .int .i64 21, .int .i64 22] 3)) := ⟨_, rfl⟩
    have k8 : Kept (fun _ => True) w6 W8 := by rw [hW8]; exact (Kept.alloc _ _).trans (Kept.alloc _ _)
    have hb8 : Below w.heap.size w W8 := by rw [hW8]; exact (HB6.out.alloc HB6.out.size _).alloc (by have := HB6.out.size; simp; omega) _
    have HW8 := Lib.hid hW8
    have HJ8 := Lib.hid (HJ.out W8 hb8)
    have HB8 := Lib.hid hb8
    have HX8 := Lib.hid (HX6.out.keep k8 trivial)
    have HY8 := Lib.hid (HY6.out.keep k8 trivial)
    have HF8 := Lib.hid (HF6.out.keep k8)
    have HG8 := Lib.hid (HG6.out.keep k8)
    clear k8 hb8 hW8 HX6 HY6 HF6 HG6 HB6
    go_upto_region 10 with fail
    rw [← HW8.out]
    go_wp2_with fail
    refine HJ8.out.mono ?_
    rintro e w9 ⟨⟨p9, c9, rfl, hfc⟩, b9⟩
    have hb9 := HB8.out.trans (b9.mono HB8.out.size)
    rcases hkk with rfl | rfl | rfl
    · obtain rfl := HZ.out rfl
      have hww := HWF.out rfl
      obtain ⟨W10, hW10⟩ : ∃ W10, W10 = w9.alloc (.cells #[.int .i64 32, .int .i64 0, .string (S []), .slice p9 2 c9] 24) := ⟨_, rfl⟩
      have k10 : Kept (fun _ => True) w9 W10 := by rw [hW10]; exact Kept.alloc _ _
      have hb10 : Below w.heap.size w W10 := by rw [hW10]; exact hb9.alloc hb9.size _
      have hx10 := (HX8.out.keep (Kept.of_below (ok := fun _ => True) b9) trivial).keep k10 trivial
      have hy10 := (HY8.out.keep (Kept.of_below (ok := fun _ => True) b9) trivial).keep k10 trivial
      have hz10 : Bx W10 w9.heap.size (.int .i64 32) (.int .i64 0) (.string (S [])) (.slice p9 2 c9) := by rw [hW10]; exact Bx.new _ _ _ _ _
      have hf10 := (HF8.out.keep (Kept.of_below (ok := fun _ => True) b9)).keep k10
      have hg10 := (HG8.out.keep (Kept.of_below (ok := fun _ => True) b9)).keep k10
      have hh10 := FAt.mono (ok' := fun _ => True) (fun _ _ _ => trivial) _ _ (hfc.keep (k10.mono fun _ _ => trivial))
      have hln : (W10.heap.size : Nat) = W10.heap.size := rfl
      have hnew : (W10.alloc (two8 x.op x.num x.text p x.args.len c y.op y.num y.text p' y.args.len c')).heap[W10.heap.size]? = some (two8 x.op x.num x.text p x.args.len c y.op y.num y.text p' y.args.len c') := heap_alloc_new W10 _
      have kn : Kept (fun _ => True) W10 (W10.alloc (two8 x.op x.num x.text p x.args.len c y.op y.num y.text p' y.args.len c')) := Kept.alloc _ _
      have htw : FAt (W10.alloc (two8 x.op x.num x.text p x.args.len c y.op y.num y.text p' y.args.len c')) (fun _ => True) (two x y) (some ⟨W10.heap.size, 0, none⟩) := FAt.two hnew trivial (hf10.keep kn) (hg10.keep kn)
      have HS := Lib.hid (same_any ⟨32, 0, [], two x y⟩ hww p9 (some ⟨W10.heap.size, 0, none⟩) c9 2 _ (hh10.keep kn) htw)
      have x0 := hx10.c0
      have x1 := hx10.c1
      have x2 := hx10.c2
      have x3 := hx10.c3
      have y0 := hy10.c0
      have y1 := hy10.c1
      have y2 := hy10.c2
      have y3 := hy10.c3
      have z0 := hz10.c0
      have z1 := hz10.c1
      have z2 := hz10.c2
      have z3 := hz10.c3
      have HW10 := Lib.hid hW10
      have HB10 := Lib.hid (hb10.alloc hb10.size (two8 x.op x.num x.text p x.args.len c y.op y.num y.text p' y.args.len c'))
      clear b9 hb9 hfc hW10 k10 hb10 hx10 hy10 hz10 hf10 hg10 hh10 hln hnew kn htw hww
      go_upto_region 11 with fail
      rw [show (w9.alloc (.cells #[.int .i64 32, .int .i64 0, .string (S []), .slice p9 (two x y).len c9] 24)) = W10 from HW10.out.symm]
      go_wp2_with fail
      refine HS.out.mono ?_
      rintro e w11 ⟨rfl, b11⟩
      have HB11 := Lib.hid (HB10.out.trans (b11.mono HB10.out.size))
      clear b11
      go_wp2_with fail
      go_ret
      exact ⟨rfl, HB11.out⟩
    all_goals
      have HB10 := Lib.hid (hb9.alloc hb9.size (.cells #[.int .i64 z.op, .int .i64 z.num, .string (S z.text), .slice p9 z.args.len c9] 24))
      clear b9 hb9 hfc
      go_wp2_with fail
      go_ret
      exact ⟨rfl, HB10.out⟩
set_option maxRecDepth 100000 in
set_option maxHeartbeats 8000000 in
theorem joins_5 (l m : List UInt8) (hl : l.length ≤ 3000) (hm : m.length ≤ 3000) (x y z : T) (p1 p2 : Nat) (hr : rdM l = (x, 0, p1)) (hq : rdM m = (y, 0, p2)) (op : Int) (hK : wrap64 ((IntKind.u64.wrap op).tmod 11) = 5) (kk jj : Nat) (hkk : kk = 0 ∨ kk = 26 ∨ kk = 27) (hj : rdM (joinT l 33 m) = (z, kk, jj)) (hz : kk = 0 → z = ⟨33, 0, [], two x y⟩)
    (hwf : kk = 0 → WfF (T.row ⟨33, 0, [], two x y⟩)) (w : World) (hL : Laid w) (hC : ConsAt w) :
    Calls Tryz.prog 6 #[.string (S l), .string (S m), .int .i64 op] w fun e w' => e = .returned (.bool true) ∧ Below w.heap.size w w' := by
  have HA := Lib.hid (fun W (b : Below w.heap.size w W) => awake8 W (hL.below b) (consB hC b))
  have HR := Lib.hid (fun W (b : Below w.heap.size w W) => pread_0 hr W (hL.below b) (consB hC b))
  have HQ := Lib.hid (fun W (b : Below w.heap.size w W) => pread_0 hq W (hL.below b) (consB hC b))
  have HJ := Lib.hid (fun W (b : Below w.heap.size w W) => pread_l hj W (hL.below b) (consB hC b))
  have HA0 := Lib.hid (HA.out w (Below.refl _ _))
  have h3 : ¬ (3000 : Int) < ((S l).size : Int) := by rw [S_size]; omega
  have h4 : ¬ (3000 : Int) < ((S m).size : Int) := by rw [S_size]; omega
  obtain ⟨a1, a2, a3, a4, a5, a6⟩ := join_adds l m 33 hl hm (by decide)
  change ∀ w, (Op.stringOp .add _ ⟨#[60, 61]⟩).run _ w = _ at a3
  have HK := Lib.hid hK
  have HZ := Lib.hid hz
  have HWF := Lib.hid hwf
  generalize S (joinT l 33 m) = T6 at *
  generalize S ([40] ++ l ++ [10, 41] ++ signL 33 ++ [40] ++ m) = T5 at *
  generalize S ([40] ++ l ++ [10, 41] ++ signL 33 ++ [40]) = T4 at *
  generalize S ([40] ++ l ++ [10, 41] ++ signL 33) = T3 at *
  generalize S ([40] ++ l ++ [10, 41]) = T2 at *
  generalize S ([40] ++ l) = T1 at *
  clear hr hq hj hz hwf hL hC hl hm hK
  focus
    go_enter Tryz.func6, Tryz.ntmps6
    go_wp2_with fail
    refine HA0.out.mono ?_
    rintro e w1 ⟨rfl, b1⟩
    have HR1 := Lib.hid (HR.out w1 b1)
    have HB1 := Lib.hid b1
    clear b1
    go_wp2_with fail
    refine HR1.out.mono ?_
    rintro e w2 ⟨⟨p, c, rfl, hfa⟩, b2⟩
    have hb2 := HB1.out.trans (b2.mono HB1.out.size)
    have hb3 := hb2.alloc hb2.size (.cells #[.int .i64 x.op, .int .i64 x.num, .string (S x.text), .slice p x.args.len c] 24)
    have HX3 := Lib.hid (Bx.new w2 (.int .i64 x.op) (.int .i64 x.num) (.string (S x.text)) (.slice p x.args.len c))
    have HF3 := Lib.hid (FAt.mono (ok' := fun _ => True) (fun _ _ _ => trivial) _ _ (hfa.keep (Kept.alloc w2 (.cells #[.int .i64 x.op, .int .i64 x.num, .string (S x.text), .slice p x.args.len c] 24))))
    have HR3 := Lib.hid (HQ.out _ hb3)
    have HB3 := Lib.hid hb3
    clear b2 hb2 hb3 hfa HR1 HB1
    go_wp2_with fail
    refine HR3.out.mono ?_
    rintro e w4 ⟨⟨p', c', rfl, hfb⟩, b4⟩
    have hb4 := HB3.out.trans (b4.mono HB3.out.size)
    have hb5 := hb4.alloc hb4.size (.cells #[.int .i64 y.op, .int .i64 y.num, .string (S y.text), .slice p' y.args.len c'] 24)
    have HX5 := Lib.hid ((HX3.out.keep (Kept.of_below (ok := fun _ => True) b4) trivial).keep (Kept.alloc (ok := fun _ => True) w4 (.cells #[.int .i64 y.op, .int .i64 y.num, .string (S y.text), .slice p' y.args.len c'] 24)) trivial)
    have HY5 := Lib.hid (Bx.new w4 (.int .i64 y.op) (.int .i64 y.num) (.string (S y.text)) (.slice p' y.args.len c'))
    have HF5 := Lib.hid ((HF3.out.keep (Kept.of_below (ok := fun _ => True) b4)).keep (Kept.alloc w4 (.cells #[.int .i64 y.op, .int .i64 y.num, .string (S y.text), .slice p' y.args.len c'] 24)))
    have HG5 := Lib.hid (FAt.mono (ok' := fun _ => True) (fun _ _ _ => trivial) _ _ (hfb.keep (Kept.alloc w4 (.cells #[.int .i64 y.op, .int .i64 y.num, .string (S y.text), .slice p' y.args.len c'] 24))))
    have HA5 := Lib.hid (HA.out _ hb5)
    have HB5 := Lib.hid hb5
    clear b4 hb4 hb5 hfb HR3 HX3 HF3 HB3
    go_wp2_with fail
    refine HA5.out.mono ?_
    rintro e w6 ⟨rfl, b6⟩
    have hb6 := HB5.out.trans (b6.mono HB5.out.size)
    have HB6 := Lib.hid hb6
    have HX6 := Lib.hid (HX5.out.keep (Kept.of_below (ok := fun _ => True) b6) trivial)
    have HY6 := Lib.hid (HY5.out.keep (Kept.of_below (ok := fun _ => True) b6) trivial)
    have HF6 := Lib.hid (HF5.out.keep (Kept.of_below (ok := fun _ => True) b6))
    have HG6 := Lib.hid (HG5.out.keep (Kept.of_below (ok := fun _ => True) b6))
    clear b6 hb6 HA5 HX5 HY5 HF5 HG5 HB5
    go_upto_region 8 with fail
    rw [HK.out]
    obtain ⟨W8, hW8⟩ : ∃ W8, W8 = ((w6.alloc (.cells #[.string ⟨#[124, 124]⟩, .string ⟨#[38, 38]⟩, .string ⟨#[61, 61]⟩, .string ⟨#[33, 61]⟩, .string ⟨#[60]⟩, .string ⟨#[60, 61]⟩, .string ⟨#[43]⟩, .string ⟨#[45]⟩, .string ⟨#[42]⟩, .string ⟨#[47]⟩, .string ⟨#[37]⟩] 9)).alloc (.cells #[.int .i64 41, .int .i64 40, .int .i64 30, .int .i64 31, .int .i64 32, .int .i64 33, .int .i64 23, .int .i64 24, .int .i64 20, .int .i64 21, .int .i64 22] 3)) := ⟨_, rfl⟩
    have k8 : Kept (fun _ => True) w6 W8 := by rw [hW8]; exact (Kept.alloc _ _).trans (Kept.alloc _ _)
    have hb8 : Below w.heap.size w W8 := by rw [hW8]; exact (HB6.out.alloc HB6.out.size _).alloc (by have := HB6.out.size; simp; omega) _
    have HW8 := Lib.hid hW8
    have HJ8 := Lib.hid (HJ.out W8 hb8)
    have HB8 := Lib.hid hb8
    have HX8 := Lib.hid (HX6.out.keep k8 trivial)
    have HY8 := Lib.hid (HY6.out.keep k8 trivial)
    have HF8 := Lib.hid (HF6.out.keep k8)
    have HG8 := Lib.hid (HG6.out.keep k8)
    clear k8 hb8 hW8 HX6 HY6 HF6 HG6 HB6
    go_upto_region 10 with fail
    rw [← HW8.out]
    go_wp2_with fail
    refine HJ8.out.mono ?_
    rintro e w9 ⟨⟨p9, c9, rfl, hfc⟩, b9⟩
    have hb9 := HB8.out.trans (b9.mono HB8.out.size)
    rcases hkk with rfl | rfl | rfl
    · obtain rfl := HZ.out rfl
      have hww := HWF.out rfl
      obtain ⟨W10, hW10⟩ : ∃ W10, W10 = w9.alloc (.cells #[.int .i64 33, .int .i64 0, .string (S []), .slice p9 2 c9] 24) := ⟨_, rfl⟩
      have k10 : Kept (fun _ => True) w9 W10 := by rw [hW10]; exact Kept.alloc _ _
      have hb10 : Below w.heap.size w W10 := by rw [hW10]; exact hb9.alloc hb9.size _
      have hx10 := (HX8.out.keep (Kept.of_below (ok := fun _ => True) b9) trivial).keep k10 trivial
      have hy10 := (HY8.out.keep (Kept.of_below (ok := fun _ => True) b9) trivial).keep k10 trivial
      have hz10 : Bx W10 w9.heap.size (.int .i64 33) (.int .i64 0) (.string (S [])) (.slice p9 2 c9) := by rw [hW10]; exact Bx.new _ _ _ _ _
      have hf10 := (HF8.out.keep (Kept.of_below (ok := fun _ => True) b9)).keep k10
      have hg10 := (HG8.out.keep (Kept.of_below (ok := fun _ => True) b9)).keep k10
      have hh10 := FAt.mono (ok' := fun _ => True) (fun _ _ _ => trivial) _ _ (hfc.keep (k10.mono fun _ _ => trivial))
      have hln : (W10.heap.size : Nat) = W10.heap.size := rfl
      have hnew : (W10.alloc (two8 x.op x.num x.text p x.args.len c y.op y.num y.text p' y.args.len c')).heap[W10.heap.size]? = some (two8 x.op x.num x.text p x.args.len c y.op y.num y.text p' y.args.len c') := heap_alloc_new W10 _
      have kn : Kept (fun _ => True) W10 (W10.alloc (two8 x.op x.num x.text p x.args.len c y.op y.num y.text p' y.args.len c')) := Kept.alloc _ _
      have htw : FAt (W10.alloc (two8 x.op x.num x.text p x.args.len c y.op y.num y.text p' y.args.len c')) (fun _ => True) (two x y) (some ⟨W10.heap.size, 0, none⟩) := FAt.two hnew trivial (hf10.keep kn) (hg10.keep kn)
      have HS := Lib.hid (same_any ⟨33, 0, [], two x y⟩ hww p9 (some ⟨W10.heap.size, 0, none⟩) c9 2 _ (hh10.keep kn) htw)
      have x0 := hx10.c0
      have x1 := hx10.c1
      have x2 := hx10.c2
      have x3 := hx10.c3
      have y0 := hy10.c0
      have y1 := hy10.c1
      have y2 := hy10.c2
      have y3 := hy10.c3
      have z0 := hz10.c0
      have z1 := hz10.c1
      have z2 := hz10.c2
      have z3 := hz10.c3
      have HW10 := Lib.hid hW10
      have HB10 := Lib.hid (hb10.alloc hb10.size (two8 x.op x.num x.text p x.args.len c y.op y.num y.text p' y.args.len c'))
      clear b9 hb9 hfc hW10 k10 hb10 hx10 hy10 hz10 hf10 hg10 hh10 hln hnew kn htw hww
      go_upto_region 11 with fail
      rw [show (w9.alloc (.cells #[.int .i64 33, .int .i64 0, .string (S []), .slice p9 (two x y).len c9] 24)) = W10 from HW10.out.symm]
      go_wp2_with fail
      refine HS.out.mono ?_
      rintro e w11 ⟨rfl, b11⟩
      have HB11 := Lib.hid (HB10.out.trans (b11.mono HB10.out.size))
      clear b11
      go_wp2_with fail
      go_ret
      exact ⟨rfl, HB11.out⟩
    all_goals
      have HB10 := Lib.hid (hb9.alloc hb9.size (.cells #[.int .i64 z.op, .int .i64 z.num, .string (S z.text), .slice p9 z.args.len c9] 24))
      clear b9 hb9 hfc
      go_wp2_with fail
      go_ret
      exact ⟨rfl, HB10.out⟩
set_option maxRecDepth 100000 in
set_option maxHeartbeats 8000000 in
theorem joins_6 (l m : List UInt8) (hl : l.length ≤ 3000) (hm : m.length ≤ 3000) (x y z : T) (p1 p2 : Nat) (hr : rdM l = (x, 0, p1)) (hq : rdM m = (y, 0, p2)) (op : Int) (hK : wrap64 ((IntKind.u64.wrap op).tmod 11) = 6) (kk jj : Nat) (hkk : kk = 0 ∨ kk = 26 ∨ kk = 27) (hj : rdM (joinT l 23 m) = (z, kk, jj)) (hz : kk = 0 → z = ⟨23, 0, [], two x y⟩)
    (hwf : kk = 0 → WfF (T.row ⟨23, 0, [], two x y⟩)) (w : World) (hL : Laid w) (hC : ConsAt w) :
    Calls Tryz.prog 6 #[.string (S l), .string (S m), .int .i64 op] w fun e w' => e = .returned (.bool true) ∧ Below w.heap.size w w' := by
  have HA := Lib.hid (fun W (b : Below w.heap.size w W) => awake8 W (hL.below b) (consB hC b))
  have HR := Lib.hid (fun W (b : Below w.heap.size w W) => pread_0 hr W (hL.below b) (consB hC b))
  have HQ := Lib.hid (fun W (b : Below w.heap.size w W) => pread_0 hq W (hL.below b) (consB hC b))
  have HJ := Lib.hid (fun W (b : Below w.heap.size w W) => pread_l hj W (hL.below b) (consB hC b))
  have HA0 := Lib.hid (HA.out w (Below.refl _ _))
  have h3 : ¬ (3000 : Int) < ((S l).size : Int) := by rw [S_size]; omega
  have h4 : ¬ (3000 : Int) < ((S m).size : Int) := by rw [S_size]; omega
  obtain ⟨a1, a2, a3, a4, a5, a6⟩ := join_adds l m 23 hl hm (by decide)
  change ∀ w, (Op.stringOp .add _ ⟨#[43]⟩).run _ w = _ at a3
  have HK := Lib.hid hK
  have HZ := Lib.hid hz
  have HWF := Lib.hid hwf
  generalize S (joinT l 23 m) = T6 at *
  generalize S ([40] ++ l ++ [10, 41] ++ signL 23 ++ [40] ++ m) = T5 at *
  generalize S ([40] ++ l ++ [10, 41] ++ signL 23 ++ [40]) = T4 at *
  generalize S ([40] ++ l ++ [10, 41] ++ signL 23) = T3 at *
  generalize S ([40] ++ l ++ [10, 41]) = T2 at *
  generalize S ([40] ++ l) = T1 at *
  clear hr hq hj hz hwf hL hC hl hm hK
  focus
    go_enter Tryz.func6, Tryz.ntmps6
    go_wp2_with fail
    refine HA0.out.mono ?_
    rintro e w1 ⟨rfl, b1⟩
    have HR1 := Lib.hid (HR.out w1 b1)
    have HB1 := Lib.hid b1
    clear b1
    go_wp2_with fail
    refine HR1.out.mono ?_
    rintro e w2 ⟨⟨p, c, rfl, hfa⟩, b2⟩
    have hb2 := HB1.out.trans (b2.mono HB1.out.size)
    have hb3 := hb2.alloc hb2.size (.cells #[.int .i64 x.op, .int .i64 x.num, .string (S x.text), .slice p x.args.len c] 24)
    have HX3 := Lib.hid (Bx.new w2 (.int .i64 x.op) (.int .i64 x.num) (.string (S x.text)) (.slice p x.args.len c))
    have HF3 := Lib.hid (FAt.mono (ok' := fun _ => True) (fun _ _ _ => trivial) _ _ (hfa.keep (Kept.alloc w2 (.cells #[.int .i64 x.op, .int .i64 x.num, .string (S x.text), .slice p x.args.len c] 24))))
    have HR3 := Lib.hid (HQ.out _ hb3)
    have HB3 := Lib.hid hb3
    clear b2 hb2 hb3 hfa HR1 HB1
    go_wp2_with fail
    refine HR3.out.mono ?_
    rintro e w4 ⟨⟨p', c', rfl, hfb⟩, b4⟩
    have hb4 := HB3.out.trans (b4.mono HB3.out.size)
    have hb5 := hb4.alloc hb4.size (.cells #[.int .i64 y.op, .int .i64 y.num, .string (S y.text), .slice p' y.args.len c'] 24)
    have HX5 := Lib.hid ((HX3.out.keep (Kept.of_below (ok := fun _ => True) b4) trivial).keep (Kept.alloc (ok := fun _ => True) w4 (.cells #[.int .i64 y.op, .int .i64 y.num, .string (S y.text), .slice p' y.args.len c'] 24)) trivial)
    have HY5 := Lib.hid (Bx.new w4 (.int .i64 y.op) (.int .i64 y.num) (.string (S y.text)) (.slice p' y.args.len c'))
    have HF5 := Lib.hid ((HF3.out.keep (Kept.of_below (ok := fun _ => True) b4)).keep (Kept.alloc w4 (.cells #[.int .i64 y.op, .int .i64 y.num, .string (S y.text), .slice p' y.args.len c'] 24)))
    have HG5 := Lib.hid (FAt.mono (ok' := fun _ => True) (fun _ _ _ => trivial) _ _ (hfb.keep (Kept.alloc w4 (.cells #[.int .i64 y.op, .int .i64 y.num, .string (S y.text), .slice p' y.args.len c'] 24))))
    have HA5 := Lib.hid (HA.out _ hb5)
    have HB5 := Lib.hid hb5
    clear b4 hb4 hb5 hfb HR3 HX3 HF3 HB3
    go_wp2_with fail
    refine HA5.out.mono ?_
    rintro e w6 ⟨rfl, b6⟩
    have hb6 := HB5.out.trans (b6.mono HB5.out.size)
    have HB6 := Lib.hid hb6
    have HX6 := Lib.hid (HX5.out.keep (Kept.of_below (ok := fun _ => True) b6) trivial)
    have HY6 := Lib.hid (HY5.out.keep (Kept.of_below (ok := fun _ => True) b6) trivial)
    have HF6 := Lib.hid (HF5.out.keep (Kept.of_below (ok := fun _ => True) b6))
    have HG6 := Lib.hid (HG5.out.keep (Kept.of_below (ok := fun _ => True) b6))
    clear b6 hb6 HA5 HX5 HY5 HF5 HG5 HB5
    go_upto_region 8 with fail
    rw [HK.out]
    obtain ⟨W8, hW8⟩ : ∃ W8, W8 = ((w6.alloc (.cells #[.string ⟨#[124, 124]⟩, .string ⟨#[38, 38]⟩, .string ⟨#[61, 61]⟩, .string ⟨#[33, 61]⟩, .string ⟨#[60]⟩, .string ⟨#[60, 61]⟩, .string ⟨#[43]⟩, .string ⟨#[45]⟩, .string ⟨#[42]⟩, .string ⟨#[47]⟩, .string ⟨#[37]⟩] 9)).alloc (.cells #[.int .i64 41, .int .i64 40, .int .i64 30, .int .i64 31, .int .i64 32, .int .i64 33, .int .i64 23, .int .i64 24, .int .i64 20, .int .i64 21, .int .i64 22] 3)) := ⟨_, rfl⟩
    have k8 : Kept (fun _ => True) w6 W8 := by rw [hW8]; exact (Kept.alloc _ _).trans (Kept.alloc _ _)
    have hb8 : Below w.heap.size w W8 := by rw [hW8]; exact (HB6.out.alloc HB6.out.size _).alloc (by have := HB6.out.size; simp; omega) _
    have HW8 := Lib.hid hW8
    have HJ8 := Lib.hid (HJ.out W8 hb8)
    have HB8 := Lib.hid hb8
    have HX8 := Lib.hid (HX6.out.keep k8 trivial)
    have HY8 := Lib.hid (HY6.out.keep k8 trivial)
    have HF8 := Lib.hid (HF6.out.keep k8)
    have HG8 := Lib.hid (HG6.out.keep k8)
    clear k8 hb8 hW8 HX6 HY6 HF6 HG6 HB6
    go_upto_region 10 with fail
    rw [← HW8.out]
    go_wp2_with fail
    refine HJ8.out.mono ?_
    rintro e w9 ⟨⟨p9, c9, rfl, hfc⟩, b9⟩
    have hb9 := HB8.out.trans (b9.mono HB8.out.size)
    rcases hkk with rfl | rfl | rfl
    · obtain rfl := HZ.out rfl
      have hww := HWF.out rfl
      obtain ⟨W10, hW10⟩ : ∃ W10, W10 = w9.alloc (.cells #[.int .i64 23, .int .i64 0, .string (S []), .slice p9 2 c9] 24) := ⟨_, rfl⟩
      have k10 : Kept (fun _ => True) w9 W10 := by rw [hW10]; exact Kept.alloc _ _
      have hb10 : Below w.heap.size w W10 := by rw [hW10]; exact hb9.alloc hb9.size _
      have hx10 := (HX8.out.keep (Kept.of_below (ok := fun _ => True) b9) trivial).keep k10 trivial
      have hy10 := (HY8.out.keep (Kept.of_below (ok := fun _ => True) b9) trivial).keep k10 trivial
      have hz10 : Bx W10 w9.heap.size (.int .i64 23) (.int .i64 0) (.string (S [])) (.slice p9 2 c9) := by rw [hW10]; exact Bx.new _ _ _ _ _
      have hf10 := (HF8.out.keep (Kept.of_below (ok := fun _ => True) b9)).keep k10
      have hg10 := (HG8.out.keep (Kept.of_below (ok := fun _ => True) b9)).keep k10
      have hh10 := FAt.mono (ok' := fun _ => True) (fun _ _ _ => trivial) _ _ (hfc.keep (k10.mono fun _ _ => trivial))
      have hln : (W10.heap.size : Nat) = W10.heap.size := rfl
      have hnew : (W10.alloc (two8 x.op x.num x.text p x.args.len c y.op y.num y.text p' y.args.len c')).heap[W10.heap.size]? = some (two8 x.op x.num x.text p x.args.len c y.op y.num y.text p' y.args.len c') := heap_alloc_new W10 _
      have kn : Kept (fun _ => True) W10 (W10.alloc (two8 x.op x.num x.text p x.args.len c y.op y.num y.text p' y.args.len c')) := Kept.alloc _ _
      have htw : FAt (W10.alloc (two8 x.op x.num x.text p x.args.len c y.op y.num y.text p' y.args.len c')) (fun _ => True) (two x y) (some ⟨W10.heap.size, 0, none⟩) := FAt.two hnew trivial (hf10.keep kn) (hg10.keep kn)
      have HS := Lib.hid (same_any ⟨23, 0, [], two x y⟩ hww p9 (some ⟨W10.heap.size, 0, none⟩) c9 2 _ (hh10.keep kn) htw)
      have x0 := hx10.c0
      have x1 := hx10.c1
      have x2 := hx10.c2
      have x3 := hx10.c3
      have y0 := hy10.c0
      have y1 := hy10.c1
      have y2 := hy10.c2
      have y3 := hy10.c3
      have z0 := hz10.c0
      have z1 := hz10.c1
      have z2 := hz10.c2
      have z3 := hz10.c3
      have HW10 := Lib.hid hW10
      have HB10 := Lib.hid (hb10.alloc hb10.size (two8 x.op x.num x.text p x.args.len c y.op y.num y.text p' y.args.len c'))
      clear b9 hb9 hfc hW10 k10 hb10 hx10 hy10 hz10 hf10 hg10 hh10 hln hnew kn htw hww
      go_upto_region 11 with fail
      rw [show (w9.alloc (.cells #[.int .i64 23, .int .i64 0, .string (S []), .slice p9 (two x y).len c9] 24)) = W10 from HW10.out.symm]
      go_wp2_with fail
      refine HS.out.mono ?_
      rintro e w11 ⟨rfl, b11⟩
      have HB11 := Lib.hid (HB10.out.trans (b11.mono HB10.out.size))
      clear b11
      go_wp2_with fail
      go_ret
      exact ⟨rfl, HB11.out⟩
    all_goals
      have HB10 := Lib.hid (hb9.alloc hb9.size (.cells #[.int .i64 z.op, .int .i64 z.num, .string (S z.text), .slice p9 z.args.len c9] 24))
      clear b9 hb9 hfc
      go_wp2_with fail
      go_ret
      exact ⟨rfl, HB10.out⟩
set_option maxRecDepth 100000 in
set_option maxHeartbeats 8000000 in
theorem joins_7 (l m : List UInt8) (hl : l.length ≤ 3000) (hm : m.length ≤ 3000) (x y z : T) (p1 p2 : Nat) (hr : rdM l = (x, 0, p1)) (hq : rdM m = (y, 0, p2)) (op : Int) (hK : wrap64 ((IntKind.u64.wrap op).tmod 11) = 7) (kk jj : Nat) (hkk : kk = 0 ∨ kk = 26 ∨ kk = 27) (hj : rdM (joinT l 24 m) = (z, kk, jj)) (hz : kk = 0 → z = ⟨24, 0, [], two x y⟩)
    (hwf : kk = 0 → WfF (T.row ⟨24, 0, [], two x y⟩)) (w : World) (hL : Laid w) (hC : ConsAt w) :
    Calls Tryz.prog 6 #[.string (S l), .string (S m), .int .i64 op] w fun e w' => e = .returned (.bool true) ∧ Below w.heap.size w w' := by
  have HA := Lib.hid (fun W (b : Below w.heap.size w W) => awake8 W (hL.below b) (consB hC b))
  have HR := Lib.hid (fun W (b : Below w.heap.size w W) => pread_0 hr W (hL.below b) (consB hC b))
  have HQ := Lib.hid (fun W (b : Below w.heap.size w W) => pread_0 hq W (hL.below b) (consB hC b))
  have HJ := Lib.hid (fun W (b : Below w.heap.size w W) => pread_l hj W (hL.below b) (consB hC b))
  have HA0 := Lib.hid (HA.out w (Below.refl _ _))
  have h3 : ¬ (3000 : Int) < ((S l).size : Int) := by rw [S_size]; omega
  have h4 : ¬ (3000 : Int) < ((S m).size : Int) := by rw [S_size]; omega
  obtain ⟨a1, a2, a3, a4, a5, a6⟩ := join_adds l m 24 hl hm (by decide)
  change ∀ w, (Op.stringOp .add _ ⟨#[45]⟩).run _ w = _ at a3
  have HK := Lib.hid hK
  have HZ := Lib.hid hz
  have HWF := Lib.hid hwf
  generalize S (joinT l 24 m) = T6 at *
  generalize S ([40] ++ l ++ [10, 41] ++ signL 24 ++ [40] ++ m) = T5 at *
  generalize S ([40] ++ l ++ [10, 41] ++ signL 24 ++ [40]) = T4 at *
  generalize S ([40] ++ l ++ [10, 41] ++ signL 24) = T3 at *
  generalize S ([40] ++ l ++ [10, 41]) = T2 at *
  generalize S ([40] ++ l) = T1 at *
  clear hr hq hj hz hwf hL hC hl hm hK
  focus
    go_enter Tryz.func6, Tryz.ntmps6
    go_wp2_with fail
    refine HA0.out.mono ?_
    rintro e w1 ⟨rfl, b1⟩
    have HR1 := Lib.hid (HR.out w1 b1)
    have HB1 := Lib.hid b1
    clear b1
    go_wp2_with fail
    refine HR1.out.mono ?_
    rintro e w2 ⟨⟨p, c, rfl, hfa⟩, b2⟩
    have hb2 := HB1.out.trans (b2.mono HB1.out.size)
    have hb3 := hb2.alloc hb2.size (.cells #[.int .i64 x.op, .int .i64 x.num, .string (S x.text), .slice p x.args.len c] 24)
    have HX3 := Lib.hid (Bx.new w2 (.int .i64 x.op) (.int .i64 x.num) (.string (S x.text)) (.slice p x.args.len c))
    have HF3 := Lib.hid (FAt.mono (ok' := fun _ => True) (fun _ _ _ => trivial) _ _ (hfa.keep (Kept.alloc w2 (.cells #[.int .i64 x.op, .int .i64 x.num, .string (S x.text), .slice p x.args.len c] 24))))
    have HR3 := Lib.hid (HQ.out _ hb3)
    have HB3 := Lib.hid hb3
    clear b2 hb2 hb3 hfa HR1 HB1
    go_wp2_with fail
    refine HR3.out.mono ?_
    rintro e w4 ⟨⟨p', c', rfl, hfb⟩, b4⟩
    have hb4 := HB3.out.trans (b4.mono HB3.out.size)
    have hb5 := hb4.alloc hb4.size (.cells #[.int .i64 y.op, .int .i64 y.num, .string (S y.text), .slice p' y.args.len c'] 24)
    have HX5 := Lib.hid ((HX3.out.keep (Kept.of_below (ok := fun _ => True) b4) trivial).keep (Kept.alloc (ok := fun _ => True) w4 (.cells #[.int .i64 y.op, .int .i64 y.num, .string (S y.text), .slice p' y.args.len c'] 24)) trivial)
    have HY5 := Lib.hid (Bx.new w4 (.int .i64 y.op) (.int .i64 y.num) (.string (S y.text)) (.slice p' y.args.len c'))
    have HF5 := Lib.hid ((HF3.out.keep (Kept.of_below (ok := fun _ => True) b4)).keep (Kept.alloc w4 (.cells #[.int .i64 y.op, .int .i64 y.num, .string (S y.text), .slice p' y.args.len c'] 24)))
    have HG5 := Lib.hid (FAt.mono (ok' := fun _ => True) (fun _ _ _ => trivial) _ _ (hfb.keep (Kept.alloc w4 (.cells #[.int .i64 y.op, .int .i64 y.num, .string (S y.text), .slice p' y.args.len c'] 24))))
    have HA5 := Lib.hid (HA.out _ hb5)
    have HB5 := Lib.hid hb5
    clear b4 hb4 hb5 hfb HR3 HX3 HF3 HB3
    go_wp2_with fail
    refine HA5.out.mono ?_
    rintro e w6 ⟨rfl, b6⟩
    have hb6 := HB5.out.trans (b6.mono HB5.out.size)
    have HB6 := Lib.hid hb6
    have HX6 := Lib.hid (HX5.out.keep (Kept.of_below (ok := fun _ => True) b6) trivial)
    have HY6 := Lib.hid (HY5.out.keep (Kept.of_below (ok := fun _ => True) b6) trivial)
    have HF6 := Lib.hid (HF5.out.keep (Kept.of_below (ok := fun _ => True) b6))
    have HG6 := Lib.hid (HG5.out.keep (Kept.of_below (ok := fun _ => True) b6))
    clear b6 hb6 HA5 HX5 HY5 HF5 HG5 HB5
    go_upto_region 8 with fail
    rw [HK.out]
    obtain ⟨W8, hW8⟩ : ∃ W8, W8 = ((w6.alloc (.cells #[.string ⟨#[124, 124]⟩, .string ⟨#[38, 38]⟩, .string ⟨#[61, 61]⟩, .string ⟨#[33, 61]⟩, .string ⟨#[60]⟩, .string ⟨#[60, 61]⟩, .string ⟨#[43]⟩, .string ⟨#[45]⟩, .string ⟨#[42]⟩, .string ⟨#[47]⟩, .string ⟨#[37]⟩] 9)).alloc (.cells #[.int .i64 41, .int .i64 40, .int .i64 30, .int .i64 31, .int .i64 32, .int .i64 33, .int .i64 23, .int .i64 24, .int .i64 20, .int .i64 21, .int .i64 22] 3)) := ⟨_, rfl⟩
    have k8 : Kept (fun _ => True) w6 W8 := by rw [hW8]; exact (Kept.alloc _ _).trans (Kept.alloc _ _)
    have hb8 : Below w.heap.size w W8 := by rw [hW8]; exact (HB6.out.alloc HB6.out.size _).alloc (by have := HB6.out.size; simp; omega) _
    have HW8 := Lib.hid hW8
    have HJ8 := Lib.hid (HJ.out W8 hb8)
    have HB8 := Lib.hid hb8
    have HX8 := Lib.hid (HX6.out.keep k8 trivial)
    have HY8 := Lib.hid (HY6.out.keep k8 trivial)
    have HF8 := Lib.hid (HF6.out.keep k8)
    have HG8 := Lib.hid (HG6.out.keep k8)
    clear k8 hb8 hW8 HX6 HY6 HF6 HG6 HB6
    go_upto_region 10 with fail
    rw [← HW8.out]
    go_wp2_with fail
    refine HJ8.out.mono ?_
    rintro e w9 ⟨⟨p9, c9, rfl, hfc⟩, b9⟩
    have hb9 := HB8.out.trans (b9.mono HB8.out.size)
    rcases hkk with rfl | rfl | rfl
    · obtain rfl := HZ.out rfl
      have hww := HWF.out rfl
      obtain ⟨W10, hW10⟩ : ∃ W10, W10 = w9.alloc (.cells #[.int .i64 24, .int .i64 0, .string (S []), .slice p9 2 c9] 24) := ⟨_, rfl⟩
      have k10 : Kept (fun _ => True) w9 W10 := by rw [hW10]; exact Kept.alloc _ _
      have hb10 : Below w.heap.size w W10 := by rw [hW10]; exact hb9.alloc hb9.size _
      have hx10 := (HX8.out.keep (Kept.of_below (ok := fun _ => True) b9) trivial).keep k10 trivial
      have hy10 := (HY8.out.keep (Kept.of_below (ok := fun _ => True) b9) trivial).keep k10 trivial
      have hz10 : Bx W10 w9.heap.size (.int .i64 24) (.int .i64 0) (.string (S [])) (.slice p9 2 c9) := by rw [hW10]; exact Bx.new _ _ _ _ _
      have hf10 := (HF8.out.keep (Kept.of_below (ok := fun _ => True) b9)).keep k10
      have hg10 := (HG8.out.keep (Kept.of_below (ok := fun _ => True) b9)).keep k10
      have hh10 := FAt.mono (ok' := fun _ => True) (fun _ _ _ => trivial) _ _ (hfc.keep (k10.mono fun _ _ => trivial))
      have hln : (W10.heap.size : Nat) = W10.heap.size := rfl
      have hnew : (W10.alloc (two8 x.op x.num x.text p x.args.len c y.op y.num y.text p' y.args.len c')).heap[W10.heap.size]? = some (two8 x.op x.num x.text p x.args.len c y.op y.num y.text p' y.args.len c') := heap_alloc_new W10 _
      have kn : Kept (fun _ => True) W10 (W10.alloc (two8 x.op x.num x.text p x.args.len c y.op y.num y.text p' y.args.len c')) := Kept.alloc _ _
      have htw : FAt (W10.alloc (two8 x.op x.num x.text p x.args.len c y.op y.num y.text p' y.args.len c')) (fun _ => True) (two x y) (some ⟨W10.heap.size, 0, none⟩) := FAt.two hnew trivial (hf10.keep kn) (hg10.keep kn)
      have HS := Lib.hid (same_any ⟨24, 0, [], two x y⟩ hww p9 (some ⟨W10.heap.size, 0, none⟩) c9 2 _ (hh10.keep kn) htw)
      have x0 := hx10.c0
      have x1 := hx10.c1
      have x2 := hx10.c2
      have x3 := hx10.c3
      have y0 := hy10.c0
      have y1 := hy10.c1
      have y2 := hy10.c2
      have y3 := hy10.c3
      have z0 := hz10.c0
      have z1 := hz10.c1
      have z2 := hz10.c2
      have z3 := hz10.c3
      have HW10 := Lib.hid hW10
      have HB10 := Lib.hid (hb10.alloc hb10.size (two8 x.op x.num x.text p x.args.len c y.op y.num y.text p' y.args.len c'))
      clear b9 hb9 hfc hW10 k10 hb10 hx10 hy10 hz10 hf10 hg10 hh10 hln hnew kn htw hww
      go_upto_region 11 with fail
      rw [show (w9.alloc (.cells #[.int .i64 24, .int .i64 0, .string (S []), .slice p9 (two x y).len c9] 24)) = W10 from HW10.out.symm]
      go_wp2_with fail
      refine HS.out.mono ?_
      rintro e w11 ⟨rfl, b11⟩
      have HB11 := Lib.hid (HB10.out.trans (b11.mono HB10.out.size))
      clear b11
      go_wp2_with fail
      go_ret
      exact ⟨rfl, HB11.out⟩
    all_goals
      have HB10 := Lib.hid (hb9.alloc hb9.size (.cells #[.int .i64 z.op, .int .i64 z.num, .string (S z.text), .slice p9 z.args.len c9] 24))
      clear b9 hb9 hfc
      go_wp2_with fail
      go_ret
      exact ⟨rfl, HB10.out⟩
end Go.Proofs.YtlmmfhbdebfgkaaGreatDoor.Ex
