/-
  Several texts in one: EvOwA, EvOwB, EvOwC, EvOwnW.
-/
import Derived.Test.YtchjckdjkecjnaaGreatDoorZTzO
namespace Go.Proofs.YtchjckdjkecjnaaGreatDoor.Ev
open Go.RowKit
open Ex Lx Va Ty
set_option linter.unusedVariables false
set_option linter.unusedSimpArgs false

set_option maxRecDepth 100000 in
set_option maxHeartbeats 4000000 in
theorem own_1 (t : T) (p : Option Addr) (c : Nat) (v : En) (r : Rows) (os : List V) (q : Option Addr) (cq : Nat) (w : World) (hfa : FAt w (fun _ => True) t.args p) (hfit : t.row.fits) (hnums : t.row.nums) (hen : EnAt w r.pa r.pv r.pn r.pf v) (hB : EnBig v) (hos : VsAt (· < w.heap.size) w q os) (hob : EnBig ⟨[], os, [], []⟩) (htab : Va.Tab w) (hC : ConsAt w) (h1 : smallV v = false) :
    Calls Tryz.prog 8 #[.agg #[.int .i64 t.op, .int .i64 t.num, .string (S t.text), .slice p t.args.len c], .agg (envC v r), .slice q os.length cq] w fun e w' => e = .returned (.bool true) ∧ Below w.heap.size w w' := by
  have hb1 := ((Below.refl w.heap.size w).alloc (Nat.le_refl _) (.cells #[.int .i64 t.op, .int .i64 t.num, .string (S t.text), .slice p t.args.len c] 28)).alloc (by simp) (.cells #[.slice r.pa v.attrs.length r.ca, .slice r.pv v.vals.length r.cv, .slice r.pn v.names.length r.cn, .slice r.pf v.fields.length r.cf] 48)
  have AW := Lib.hid (fun W (k : Below w.heap.size w W) => awake_any W (htab.below k) (hC.keep (Kept.of_below (ok := fun _ => True) k) trivial))
  have hosn : EnAt w none q none none ⟨[], os, [], []⟩ := ⟨fun i hi => absurd hi (Nat.not_lt_zero _), hos, fun i hi => absurd hi (Nat.not_lt_zero _), fun i hi => absurd hi (Nat.not_lt_zero _)⟩
  have EN := Lib.hid (fun W (k : Below w.heap.size w W) => show EnAt W r.pa r.pv r.pn r.pf v from ⟨hen.attrs.later k, fun i hi => by
    obtain ⟨b, off, e, hv, hl⟩ := (hen.vals.below k) i hi
    obtain ⟨q, c, h0, h1, h2, h3, h4⟩ := hv
    exact ⟨b, off, e, ⟨q, c, h0, h1, h2, h3, h4.mono fun g hg => Nat.lt_of_lt_of_le hg k.size⟩, hl⟩, hen.names.later k, fun i hi => by
    obtain ⟨b, off, e, hv, hl⟩ := (hen.fields.below k) i hi
    obtain ⟨q, c, h0, h1, h2, h3, h4⟩ := hv
    exact ⟨b, off, e, ⟨q, c, h0, h1, h2, h3, h4.mono fun g hg => Nat.lt_of_lt_of_le hg k.size⟩, hl⟩⟩)
  have ON := Lib.hid (fun W (k : Below w.heap.size w W) => show EnAt W none q none none ⟨[], os, [], []⟩ from ⟨fun i hi => absurd hi (Nat.not_lt_zero _), fun i hi => by
    obtain ⟨b, off, e, hv, hl⟩ := (hos.below k) i hi
    obtain ⟨q, c, h0, h1, h2, h3, h4⟩ := hv
    exact ⟨b, off, e, ⟨q, c, h0, h1, h2, h3, h4.mono fun g hg => Nat.lt_of_lt_of_le hg k.size⟩, hl⟩, fun i hi => absurd hi (Nat.not_lt_zero _), fun i hi => absurd hi (Nat.not_lt_zero _)⟩)
  have S1 := Lib.hid (fun W (k : Below w.heap.size w W) => small_any v r W (EN.out W k) hB)
  have S2 := Lib.hid (fun W (k : Below w.heap.size w W) => small_any ⟨[], os, [], []⟩ ⟨none, q, none, none, 0, cq, 0, 0⟩ W (ON.out W k) hob)
  have BXE := Lib.hid (show Bx ((w.alloc (.cells #[.int .i64 t.op, .int .i64 t.num, .string (S t.text), .slice p t.args.len c] 28)).alloc (.cells #[.slice r.pa v.attrs.length r.ca, .slice r.pv v.vals.length r.cv, .slice r.pn v.names.length r.cn, .slice r.pf v.fields.length r.cf] 48)) w.heap.size (.int .i64 t.op) (.int .i64 t.num) (.string (S t.text)) (.slice p t.args.len c) from laterE (Bx.new w _ _ _ _) ((Below.refl _ _).alloc (Nat.le_refl _) _))
  have BXV := Lib.hid (show EB ((w.alloc (.cells #[.int .i64 t.op, .int .i64 t.num, .string (S t.text), .slice p t.args.len c] 28)).alloc (.cells #[.slice r.pa v.attrs.length r.ca, .slice r.pv v.vals.length r.cv, .slice r.pn v.names.length r.cn, .slice r.pf v.fields.length r.cf] 48)) (w.heap.size + 1) v r from new_box (w.alloc (.cells #[.int .i64 t.op, .int .i64 t.num, .string (S t.text), .slice p t.args.len c] 28)) _ _ _ (by simp))
  have B1 := Lib.hid hb1
  rw [h1] at S1
  clear h1
  clear hb1 hosn hen hos htab hC hfa
  unfold envC at *
  simp only [List.length_nil] at S2
  go_enter Tryz.func8, Tryz.ntmps8
  go_wp2_with fail
  refine (AW.out _ B1.out).mono ?_
  rintro e w2 ⟨rfl, b2⟩
  have B2 := Lib.hid (B1.out.trans (b2.mono B1.out.size))
  have hv2 := BXV.out.later b2
  have q0 := hv2.c0
  have q1 := hv2.c1
  have q2 := hv2.c2
  have q3 := hv2.c3
  have BXE2 := Lib.hid (laterE BXE.out b2)
  have BXV2 := Lib.hid hv2
  clear b2 hv2
  go_wp2_with fail
  refine (S1.out w2 B2.out).mono ?_
  rintro e w3 ⟨rfl, b3⟩
  have B3 := Lib.hid (B2.out.trans (b3.mono B2.out.size))
  clear b3
  go_wp2_with fail
  refine (AW.out w3 B3.out).mono ?_
  rintro e w4 ⟨rfl, b4⟩
  have B4 := Lib.hid (B3.out.trans (b4.mono B3.out.size))
  clear b4
  go_wp2_with fail
  go_ret
  exact ⟨rfl, B4.out⟩

end Go.Proofs.YtchjckdjkecjnaaGreatDoor.Ev

namespace Go.Proofs.YtchjckdjkecjnaaGreatDoor.Ev
open Go.RowKit
open Ex Lx Va Ty
set_option linter.unusedVariables false
set_option linter.unusedSimpArgs false

set_option maxRecDepth 100000 in
set_option maxHeartbeats 4000000 in
theorem own_2 (t : T) (p : Option Addr) (c : Nat) (v : En) (r : Rows) (os : List V) (q : Option Addr) (cq : Nat) (w : World) (hfa : FAt w (fun _ => True) t.args p) (hfit : t.row.fits) (hnums : t.row.nums) (hen : EnAt w r.pa r.pv r.pn r.pf v) (hB : EnBig v) (hos : VsAt (· < w.heap.size) w q os) (hob : EnBig ⟨[], os, [], []⟩) (htab : Va.Tab w) (hC : ConsAt w) (h1 : smallV v = true) (h2 : smallV ⟨[], os, [], []⟩ = false) :
    Calls Tryz.prog 8 #[.agg #[.int .i64 t.op, .int .i64 t.num, .string (S t.text), .slice p t.args.len c], .agg (envC v r), .slice q os.length cq] w fun e w' => e = .returned (.bool true) ∧ Below w.heap.size w w' := by
  have hb1 := ((Below.refl w.heap.size w).alloc (Nat.le_refl _) (.cells #[.int .i64 t.op, .int .i64 t.num, .string (S t.text), .slice p t.args.len c] 28)).alloc (by simp) (.cells #[.slice r.pa v.attrs.length r.ca, .slice r.pv v.vals.length r.cv, .slice r.pn v.names.length r.cn, .slice r.pf v.fields.length r.cf] 48)
  have AW := Lib.hid (fun W (k : Below w.heap.size w W) => awake_any W (htab.below k) (hC.keep (Kept.of_below (ok := fun _ => True) k) trivial))
  have hosn : EnAt w none q none none ⟨[], os, [], []⟩ := ⟨fun i hi => absurd hi (Nat.not_lt_zero _), hos, fun i hi => absurd hi (Nat.not_lt_zero _), fun i hi => absurd hi (Nat.not_lt_zero _)⟩
  have EN := Lib.hid (fun W (k : Below w.heap.size w W) => show EnAt W r.pa r.pv r.pn r.pf v from ⟨hen.attrs.later k, fun i hi => by
    obtain ⟨b, off, e, hv, hl⟩ := (hen.vals.below k) i hi
    obtain ⟨q, c, h0, h1, h2, h3, h4⟩ := hv
    exact ⟨b, off, e, ⟨q, c, h0, h1, h2, h3, h4.mono fun g hg => Nat.lt_of_lt_of_le hg k.size⟩, hl⟩, hen.names.later k, fun i hi => by
    obtain ⟨b, off, e, hv, hl⟩ := (hen.fields.below k) i hi
    obtain ⟨q, c, h0, h1, h2, h3, h4⟩ := hv
    exact ⟨b, off, e, ⟨q, c, h0, h1, h2, h3, h4.mono fun g hg => Nat.lt_of_lt_of_le hg k.size⟩, hl⟩⟩)
  have ON := Lib.hid (fun W (k : Below w.heap.size w W) => show EnAt W none q none none ⟨[], os, [], []⟩ from ⟨fun i hi => absurd hi (Nat.not_lt_zero _), fun i hi => by
    obtain ⟨b, off, e, hv, hl⟩ := (hos.below k) i hi
    obtain ⟨q, c, h0, h1, h2, h3, h4⟩ := hv
    exact ⟨b, off, e, ⟨q, c, h0, h1, h2, h3, h4.mono fun g hg => Nat.lt_of_lt_of_le hg k.size⟩, hl⟩, fun i hi => absurd hi (Nat.not_lt_zero _), fun i hi => absurd hi (Nat.not_lt_zero _)⟩)
  have S1 := Lib.hid (fun W (k : Below w.heap.size w W) => small_any v r W (EN.out W k) hB)
  have S2 := Lib.hid (fun W (k : Below w.heap.size w W) => small_any ⟨[], os, [], []⟩ ⟨none, q, none, none, 0, cq, 0, 0⟩ W (ON.out W k) hob)
  have BXE := Lib.hid (show Bx ((w.alloc (.cells #[.int .i64 t.op, .int .i64 t.num, .string (S t.text), .slice p t.args.len c] 28)).alloc (.cells #[.slice r.pa v.attrs.length r.ca, .slice r.pv v.vals.length r.cv, .slice r.pn v.names.length r.cn, .slice r.pf v.fields.length r.cf] 48)) w.heap.size (.int .i64 t.op) (.int .i64 t.num) (.string (S t.text)) (.slice p t.args.len c) from laterE (Bx.new w _ _ _ _) ((Below.refl _ _).alloc (Nat.le_refl _) _))
  have BXV := Lib.hid (show EB ((w.alloc (.cells #[.int .i64 t.op, .int .i64 t.num, .string (S t.text), .slice p t.args.len c] 28)).alloc (.cells #[.slice r.pa v.attrs.length r.ca, .slice r.pv v.vals.length r.cv, .slice r.pn v.names.length r.cn, .slice r.pf v.fields.length r.cf] 48)) (w.heap.size + 1) v r from new_box (w.alloc (.cells #[.int .i64 t.op, .int .i64 t.num, .string (S t.text), .slice p t.args.len c] 28)) _ _ _ (by simp))
  have B1 := Lib.hid hb1
  rw [h1] at S1
  rw [h2] at S2
  clear h1 h2
  clear hb1 hosn hen hos htab hC hfa
  unfold envC at *
  simp only [List.length_nil] at S2
  go_enter Tryz.func8, Tryz.ntmps8
  go_wp2_with fail
  refine (AW.out _ B1.out).mono ?_
  rintro e w2 ⟨rfl, b2⟩
  have B2 := Lib.hid (B1.out.trans (b2.mono B1.out.size))
  have hv2 := BXV.out.later b2
  have q0 := hv2.c0
  have q1 := hv2.c1
  have q2 := hv2.c2
  have q3 := hv2.c3
  have BXE2 := Lib.hid (laterE BXE.out b2)
  have BXV2 := Lib.hid hv2
  clear b2 hv2
  go_wp2_with fail
  refine (S1.out w2 B2.out).mono ?_
  rintro e w3 ⟨rfl, b3⟩
  have B3 := Lib.hid (B2.out.trans (b3.mono B2.out.size))
  clear b3
  go_wp2_with fail
  refine (S2.out w3 B3.out).mono ?_
  rintro e w4 ⟨rfl, b4⟩
  have B4 := Lib.hid (B3.out.trans (b4.mono B3.out.size))
  clear b4
  go_wp2_with fail
  refine (AW.out w4 B4.out).mono ?_
  rintro e w5 ⟨rfl, b5⟩
  have B5 := Lib.hid (B4.out.trans (b5.mono B4.out.size))
  clear b5
  go_wp2_with fail
  go_ret
  exact ⟨rfl, B5.out⟩

end Go.Proofs.YtchjckdjkecjnaaGreatDoor.Ev

namespace Go.Proofs.YtchjckdjkecjnaaGreatDoor.Ev
open Go.RowKit
open Ex Lx Va Ty
set_option linter.unusedVariables false
set_option linter.unusedSimpArgs false

set_option maxRecDepth 100000 in
set_option maxHeartbeats 4000000 in
theorem own_3 (t : T) (p : Option Addr) (c : Nat) (v : En) (r : Rows) (os : List V) (q : Option Addr) (cq : Nat) (w : World) (hfa : FAt w (fun _ => True) t.args p) (hfit : t.row.fits) (hnums : t.row.nums) (hen : EnAt w r.pa r.pv r.pn r.pf v) (hB : EnBig v) (hos : VsAt (· < w.heap.size) w q os) (hob : EnBig ⟨[], os, [], []⟩) (htab : Va.Tab w) (hC : ConsAt w) (h1 : smallV v = true) (h2 : smallV ⟨[], os, [], []⟩ = true) :
    Calls Tryz.prog 8 #[.agg #[.int .i64 t.op, .int .i64 t.num, .string (S t.text), .slice p t.args.len c], .agg (envC v r), .slice q os.length cq] w fun e w' => e = .returned (.bool true) ∧ Below w.heap.size w w' := by
  obtain ⟨pa, pv, pn, pf, ca, cv, cn, cf⟩ := r
  have hen : EnAt w pa pv pn pf v := hen
  have hb1 := ((Below.refl w.heap.size w).alloc (Nat.le_refl _) (.cells #[.int .i64 t.op, .int .i64 t.num, .string (S t.text), .slice p t.args.len c] 28)).alloc (by simp) (.cells #[.slice pa v.attrs.length ca, .slice pv v.vals.length cv, .slice pn v.names.length cn, .slice pf v.fields.length cf] 48)
  have AW := Lib.hid (fun W (k : Below w.heap.size w W) => awake_any W (htab.below k) (hC.keep (Kept.of_below (ok := fun _ => True) k) trivial))
  have hosn : EnAt w none q none none ⟨[], os, [], []⟩ := ⟨fun i hi => absurd hi (Nat.not_lt_zero _), hos, fun i hi => absurd hi (Nat.not_lt_zero _), fun i hi => absurd hi (Nat.not_lt_zero _)⟩
  have EN := Lib.hid (fun W (k : Below w.heap.size w W) => show EnAt W pa pv pn pf v from ⟨hen.attrs.later k, fun i hi => by
    obtain ⟨b, off, e, hv, hl⟩ := (hen.vals.below k) i hi
    obtain ⟨q, c, h0, h1, h2, h3, h4⟩ := hv
    exact ⟨b, off, e, ⟨q, c, h0, h1, h2, h3, h4.mono fun g hg => Nat.lt_of_lt_of_le hg k.size⟩, hl⟩, hen.names.later k, fun i hi => by
    obtain ⟨b, off, e, hv, hl⟩ := (hen.fields.below k) i hi
    obtain ⟨q, c, h0, h1, h2, h3, h4⟩ := hv
    exact ⟨b, off, e, ⟨q, c, h0, h1, h2, h3, h4.mono fun g hg => Nat.lt_of_lt_of_le hg k.size⟩, hl⟩⟩)
  have ON := Lib.hid (fun W (k : Below w.heap.size w W) => show EnAt W none q none none ⟨[], os, [], []⟩ from ⟨fun i hi => absurd hi (Nat.not_lt_zero _), fun i hi => by
    obtain ⟨b, off, e, hv, hl⟩ := (hos.below k) i hi
    obtain ⟨q, c, h0, h1, h2, h3, h4⟩ := hv
    exact ⟨b, off, e, ⟨q, c, h0, h1, h2, h3, h4.mono fun g hg => Nat.lt_of_lt_of_le hg k.size⟩, hl⟩, fun i hi => absurd hi (Nat.not_lt_zero _), fun i hi => absurd hi (Nat.not_lt_zero _)⟩)
  have S1 := Lib.hid (fun W (k : Below w.heap.size w W) => small_any v ⟨pa, pv, pn, pf, ca, cv, cn, cf⟩ W (EN.out W k) hB)
  have S2 := Lib.hid (fun W (k : Below w.heap.size w W) => small_any ⟨[], os, [], []⟩ ⟨none, q, none, none, 0, cq, 0, 0⟩ W (ON.out W k) hob)
  have BXE := Lib.hid (show Bx ((w.alloc (.cells #[.int .i64 t.op, .int .i64 t.num, .string (S t.text), .slice p t.args.len c] 28)).alloc (.cells #[.slice pa v.attrs.length ca, .slice pv v.vals.length cv, .slice pn v.names.length cn, .slice pf v.fields.length cf] 48)) w.heap.size (.int .i64 t.op) (.int .i64 t.num) (.string (S t.text)) (.slice p t.args.len c) from laterE (Bx.new w _ _ _ _) ((Below.refl _ _).alloc (Nat.le_refl _) _))
  have BXV := Lib.hid (show EB ((w.alloc (.cells #[.int .i64 t.op, .int .i64 t.num, .string (S t.text), .slice p t.args.len c] 28)).alloc (.cells #[.slice pa v.attrs.length ca, .slice pv v.vals.length cv, .slice pn v.names.length cn, .slice pf v.fields.length cf] 48)) (w.heap.size + 1) v ⟨pa, pv, pn, pf, ca, cv, cn, cf⟩ from new_box (w.alloc (.cells #[.int .i64 t.op, .int .i64 t.num, .string (S t.text), .slice p t.args.len c] 28)) _ _ _ (by simp))
  have B1 := Lib.hid hb1
  rw [h1] at S1
  rw [h2] at S2
  have OF := Lib.hid (fun W (k : Below w.heap.size w W) => evOf_any v ⟨pa, pv, pn, pf, ca, cv, cn, cf⟩ (hB.fit h1) t hfit hnums p c W (EN.out W k) (hfa.keep (Kept.of_below k)) (htab.below k) (hC.keep (Kept.of_below (ok := fun _ => True) k) trivial))
  have OF2 := Lib.hid (fun (ws : List V) (hf : EnFit { v with vals := ws }) (a : Option Addr) (c' : Nat) W (k : Below w.heap.size w W) (hv : VsAt (· < W.heap.size) W a ws) => show Calls Tryz.prog 14 #[.agg #[.int .i64 t.op, .int .i64 t.num, .string (S t.text), .slice p t.args.len c], .agg #[.slice pa v.attrs.length ca, .slice a ws.length c', .slice pn v.names.length cn, .slice pf v.fields.length cf]] W fun e w' => OfR W.heap.size (evM { v with vals := ws } t) e w' ∧ Below W.heap.size W w' from
    evOf_any { v with vals := ws } ⟨pa, a, pn, pf, ca, c', cn, cf⟩ hf t hfit hnums p c W ⟨(EN.out W k).attrs, hv, (EN.out W k).names, (EN.out W k).fields⟩ (hfa.keep (Kept.of_below k)) (htab.below k) (hC.keep (Kept.of_below (ok := fun _ => True) k) trivial))
  have NM := Lib.hid (fun (a : List UInt8) W (k : Below w.heap.size w W) => names_any a w t hfit p c W k hfa)
  have FIT := Lib.hid (hB.fit h1)
  have SM1 := Lib.hid h1
  have SM2 := Lib.hid h2
  have GX := Lib.hid (evM_good v (hB.fit h1) t hnums)
  have NUMS := Lib.hid hnums
  have HEN := Lib.hid hen
  have HOS := Lib.hid hos
  clear h1 h2
  clear hb1 hosn hen hos htab hC hfa
  unfold envC at *
  dsimp only at *
  simp only [List.length_nil] at S2
  go_enter Tryz.func8, Tryz.ntmps8
  go_wp2_with fail
  refine (AW.out _ B1.out).mono ?_
  rintro e w2 ⟨rfl, b2⟩
  have B2 := Lib.hid (B1.out.trans (b2.mono B1.out.size))
  have hv2 := BXV.out.later b2
  have q0 := hv2.c0
  have q1 := hv2.c1
  have q2 := hv2.c2
  have q3 := hv2.c3
  have BXE2 := Lib.hid (laterE BXE.out b2)
  have BXV2 := Lib.hid hv2
  clear b2 hv2
  go_wp2_with fail
  refine (S1.out w2 B2.out).mono ?_
  rintro e w3 ⟨rfl, b3⟩
  have B3 := Lib.hid (B2.out.trans (b3.mono B2.out.size))
  have BXE3 := Lib.hid (laterE BXE2.out b3)
  have BXV3 := Lib.hid (BXV2.out.later b3)
  clear b3
  go_wp2_with fail
  refine (S2.out w3 B3.out).mono ?_
  rintro e w4 ⟨rfl, b4⟩
  have B4 := Lib.hid (B3.out.trans (b4.mono B3.out.size))
  have BXE4 := Lib.hid (laterE BXE3.out b4)
  have BXV4 := Lib.hid (BXV3.out.later b4)
  have p0 := BXE4.out.c0
  have p1 := BXE4.out.c1
  have p2 := BXE4.out.c2
  have p3 := BXE4.out.c3
  have q0 := BXV4.out.c0
  have q1 := BXV4.out.c1
  have q2 := BXV4.out.c2
  have q3 := BXV4.out.c3
  clear b4
  go_wp2_with fail
  refine (OF.out w4 B4.out).mono ?_
  rintro e w5 ⟨⟨a5, c5, rfl, hn5⟩, b5⟩
  obtain ⟨X, hX⟩ : ∃ X, X = evM v t := ⟨_, rfl⟩
  rw [← hX] at hn5 ⊢
  have HXX := Lib.hid hX
  clear hX
  obtain ⟨⟨xk, xn, xt, xl⟩, er⟩ := X
  simp only at hn5
  have B5 := Lib.hid (B4.out.trans (b5.mono B4.out.size))
  have BXE5 := Lib.hid (laterE BXE4.out b5)
  have BXV5 := Lib.hid (BXV4.out.later b5)
  have HN5 := Lib.hid hn5
  have q0 := BXV5.out.c0
  have q1 := BXV5.out.c1
  have q2 := BXV5.out.c2
  have q3 := BXV5.out.c3
  have zb : ∀ o j, (w5.alloc o).cell? ⟨w.heap.size + 1, j, none⟩ = w5.cell? ⟨w.heap.size + 1, j, none⟩ := fun o j => zcell w5 o _ j BXV5.out.lt
  have zb2 : ∀ o o2 j, ((w5.alloc o).alloc o2).cell? ⟨w.heap.size + 1, j, none⟩ = w5.cell? ⟨w.heap.size + 1, j, none⟩ := fun o o2 j => (zcell (w5.alloc o) o2 _ j (by have := BXV5.out.lt; simp; omega)).trans (zb o j)
  have hb6 := ((Below.refl w5.heap.size w5).alloc (Nat.le_refl _) (.cells #[.int .i64 xk, .int .i64 xn, .string (S xt), .slice a5 xl.length c5] 45)).alloc (by simp) (.cells #[.slice pa v.attrs.length ca, .slice pv v.vals.length cv, .slice pn v.names.length cn, .slice pf v.fields.length cf] 48)
  have hsz6 : ((w5.alloc (.cells #[.int .i64 xk, .int .i64 xn, .string (S xt), .slice a5 xl.length c5] 45)).alloc (.cells #[.slice pa v.attrs.length ca, .slice pv v.vals.length cv, .slice pn v.names.length cn, .slice pf v.fields.length cf] 48)).heap.size = w5.heap.size + 1 + 1 := by simp
  have hn50 : v.vals.length ≤ 50 := by
    have h := SM1.out
    unfold smallV at h
    simp only [Bool.and_eq_true] at h
    exact ((few_iff v).1 h.1.1).2.2.1
  have hno : os.length ≤ 50 := by
    have h := SM2.out
    unfold smallV at h
    simp only [Bool.and_eq_true] at h
    exact ((few_iff _).1 h.1.1).2.2.1
  obtain ⟨ga, gc, w7, hrun, hcpy, hb7⟩ := app_env (· < w.heap.size) ((w5.alloc (.cells #[.int .i64 xk, .int .i64 xn, .string (S xt), .slice a5 xl.length c5] 45)).alloc (.cells #[.slice pa v.attrs.length ca, .slice pv v.vals.length cv, .slice pn v.names.length cn, .slice pf v.fields.length cf] 48)) v.vals (by omega) pv cv (HEN.out.vals.below (B5.out.trans (hb6.mono B5.out.size)))
  have hwb : EC w7 (w5.heap.size + 1) (.slice pa v.attrs.length ca) (.slice pv v.vals.length cv) (.slice pn v.names.length cn) (.slice pf v.fields.length cf) := EC.at_ (new_box (w5.alloc (.cells #[.int .i64 xk, .int .i64 xn, .string (S xt), .slice a5 xl.length c5] 45)) _ _ (w5.heap.size + 1) (by simp)) hb7 (by simp)
  have hb67 := hb6.trans (hb7.mono hb6.size)
  have hxb : VB w7 w5.heap.size (.int .i64 xk) (.int .i64 xn) (.string (S xt)) (.slice a5 xl.length c5) := vb_atE (vb_atE (VB.new w5 _ _ _ _ _ rfl) ((Below.refl (w5.alloc (.cells #[.int .i64 xk, .int .i64 xn, .string (S xt), .slice a5 xl.length c5] 45)).heap.size _).alloc (Nat.le_refl _) (.cells #[.slice pa v.attrs.length ca, .slice pv v.vals.length cv, .slice pn v.names.length cn, .slice pf v.fields.length cf] 48)) (by simp)) hb7 (by simp; omega)
  have hve : EC w7 (w.heap.size + 1) (.slice pa v.attrs.length ca) (.slice pv v.vals.length cv) (.slice pn v.names.length cn) (.slice pf v.fields.length cf) := EC.at_ (show EC w5 _ _ _ _ _ from BXV5.out) hb67 BXV5.out.lt
  have hee := bx_atE BXE5.out hb67 BXE5.out.lt
  have hlt5 := BXV5.out.lt
  have fz := hwb.fz
  have r1 := hwb.c1
  have HWB := Lib.hid (hwb.set1 (.slice ga v.vals.length gc))
  have HXB := Lib.hid (vb_othE hxb (w5.heap.size + 1) 1 (.slice ga v.vals.length gc) (by omega))
  have HVE := Lib.hid (hve.oth (w5.heap.size + 1) 1 (.slice ga v.vals.length gc) (by omega))
  have HEE := Lib.hid (bx_othE hee (w5.heap.size + 1) 1 (.slice ga v.vals.length gc) (by omega))
  have B8 := Lib.hid ((B5.out.trans (hb67.mono B5.out.size)).setCell (p := ⟨w5.heap.size + 1, 1, none⟩) (by show w.heap.size ≤ w5.heap.size + 1; omega) (.slice ga v.vals.length gc))
  have HN8 := Lib.hid (HN5.out.1.below (hb67.setCell (p := ⟨w5.heap.size + 1, 1, none⟩) (by show w5.heap.size ≤ w5.heap.size + 1; omega) (.slice ga v.vals.length gc)))
  have HRUN := Lib.hid hrun
  have HSZ6 := Lib.hid hsz6
  have s0 := HVE.out.c0
  clear b5 hn5 p0 p1 p2 p3 hb6 hb7 hb67 hwb hxb hve hee hrun hsz6
  unfold valC
  go_wp2_with (at_builtin; refine wpList_app rfl _ _ _ _ rfl rfl rfl _ _ HRUN.out ?_)
  have B88 := Lib.hid (Below.refl (w5.heap.size + 1 + 1) (w7.setCell ⟨w5.heap.size + 1, 1, none⟩ (.slice ga v.vals.length gc)))
  have CPY := Lib.hid (show Cpy (· < w.heap.size) (w5.heap.size + 1 + 1) (w7.setCell ⟨w5.heap.size + 1, 1, none⟩ (.slice ga v.vals.length gc)) ga gc v.vals by
    have hc := hcpy
    rw [HSZ6.out] at hc
    rcases hc with hc | ⟨G, hG, hGB, hGl, cur, hcu, hcs, hce⟩
    · exact .inl hc
    · refine .inr ⟨G, hG, hGB, hGl, cur, (heap_setCell_other w7 ⟨w5.heap.size + 1, 1, none⟩ G _ (by simp; omega)).trans hcu, hcs, fun i hi => ?_⟩
      obtain ⟨a', c', e0, e1, e2, e3, e4⟩ := hce i hi
      exact ⟨a', c', e0, e1, e2, e3, e4.keep (Kept.set w7 (w5.heap.size + 1) 1 _ (by show ¬ _ < w.heap.size; have := hlt5; omega))⟩)
  have hka : (v.attrs.length : Int) ≤ 281474976710656 := by have := FIT.out.attrs; omega
  clear hcpy
  obtain ⟨W8, hW8⟩ : ∃ W8, W8 = (w7.setCell ⟨w5.heap.size + 1, 1, none⟩ (.slice ga v.vals.length gc)) := ⟨_, rfl⟩
  rw [← hW8] at HWB HXB HVE HEE B8 HN8 s0 B88 CPY
  rw [← hW8]
  clear hW8 fz r1 q0 q1 q2 q3 zb zb2 HRUN
  go_loopw [40] (fun iv wr => ∃ (k : Nat) (ws : List V), k ≤ v.attrs.length ∧ iv = .int .i64 k ∧ ws.length = v.vals.length ∧ Cpy (· < w.heap.size) (w5.heap.size + 1 + 1) wr ga gc ws ∧ (∀ x ∈ ws, x ∈ v.vals ∨ x ∈ os) ∧ (∀ i, (hi : i < v.attrs.length) → v.attrs[i].name ∈ namesT 6 t → v.vals[i]? = ws[i]?) ∧ Below (w5.heap.size + 1 + 1) W8 wr) (fun iv _ => v.attrs.length - (intOf iv).toNat)
  case atStart => exact ⟨0, v.vals, Nat.zero_le _, rfl, rfl, CPY.out, (fun x hx => .inl hx), (fun i hi _ => rfl), B88.out⟩
  case round =>
    obtain ⟨k, ws, hk, rfl, hwl, hcp, hwx, hwn, hbr⟩ := hrel
    have hbw := B8.out.trans (hbr.mono (by omega))
    have hwb := HWB.out.at_ hbr (by omega)
    have hee := bx_atE HEE.out hbr (by omega)
    have r1 := hwb.c1
    by_cases hlt : k < v.attrs.length
    · have hlti : (k : Int) < (v.attrs.length : Int) := by omega
      obtain ⟨b, o, rfl, hbl, f0, f1, f2⟩ := (EN.out wr hbw).attrs k hlt
      obtain ⟨y, hy⟩ : ∃ y, y = v.attrs[k] := ⟨_, rfl⟩
      rw [← hy] at f0 f1 f2
      have ba := (Below.refl wr.heap.size wr).alloc (Nat.le_refl _) (.cells #[.string (S y.name), .int .i64 y.kind, .string (S y.enum)] 42)
      have zw : ∀ o j, (wr.alloc o).cell? ⟨w5.heap.size + 1, j, none⟩ = wr.cell? ⟨w5.heap.size + 1, j, none⟩ := fun o j => zcell wr o _ j hwb.lt
      have ze : ∀ o j, (wr.alloc o).cell? ⟨w.heap.size, j, none⟩ = wr.cell? ⟨w.heap.size, j, none⟩ := fun o j => zcell wr o _ j hee.lt
      have p0 := hee.c0
      have p1 := hee.c1
      have p2 := hee.c2
      have p3 := hee.c3
      have NMC := Lib.hid (NM.out y.name (wr.alloc (.cells #[.string (S y.name), .int .i64 y.kind, .string (S y.enum)] 42)) (hbw.trans (ba.mono hbw.size)))
      have HY := Lib.hid hy
      have HCP := Lib.hid hcp
      have HWX := Lib.hid hwx
      have HWN := Lib.hid hwn
      have HBR := Lib.hid hbr
      have HBW := Lib.hid hbw
      have HBA := Lib.hid ba
      have HRB := Lib.hid (show Below (w5.heap.size + 1 + 1) W8 (wr.alloc (.cells #[.string (S y.name), .int .i64 y.kind, .string (S y.enum)] 42)) from hbr.alloc (Nat.le_trans (by have := hwb.lt; omega) (Nat.le_refl _)) _)
      have HWBR := Lib.hid hwb
      clear hcp hwx hwn hbr hbw ba hwb hee hy
      have go_skip : ∀ (W : World), Below wr.heap.size wr W → ∃ (k' : Nat) (ws' : List V), k' ≤ v.attrs.length ∧ Value.int .i64 ((k : Int) + 1) = .int .i64 k' ∧ ws'.length = v.vals.length ∧ Cpy (· < w.heap.size) (w5.heap.size + 1 + 1) W ga gc ws' ∧ (∀ x ∈ ws', x ∈ v.vals ∨ x ∈ os) ∧ (∀ i, (hi : i < v.attrs.length) → v.attrs[i].name ∈ namesT 6 t → v.vals[i]? = ws'[i]?) ∧ Below (w5.heap.size + 1 + 1) W8 W := fun W kk =>
        ⟨k + 1, ws, by omega, by simp, hwl, HCP.out.later kk, HWX.out, HWN.out, HBR.out.trans (kk.mono (by have := HWBR.out.lt; omega))⟩
      have GS := Lib.hid go_skip
      clear go_skip
      by_cases hk1 : k < v.vals.length
      · by_cases hk2 : k < os.length
        · have g1 : decide ((k : Int) < (v.vals.length : Int)) = true := decide_eq_true (by omega)
          have g2 : decide ((k : Int) < (os.length : Int)) = true := decide_eq_true (by omega)
          cases hnm : nmT y.name t with
          | true =>
            rw [hnm] at NMC
            clear hnm
            go_wp2_with fail
            refine NMC.out.mono ?_
            rintro e w9 ⟨rfl, b9⟩
            have HB9 := Lib.hid (HBA.out.trans (b9.mono HBA.out.size))
            clear b9
            go_wp2_with fail
            go_roundw
            case rel =>
              have h := GS.out _ HB9.out
              simpa using h
            case measure => simp [intOf]; omega
          | false =>
            rw [hnm] at NMC
            have HNM := Lib.hid (show y.name ∉ namesT 6 t from fun h => by
              have h1 := (nmT_mem y.name t).2 h
              rw [hnm] at h1
              cases h1)
            clear hnm
            go_wp2_with fail
            refine NMC.out.mono ?_
            rintro e w9 ⟨rfl, b9⟩
            have hb9 := HBA.out.trans (b9.mono HBA.out.size)
            have hbw9 := HBW.out.trans (hb9.mono HBW.out.size)
            have hwb9 := HWBR.out.at_ hb9 HWBR.out.lt
            have r1 := hwb9.c1
            have hcp9 := HCP.out.later hb9
            rcases hcp9 with hc | ⟨G, hG, hGB, hGl, hrow⟩
            · rw [hc] at hwl
              simp at hwl; omega
            subst hG
            obtain ⟨u0, g0⟩ := hrow.room k 0 (by omega) (by omega)
            obtain ⟨u1, g1'⟩ := hrow.room k 1 (by omega) (by omega)
            obtain ⟨u2, g2'⟩ := hrow.room k 2 (by omega) (by omega)
            obtain ⟨u3, g3⟩ := hrow.room k 3 (by omega) (by omega)
            rw [Nat.add_zero] at g0
            have fz := hrow.fz
            obtain ⟨ob, oo, rfl, ⟨oa, oc, o0, o1, o2, o3, o4⟩, hol⟩ := (HOS.out.below hbw9) k hk2
            obtain ⟨z, hz⟩ : ∃ z, z = os[k] := ⟨_, rfl⟩
            have hzm : z ∈ os := by rw [hz]; exact List.getElem_mem hk2
            rw [← hz] at o0 o1 o2 o3 o4
            have hd9 := (Below.refl w9.heap.size w9).drew
            have HR9 := Lib.hid ((hrow.later hd9).set (by show ¬ G < w.heap.size; omega) k (by omega) (by omega) z oa oc (o4.below hd9))
            have HB9 := Lib.hid (putV_below ((HBR.out.trans (hb9.mono (by have := HWBR.out.lt; omega))).drew) G k hGB z oa oc)
            have HZM := Lib.hid hzm
            clear hb9 hbw9 hwb9 hrow b9 o4 hz hzm hd9
            obtain ⟨zk, zn, zt, zl⟩ := z
            simp only at o0 o1 o2 o3
            go_wp2_with fail
            go_region
            go_wp2_with fail
            go_roundw
            case rel => exact ⟨k + 1, ws.set k ⟨zk, zn, zt, zl⟩, by omega, by go_num, by rw [List.length_set]; exact hwl, .inr ⟨G, rfl, hGB, by rw [List.length_set]; exact hGl, HR9.out⟩, (fun x hx => by
              rcases List.mem_or_eq_of_mem_set hx with hx | hx
              · exact HWX.out x hx
              · rw [hx]; exact .inr HZM.out), (fun i hi hn => by
              by_cases e : i = k
              · subst e; exact absurd (by rw [HY.out]; exact hn) HNM.out
              · rw [List.getElem?_set_ne (Ne.symm e)]; exact HWN.out i hi hn), HB9.out⟩
            case measure => simp [intOf]; omega
        · have g1 : decide ((k : Int) < (v.vals.length : Int)) = true := decide_eq_true (by omega)
          have g2 : decide ((k : Int) < (os.length : Int)) = false := decide_eq_false (by omega)
          go_wp2_with fail
          go_roundw
          case rel =>
            have h := GS.out _ HBA.out
            simpa using h
          case measure => simp [intOf]; omega
      · have g1 : decide ((k : Int) < (v.vals.length : Int)) = false := decide_eq_false (by omega)
        go_wp2_with fail
        go_roundw
        case rel =>
          have h := GS.out _ HBA.out
          simpa using h
        case measure => simp [intOf]; omega
    · have hlti : ¬ (k : Int) < (v.attrs.length : Int) := by omega
      have hwb2 := hwb.c1
      have r0 := hwb.c0
      have r2 := hwb.c2
      have r3 := hwb.c3
      have p0 := hee.c0
      have p1 := hee.c1
      have p2 := hee.c2
      have p3 := hee.c3
      have hfit2 : EnFit { v with vals := ws } := ⟨FIT.out.attrs, by show ws.length ≤ _; rw [hwl]; exact FIT.out.vals, FIT.out.names, FIT.out.fields, fun x hx => by
        rcases hwx x hx with hx | hx
        · exact FIT.out.gvals x hx
        · have h := hob.ok x hx
          have h2 := SM2.out
          unfold smallV at h2
          simp only [Bool.and_eq_true, List.all_eq_true] at h2
          exact ⟨h2.1.2 x hx, h.2.1, h.2.2⟩, FIT.out.gfields⟩
      have hcall := OF2.out ws hfit2 ga gc wr hbw (fun i hi => by
        obtain ⟨b, off, e, ⟨q, c, h0, h1, h2, h3, h4⟩, hl⟩ := hcp.vs i hi
        exact ⟨b, off, e, ⟨q, c, h0, h1, h2, h3, h4.mono fun g hg => Nat.lt_of_lt_of_le hg hbw.size⟩, hl⟩)
      have hoth : evM v t = evM { v with vals := ws } t := ev_other v ws hwl.symm t hwn
      rw [hwl, ← hoth, ← HXX.out] at hcall
      have HCALL := Lib.hid hcall
      have HBW := Lib.hid hbw
      have HXR := Lib.hid (vb_atE HXB.out hbr (by omega))
      have HNR := Lib.hid (nums_at HN8.out (fun g off e hl => Nat.lt_of_lt_of_le (nums_lt HN5.out.1 g off e hl) (by omega)) hbr)
      clear hcp hwx hwn hbr hbw hwb hee hcall hfit2 hoth r1
      go_wp2_with fail
      refine HCALL.out.mono ?_
      rintro e w9 ⟨⟨a9, c9, rfl, hn9⟩, b9⟩
      simp only at hn9
      have bb := (Below.refl w9.heap.size w9).alloc (Nat.le_refl _) (.cells #[.int .i64 xk, .int .i64 xn, .string (S xt), .slice a9 xl.length c9] 45)
      have HBA := Lib.hid (HBW.out.trans ((b9.trans (bb.mono b9.size)).mono HBW.out.size))
      have HX9 := Lib.hid ((HXR.out.later b9).later bb)
      have HN9 := Lib.hid ((HNR.out.below b9).below bb)
      have HY9 := Lib.hid (hn9.1.below bb)
      have HYB := Lib.hid (VB.new w9 (.int .i64 xk) (.int .i64 xn) (.string (S xt)) (.slice a9 xl.length c9) _ rfl)
      have AW9 := Lib.hid (AW.out _ HBA.out)
      have hgv : VOk ⟨xk, xn, xt, xl⟩ := by
        have := GX.out
        rw [← HXX.out] at this
        exact this.vok
      have HGV := Lib.hid hgv
      clear b9 bb hn9 hgv
      unfold valC
      go_wp2_with fail
      refine AW9.out.mono ?_
      rintro e w10 ⟨rfl, b10⟩
      have hx10 := HX9.out.later b10
      have hy10 := HYB.out.later b10
      have x0 := hx10.c0
      have x1 := hx10.c1
      have x2 := hx10.c2
      have x3 := hx10.c3
      have y0 := hy10.c0
      have y1 := hy10.c1
      have y2 := hy10.c2
      have y3 := hy10.c3
      have HB10 := Lib.hid (HBA.out.trans (b10.mono HBA.out.size))
      have HSM := Lib.hid (refSame_any ⟨xk, xn, xt, xl⟩ ⟨xk, xn, xt, xl⟩ HGV.out HGV.out a5 a9 c5 c9 w10 (HN9.out.below b10) (HY9.out.below b10))
      have hsv : sameV ⟨xk, xn, xt, xl⟩ ⟨xk, xn, xt, xl⟩ = true := (sameV_iff _ _).2 rfl
      rw [hsv] at HSM
      unfold valC at HSM
      simp only at HSM
      clear b10 hx10 hy10 hsv
      go_wp2_with fail
      refine HSM.out.mono ?_
      rintro e w11 ⟨rfl, b11⟩
      have HB11 := Lib.hid (HB10.out.trans (b11.mono HB10.out.size))
      clear b11
      go_wp2_with fail
      go_ret
      exact ⟨rfl, HB11.out⟩

end Go.Proofs.YtchjckdjkecjnaaGreatDoor.Ev

namespace Go.Proofs.YtchjckdjkecjnaaGreatDoor.Ev
open Go.RowKit
open Ex Lx Va Ty

theorem EvalOwn_walk (t : T) (p : Option Addr) (c : Nat) (v : En) (r : Rows) (os : List V) (q : Option Addr) (cq : Nat) (w : World) (hfa : FAt w (fun _ => True) t.args p) (hfit : t.row.fits) (hnums : t.row.nums) (hen : EnAt w r.pa r.pv r.pn r.pf v) (hB : EnBig v) (hos : VsAt (· < w.heap.size) w q os) (hob : EnBig ⟨[], os, [], []⟩) (htab : Va.Tab w) (hC : ConsAt w) :
    Calls Tryz.prog 8 #[.agg #[.int .i64 t.op, .int .i64 t.num, .string (S t.text), .slice p t.args.len c], .agg (envC v r), .slice q os.length cq] w fun e w' => e = .returned (.bool true) ∧ Below w.heap.size w w' := by
  cases h1 : smallV v with
  | false => exact own_1 t p c v r os q cq w hfa hfit hnums hen hB hos hob htab hC h1
  | true =>
    cases h2 : smallV ⟨[], os, [], []⟩ with
    | false => exact own_2 t p c v r os q cq w hfa hfit hnums hen hB hos hob htab hC h1 h2
    | true => exact own_3 t p c v r os q cq w hfa hfit hnums hen hB hos hob htab hC h1 h2

end Go.Proofs.YtchjckdjkecjnaaGreatDoor.Ev
