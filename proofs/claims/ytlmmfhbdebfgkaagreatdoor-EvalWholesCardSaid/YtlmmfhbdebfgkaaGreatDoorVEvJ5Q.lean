/-
  EvJ5, EvJ6.
-/
import Derived.Test.YtlmmfhbdebfgkaaGreatDoorVEvJuncHQ
set_option linter.unusedVariables false
set_option linter.unusedSimpArgs false
set_option maxRecDepth 100000
set_option maxHeartbeats 4000000
namespace Go.Proofs.YtlmmfhbdebfgkaaGreatDoor.Ev
open Go.RowKit
open Ex Lx Va Ty
theorem junc_5 (v : En) (r : Rows) (o n : Int) (t : List UInt8) (xo xn yo yn : Int) (xt yt : List UInt8) (xq yq : Option Addr) (xal yal xc yc : Nat) (X Y : V × Nat) (g k c : Nat) (w : World) (ok : Nat → Prop)
    (CX : ∀ W : World, Below (((w.alloc (.cells #[.slice r.pa v.attrs.length r.ca, .slice r.pv v.vals.length r.cv, .slice r.pn v.names.length r.cn, .slice r.pf v.fields.length r.cf] 55)).alloc (.cells #[.int .i64 o, .int .i64 n, .string (S t), .slice (some ⟨g, k, none⟩) 2 c] 24)).alloc (.cells #[.int .i64 0, .int .i64 0, .string ⟨#[]⟩, .slice none 0 0] 52)).heap.size (((w.alloc (.cells #[.slice r.pa v.attrs.length r.ca, .slice r.pv v.vals.length r.cv, .slice r.pn v.names.length r.cn, .slice r.pf v.fields.length r.cf] 55)).alloc (.cells #[.int .i64 o, .int .i64 n, .string (S t), .slice (some ⟨g, k, none⟩) 2 c] 24)).alloc (.cells #[.int .i64 0, .int .i64 0, .string ⟨#[]⟩, .slice none 0 0] 52)) W → Calls Tryz.prog 31 #[.agg #[.slice r.pa v.attrs.length r.ca, .slice r.pv v.vals.length r.cv, .slice r.pn v.names.length r.cn, .slice r.pf v.fields.length r.cf], .agg #[.int .i64 xo, .int .i64 xn, .string (S xt), .slice xq xal xc]] W fun e w' => CameIn ok X e w' ∧ Below W.heap.size W w')
    (CY : ∀ W : World, Below (((w.alloc (.cells #[.slice r.pa v.attrs.length r.ca, .slice r.pv v.vals.length r.cv, .slice r.pn v.names.length r.cn, .slice r.pf v.fields.length r.cf] 55)).alloc (.cells #[.int .i64 o, .int .i64 n, .string (S t), .slice (some ⟨g, k, none⟩) 2 c] 24)).alloc (.cells #[.int .i64 0, .int .i64 0, .string ⟨#[]⟩, .slice none 0 0] 52)).heap.size (((w.alloc (.cells #[.slice r.pa v.attrs.length r.ca, .slice r.pv v.vals.length r.cv, .slice r.pn v.names.length r.cn, .slice r.pf v.fields.length r.cf] 55)).alloc (.cells #[.int .i64 o, .int .i64 n, .string (S t), .slice (some ⟨g, k, none⟩) 2 c] 24)).alloc (.cells #[.int .i64 0, .int .i64 0, .string ⟨#[]⟩, .slice none 0 0] 52)) W → Calls Tryz.prog 31 #[.agg #[.slice r.pa v.attrs.length r.ca, .slice r.pv v.vals.length r.cv, .slice r.pn v.names.length r.cn, .slice r.pf v.fields.length r.cf], .agg #[.int .i64 yo, .int .i64 yn, .string (S yt), .slice yq yal yc]] W fun e w' => CameIn ok Y e w' ∧ Below W.heap.size W w')
    (HX : Hid (TC (((w.alloc (.cells #[.slice r.pa v.attrs.length r.ca, .slice r.pv v.vals.length r.cv, .slice r.pn v.names.length r.cn, .slice r.pf v.fields.length r.cf] 55)).alloc (.cells #[.int .i64 o, .int .i64 n, .string (S t), .slice (some ⟨g, k, none⟩) 2 c] 24)).alloc (.cells #[.int .i64 0, .int .i64 0, .string ⟨#[]⟩, .slice none 0 0] 52)) g k xo xn xt xq xal xc)) (HY : Hid (TC (((w.alloc (.cells #[.slice r.pa v.attrs.length r.ca, .slice r.pv v.vals.length r.cv, .slice r.pn v.names.length r.cn, .slice r.pf v.fields.length r.cf] 55)).alloc (.cells #[.int .i64 o, .int .i64 n, .string (S t), .slice (some ⟨g, k, none⟩) 2 c] 24)).alloc (.cells #[.int .i64 0, .int .i64 0, .string ⟨#[]⟩, .slice none 0 0] 52)) g (k + 4) yo yn yt yq yal yc)) (h1 : X.2 = 0) (h2 : X.1.kind = 2) (h3 : ¬ (X.1.num == 1) = (o == 41)) (h4 : Y.2 = 0) (h5 : Y.1.kind ≠ 2) :
    Calls Tryz.prog 56 #[.agg #[.slice r.pa v.attrs.length r.ca, .slice r.pv v.vals.length r.cv, .slice r.pn v.names.length r.cn, .slice r.pf v.fields.length r.cf], .agg #[.int .i64 o, .int .i64 n, .string (S t), .slice (some ⟨g, k, none⟩) 2 c]] w fun e w' => CameF w.heap.size ((zeroV, 23)) e w' ∧ Below w.heap.size w w' := by
  have hb := (((Below.refl w.heap.size w).alloc (Nat.le_refl _) (.cells #[.slice r.pa v.attrs.length r.ca, .slice r.pv v.vals.length r.cv, .slice r.pn v.names.length r.cn, .slice r.pf v.fields.length r.cf] 55)).alloc (by simp) (.cells #[.int .i64 o, .int .i64 n, .string (S t), .slice (some ⟨g, k, none⟩) 2 c] 24)).alloc (by simp; omega) (.cells #[.int .i64 0, .int .i64 0, .string ⟨#[]⟩, .slice none 0 0] 52)
  have HB := Lib.hid hb
  clear hb
  obtain ⟨x0, x1, x2, x3, _⟩ := HX.out
  have HV := Lib.hid (VB.new ((w.alloc (.cells #[.slice r.pa v.attrs.length r.ca, .slice r.pv v.vals.length r.cv, .slice r.pn v.names.length r.cn, .slice r.pf v.fields.length r.cf] 55)).alloc (.cells #[.int .i64 o, .int .i64 n, .string (S t), .slice (some ⟨g, k, none⟩) 2 c] 24)) (.int .i64 0) (.int .i64 0) (.string ⟨#[]⟩) (.slice none 0 0) (w.heap.size + 1 + 1) (by simp))
  have HE := Lib.hid (show EB (((w.alloc (.cells #[.slice r.pa v.attrs.length r.ca, .slice r.pv v.vals.length r.cv, .slice r.pn v.names.length r.cn, .slice r.pf v.fields.length r.cf] 55)).alloc (.cells #[.int .i64 o, .int .i64 n, .string (S t), .slice (some ⟨g, k, none⟩) 2 c] 24)).alloc (.cells #[.int .i64 0, .int .i64 0, .string ⟨#[]⟩, .slice none 0 0] 52)) w.heap.size v r from EB.later (EB.later (heap_alloc_new w (.cells (envC v r) 55)) ((Below.refl _ _).alloc (Nat.le_refl _) _)) ((Below.refl _ _).alloc (Nat.le_refl _) _))
  have HXB := Lib.hid (show Bx (((w.alloc (.cells #[.slice r.pa v.attrs.length r.ca, .slice r.pv v.vals.length r.cv, .slice r.pn v.names.length r.cn, .slice r.pf v.fields.length r.cf] 55)).alloc (.cells #[.int .i64 o, .int .i64 n, .string (S t), .slice (some ⟨g, k, none⟩) 2 c] 24)).alloc (.cells #[.int .i64 0, .int .i64 0, .string ⟨#[]⟩, .slice none 0 0] 52)) (w.heap.size + 1) (.int .i64 o) (.int .i64 n) (.string (S t)) (.slice (some ⟨g, k, none⟩) 2 c) from laterE (new_box (w.alloc (.cells #[.slice r.pa v.attrs.length r.ca, .slice r.pv v.vals.length r.cv, .slice r.pn v.names.length r.cn, .slice r.pf v.fields.length r.cf] 55)) _ _ _ (by simp)) ((Below.refl _ _).alloc (Nat.le_refl _) _))
  have C2 := Lib.hid (fun W kk => (CX W kk).mono (R' := fun e w' => (∃ a c, e = .returned (valC X.1 a c)) ∧ Below W.heap.size W w') (fun e w' h => by obtain ⟨a, c, he, _⟩ := h.1.ret h1; exact ⟨⟨a, c, he⟩, h.2⟩))
  obtain ⟨⟨vk, vn, vt, vl⟩, er⟩ := X
  simp only at h1 h2 h3 ⊢
  subst h1
  unfold valC at C2
  simp only at C2
  generalize vl.length = vln at *
  have HT := Lib.hid (fun q cc W => truth_any vk vn vt q vln cc W)
  unfold vA at HT
  subst h2
  simp only [if_true] at HT
  have h3' : (vn == 1) = !(o == 41) := by
    cases h5 : (vn == 1) <;> cases h6 : (o == 41) <;> simp_all
  rw [h3'] at HT
  have hcmp : ((!(o == 41)) == (o == 41)) = false := by cases (o == 41) <;> rfl
  clear CX h3 h3' HX
  have D2 := Lib.hid (fun W kk => (CY W kk).mono (R' := fun e w' => (∃ a c, e = .returned (valC Y.1 a c)) ∧ Below W.heap.size W w') (fun e w' h => by obtain ⟨a, c, he, _⟩ := h.1.ret h4; exact ⟨⟨a, c, he⟩, h.2⟩))
  obtain ⟨⟨uk, un, ut, ul⟩, er⟩ := Y
  simp only at h4 h5
  subst h4
  unfold valC at D2
  simp only at D2
  generalize ul.length = uln at *
  have HU := Lib.hid (fun q cc W => truth_any uk un ut q uln cc W)
  unfold vA at HU
  clear CY
  simp only [if_neg h5] at HU
  go_enter Tryz.func56, Tryz.ntmps56
  go_wp2_with fail
  go_region_dies
  all_goals
    rename_i hK
    refine (C2.out _ (by first | exact Below.refl _ _ | exact (Below.refl _ _).drew)).mono ?_
    rintro e w5 ⟨⟨a5, c5, rfl⟩, b5⟩
    refine hK _ _ ?_
    clear hK
    refine wpAny_ready (rs := [6]) (by kernel_rfl) (by simp) ?_
    refine AllReady.cons rfl (fun K2 hK2 => ?_) AllReady.nil
    go_simp
    refine (HT.out _ _ _).mono ?_
    rintro e w6 ⟨rfl, b6⟩
    refine hK2 _ _ ?_
    clear hK2
    refine wpAny_ready (rs := [7]) (by kernel_rfl) (by simp) ?_
    refine AllReady.cons rfl (fun K3 hK3 => ?_) AllReady.nil
    go_simp
    refine hK3 _ _ ?_
    clear hK3
    refine wpAny_done (by kernel_rfl) ?_ _
    have HB6 := Lib.hid (((Below.refl (((w.alloc (.cells #[.slice r.pa v.attrs.length r.ca, .slice r.pv v.vals.length r.cv, .slice r.pn v.names.length r.cn, .slice r.pf v.fields.length r.cf] 55)).alloc (.cells #[.int .i64 o, .int .i64 n, .string (S t), .slice (some ⟨g, k, none⟩) 2 c] 24)).alloc (.cells #[.int .i64 0, .int .i64 0, .string ⟨#[]⟩, .slice none 0 0] 52)).heap.size (((w.alloc (.cells #[.slice r.pa v.attrs.length r.ca, .slice r.pv v.vals.length r.cv, .slice r.pn v.names.length r.cn, .slice r.pf v.fields.length r.cf] 55)).alloc (.cells #[.int .i64 o, .int .i64 n, .string (S t), .slice (some ⟨g, k, none⟩) 2 c] 24)).alloc (.cells #[.int .i64 0, .int .i64 0, .string ⟨#[]⟩, .slice none 0 0] 52))).drew.trans b5).trans (b6.mono b5.size))
    have hbx := laterE HXB.out HB6.out
    have p0 := hbx.c0
    have p3 := hbx.c3
    have heb := HE.out.later HB6.out
    have q0 := heb.c0
    have q1 := heb.c1
    have q2 := heb.c2
    have q3 := heb.c3
    obtain ⟨y0, y1, y2, y3, _⟩ := HY.out.later HB6.out
    clear b5 b6 hbx heb
    go_wp2_with fail
    go_region_dies
    all_goals
      rename_i hK
      refine (D2.out _ (HB6.out.trans (by first | exact Below.refl _ _ | exact (Below.refl _ _).drew))).mono ?_
      rintro e w7 ⟨⟨a7, c7, rfl⟩, b7⟩
      have HB7 := Lib.hid (HB6.out.drew.trans (b7.mono HB6.out.size))
      clear b7
      refine hK _ _ ?_
      clear hK
      refine wpAny_ready (rs := [6]) (by kernel_rfl) (by simp) ?_
      refine AllReady.cons rfl (fun K2 hK2 => ?_) AllReady.nil
      go_simp
      refine (HU.out _ _ _).mono ?_
      rintro e w8 ⟨rfl, b8⟩
      unfold panE
      go_simp
      exact ⟨rfl, .inr ⟨by decide, rfl⟩, HB.out.trans ((HB7.out.trans (b8.mono HB7.out.size)).mono HB.out.size)⟩
end Go.Proofs.YtlmmfhbdebfgkaaGreatDoor.Ev
namespace Go.Proofs.YtlmmfhbdebfgkaaGreatDoor.Ev
open Go.RowKit
open Ex Lx Va Ty
theorem junc_6 (v : En) (r : Rows) (o n : Int) (t : List UInt8) (xo xn yo yn : Int) (xt yt : List UInt8) (xq yq : Option Addr) (xal yal xc yc : Nat) (X Y : V × Nat) (g k c : Nat) (w : World) (ok : Nat → Prop)
    (CX : ∀ W : World, Below (((w.alloc (.cells #[.slice r.pa v.attrs.length r.ca, .slice r.pv v.vals.length r.cv, .slice r.pn v.names.length r.cn, .slice r.pf v.fields.length r.cf] 55)).alloc (.cells #[.int .i64 o, .int .i64 n, .string (S t), .slice (some ⟨g, k, none⟩) 2 c] 24)).alloc (.cells #[.int .i64 0, .int .i64 0, .string ⟨#[]⟩, .slice none 0 0] 52)).heap.size (((w.alloc (.cells #[.slice r.pa v.attrs.length r.ca, .slice r.pv v.vals.length r.cv, .slice r.pn v.names.length r.cn, .slice r.pf v.fields.length r.cf] 55)).alloc (.cells #[.int .i64 o, .int .i64 n, .string (S t), .slice (some ⟨g, k, none⟩) 2 c] 24)).alloc (.cells #[.int .i64 0, .int .i64 0, .string ⟨#[]⟩, .slice none 0 0] 52)) W → Calls Tryz.prog 31 #[.agg #[.slice r.pa v.attrs.length r.ca, .slice r.pv v.vals.length r.cv, .slice r.pn v.names.length r.cn, .slice r.pf v.fields.length r.cf], .agg #[.int .i64 xo, .int .i64 xn, .string (S xt), .slice xq xal xc]] W fun e w' => CameIn ok X e w' ∧ Below W.heap.size W w')
    (CY : ∀ W : World, Below (((w.alloc (.cells #[.slice r.pa v.attrs.length r.ca, .slice r.pv v.vals.length r.cv, .slice r.pn v.names.length r.cn, .slice r.pf v.fields.length r.cf] 55)).alloc (.cells #[.int .i64 o, .int .i64 n, .string (S t), .slice (some ⟨g, k, none⟩) 2 c] 24)).alloc (.cells #[.int .i64 0, .int .i64 0, .string ⟨#[]⟩, .slice none 0 0] 52)).heap.size (((w.alloc (.cells #[.slice r.pa v.attrs.length r.ca, .slice r.pv v.vals.length r.cv, .slice r.pn v.names.length r.cn, .slice r.pf v.fields.length r.cf] 55)).alloc (.cells #[.int .i64 o, .int .i64 n, .string (S t), .slice (some ⟨g, k, none⟩) 2 c] 24)).alloc (.cells #[.int .i64 0, .int .i64 0, .string ⟨#[]⟩, .slice none 0 0] 52)) W → Calls Tryz.prog 31 #[.agg #[.slice r.pa v.attrs.length r.ca, .slice r.pv v.vals.length r.cv, .slice r.pn v.names.length r.cn, .slice r.pf v.fields.length r.cf], .agg #[.int .i64 yo, .int .i64 yn, .string (S yt), .slice yq yal yc]] W fun e w' => CameIn ok Y e w' ∧ Below W.heap.size W w')
    (HX : Hid (TC (((w.alloc (.cells #[.slice r.pa v.attrs.length r.ca, .slice r.pv v.vals.length r.cv, .slice r.pn v.names.length r.cn, .slice r.pf v.fields.length r.cf] 55)).alloc (.cells #[.int .i64 o, .int .i64 n, .string (S t), .slice (some ⟨g, k, none⟩) 2 c] 24)).alloc (.cells #[.int .i64 0, .int .i64 0, .string ⟨#[]⟩, .slice none 0 0] 52)) g k xo xn xt xq xal xc)) (HY : Hid (TC (((w.alloc (.cells #[.slice r.pa v.attrs.length r.ca, .slice r.pv v.vals.length r.cv, .slice r.pn v.names.length r.cn, .slice r.pf v.fields.length r.cf] 55)).alloc (.cells #[.int .i64 o, .int .i64 n, .string (S t), .slice (some ⟨g, k, none⟩) 2 c] 24)).alloc (.cells #[.int .i64 0, .int .i64 0, .string ⟨#[]⟩, .slice none 0 0] 52)) g (k + 4) yo yn yt yq yal yc)) (h1 : X.2 = 0) (h2 : X.1.kind = 2) (h3 : ¬ (X.1.num == 1) = (o == 41)) (h4 : Y.2 = 0) (h5 : Y.1.kind = 2) :
    Calls Tryz.prog 56 #[.agg #[.slice r.pa v.attrs.length r.ca, .slice r.pv v.vals.length r.cv, .slice r.pn v.names.length r.cn, .slice r.pf v.fields.length r.cf], .agg #[.int .i64 o, .int .i64 n, .string (S t), .slice (some ⟨g, k, none⟩) 2 c]] w fun e w' => CameF w.heap.size ((boolV (Y.1.num == 1), 0)) e w' ∧ Below w.heap.size w w' := by
  have hb := (((Below.refl w.heap.size w).alloc (Nat.le_refl _) (.cells #[.slice r.pa v.attrs.length r.ca, .slice r.pv v.vals.length r.cv, .slice r.pn v.names.length r.cn, .slice r.pf v.fields.length r.cf] 55)).alloc (by simp) (.cells #[.int .i64 o, .int .i64 n, .string (S t), .slice (some ⟨g, k, none⟩) 2 c] 24)).alloc (by simp; omega) (.cells #[.int .i64 0, .int .i64 0, .string ⟨#[]⟩, .slice none 0 0] 52)
  have HB := Lib.hid hb
  clear hb
  obtain ⟨x0, x1, x2, x3, _⟩ := HX.out
  have HV := Lib.hid (VB.new ((w.alloc (.cells #[.slice r.pa v.attrs.length r.ca, .slice r.pv v.vals.length r.cv, .slice r.pn v.names.length r.cn, .slice r.pf v.fields.length r.cf] 55)).alloc (.cells #[.int .i64 o, .int .i64 n, .string (S t), .slice (some ⟨g, k, none⟩) 2 c] 24)) (.int .i64 0) (.int .i64 0) (.string ⟨#[]⟩) (.slice none 0 0) (w.heap.size + 1 + 1) (by simp))
  have HE := Lib.hid (show EB (((w.alloc (.cells #[.slice r.pa v.attrs.length r.ca, .slice r.pv v.vals.length r.cv, .slice r.pn v.names.length r.cn, .slice r.pf v.fields.length r.cf] 55)).alloc (.cells #[.int .i64 o, .int .i64 n, .string (S t), .slice (some ⟨g, k, none⟩) 2 c] 24)).alloc (.cells #[.int .i64 0, .int .i64 0, .string ⟨#[]⟩, .slice none 0 0] 52)) w.heap.size v r from EB.later (EB.later (heap_alloc_new w (.cells (envC v r) 55)) ((Below.refl _ _).alloc (Nat.le_refl _) _)) ((Below.refl _ _).alloc (Nat.le_refl _) _))
  have HXB := Lib.hid (show Bx (((w.alloc (.cells #[.slice r.pa v.attrs.length r.ca, .slice r.pv v.vals.length r.cv, .slice r.pn v.names.length r.cn, .slice r.pf v.fields.length r.cf] 55)).alloc (.cells #[.int .i64 o, .int .i64 n, .string (S t), .slice (some ⟨g, k, none⟩) 2 c] 24)).alloc (.cells #[.int .i64 0, .int .i64 0, .string ⟨#[]⟩, .slice none 0 0] 52)) (w.heap.size + 1) (.int .i64 o) (.int .i64 n) (.string (S t)) (.slice (some ⟨g, k, none⟩) 2 c) from laterE (new_box (w.alloc (.cells #[.slice r.pa v.attrs.length r.ca, .slice r.pv v.vals.length r.cv, .slice r.pn v.names.length r.cn, .slice r.pf v.fields.length r.cf] 55)) _ _ _ (by simp)) ((Below.refl _ _).alloc (Nat.le_refl _) _))
  have C2 := Lib.hid (fun W kk => (CX W kk).mono (R' := fun e w' => (∃ a c, e = .returned (valC X.1 a c)) ∧ Below W.heap.size W w') (fun e w' h => by obtain ⟨a, c, he, _⟩ := h.1.ret h1; exact ⟨⟨a, c, he⟩, h.2⟩))
  obtain ⟨⟨vk, vn, vt, vl⟩, er⟩ := X
  simp only at h1 h2 h3 ⊢
  subst h1
  unfold valC at C2
  simp only at C2
  generalize vl.length = vln at *
  have HT := Lib.hid (fun q cc W => truth_any vk vn vt q vln cc W)
  unfold vA at HT
  subst h2
  simp only [if_true] at HT
  have h3' : (vn == 1) = !(o == 41) := by
    cases h5 : (vn == 1) <;> cases h6 : (o == 41) <;> simp_all
  rw [h3'] at HT
  have hcmp : ((!(o == 41)) == (o == 41)) = false := by cases (o == 41) <;> rfl
  clear CX h3 h3' HX
  have D2 := Lib.hid (fun W kk => (CY W kk).mono (R' := fun e w' => (∃ a c, e = .returned (valC Y.1 a c)) ∧ Below W.heap.size W w') (fun e w' h => by obtain ⟨a, c, he, _⟩ := h.1.ret h4; exact ⟨⟨a, c, he⟩, h.2⟩))
  obtain ⟨⟨uk, un, ut, ul⟩, er⟩ := Y
  simp only at h4 h5 ⊢
  subst h4
  unfold valC at D2
  simp only at D2
  generalize ul.length = uln at *
  have HU := Lib.hid (fun q cc W => truth_any uk un ut q uln cc W)
  unfold vA at HU
  clear CY
  subst h5
  simp only [if_true] at HU
  generalize hbb : (un == 1) = bb at *
  clear hbb
  have HBO := Lib.hid (fun W => boolean_any bb W)
  have hbl : (boolV bb).list = [] := rfl
  generalize boolV bb = bv at *
  obtain ⟨bk, bn, bt, bl⟩ := bv
  simp only at hbl
  subst hbl
  unfold valC at HBO
  simp only [List.length_nil] at HBO
  go_enter Tryz.func56, Tryz.ntmps56
  go_wp2_with fail
  go_region_dies
  all_goals
    rename_i hK
    refine (C2.out _ (by first | exact Below.refl _ _ | exact (Below.refl _ _).drew)).mono ?_
    rintro e w5 ⟨⟨a5, c5, rfl⟩, b5⟩
    refine hK _ _ ?_
    clear hK
    refine wpAny_ready (rs := [6]) (by kernel_rfl) (by simp) ?_
    refine AllReady.cons rfl (fun K2 hK2 => ?_) AllReady.nil
    go_simp
    refine (HT.out _ _ _).mono ?_
    rintro e w6 ⟨rfl, b6⟩
    refine hK2 _ _ ?_
    clear hK2
    refine wpAny_ready (rs := [7]) (by kernel_rfl) (by simp) ?_
    refine AllReady.cons rfl (fun K3 hK3 => ?_) AllReady.nil
    go_simp
    refine hK3 _ _ ?_
    clear hK3
    refine wpAny_done (by kernel_rfl) ?_ _
    have HB6 := Lib.hid (((Below.refl (((w.alloc (.cells #[.slice r.pa v.attrs.length r.ca, .slice r.pv v.vals.length r.cv, .slice r.pn v.names.length r.cn, .slice r.pf v.fields.length r.cf] 55)).alloc (.cells #[.int .i64 o, .int .i64 n, .string (S t), .slice (some ⟨g, k, none⟩) 2 c] 24)).alloc (.cells #[.int .i64 0, .int .i64 0, .string ⟨#[]⟩, .slice none 0 0] 52)).heap.size (((w.alloc (.cells #[.slice r.pa v.attrs.length r.ca, .slice r.pv v.vals.length r.cv, .slice r.pn v.names.length r.cn, .slice r.pf v.fields.length r.cf] 55)).alloc (.cells #[.int .i64 o, .int .i64 n, .string (S t), .slice (some ⟨g, k, none⟩) 2 c] 24)).alloc (.cells #[.int .i64 0, .int .i64 0, .string ⟨#[]⟩, .slice none 0 0] 52))).drew.trans b5).trans (b6.mono b5.size))
    have hbx := laterE HXB.out HB6.out
    have p0 := hbx.c0
    have p3 := hbx.c3
    have heb := HE.out.later HB6.out
    have q0 := heb.c0
    have q1 := heb.c1
    have q2 := heb.c2
    have q3 := heb.c3
    obtain ⟨y0, y1, y2, y3, _⟩ := HY.out.later HB6.out
    clear b5 b6 hbx heb
    go_wp2_with fail
    go_region_dies
    all_goals
      rename_i hK
      refine (D2.out _ (HB6.out.trans (by first | exact Below.refl _ _ | exact (Below.refl _ _).drew))).mono ?_
      rintro e w7 ⟨⟨a7, c7, rfl⟩, b7⟩
      have HB7 := Lib.hid (HB6.out.drew.trans (b7.mono HB6.out.size))
      clear b7
      refine hK _ _ ?_
      clear hK
      refine wpAny_ready (rs := [6]) (by kernel_rfl) (by simp) ?_
      refine AllReady.cons rfl (fun K2 hK2 => ?_) AllReady.nil
      go_simp
      refine (HU.out _ _ _).mono ?_
      rintro e w8 ⟨rfl, b8⟩
      refine hK2 _ _ ?_
      clear hK2
      refine wpAny_ready (rs := [7]) (by kernel_rfl) (by simp) ?_
      refine AllReady.cons rfl (fun K3 hK3 => ?_) AllReady.nil
      go_simp
      refine (HBO.out _).mono ?_
      rintro e w9 ⟨rfl, b9⟩
      have hb9 := (HB7.out.trans (b8.mono HB7.out.size)).trans (b9.mono (Nat.le_trans HB7.out.size b8.size))
      have hnb := HV.out.later hb9
      have fz := hnb.fz
      have k0 := hnb.c0
      have k1 := hnb.c1
      have k2 := hnb.c2
      have k3 := hnb.c3
      have HB9 := Lib.hid (HB.out.trans (hb9.mono HB.out.size))
      clear hb9 b8 b9
      refine hK3 _ _ ?_
      clear hK3
      refine wpAny_ready (rs := [8]) (by kernel_rfl) (by simp) ?_
      refine AllReady.cons rfl (fun K4 hK4 => ?_) AllReady.nil
      go_simp
      refine hK4 _ _ ?_
      clear hK4
      refine wpAny_done (by kernel_rfl) ?_ _
      have HP := Lib.hid (hnb.put (.int .i64 bk) (.int .i64 bn) (.string (S bt)) (.slice none 0 0))
      have HBE := Lib.hid (below_put (HB9.out) (w.heap.size + 1 + 1) (by omega) (.int .i64 bk) (.int .i64 bn) (.string (S bt)) (.slice none 0 0))
      clear hnb
      go_wp2_with fail
      exact bodyPost_ret (res_val rfl _ _ _ _ _ _ _ rfl HP.out) rfl ⟨.inl ⟨rfl, none, 0, rfl, fr_nil _ _⟩, HBE.out⟩
end Go.Proofs.YtlmmfhbdebfgkaaGreatDoor.Ev
