/-
  Several texts in one: EvAwake, EvSmall.
-/
import Derived.Test.YtabbdkdpmpjchaaGreatDoorZTzX
import Derived.Test.YtabbdkdpmpjchaaGreatDoorZTzE
import Derived.KernelRfl
namespace Go.Proofs.YtabbdkdpmpjchaaGreatDoor.Ev
open Go.RowKit
open Ex Lx Va Ty
set_option linter.unusedVariables false
set_option linter.unusedSimpArgs false
def en0 : En := ⟨[], [], [], []⟩
def rw0 : Rows := ⟨none, none, none, none, 0, 0, 0, 0⟩
theorem en0_fit : EnFit en0 := ⟨by decide, by decide, by decide, by decide, (fun x hx => by cases hx), (fun x hx => by cases hx)⟩
theorem en0_at (w : World) : EnAt w none none none none en0 := ⟨fun i hi => absurd hi (Nat.not_lt_zero _), fun i hi => absurd hi (Nat.not_lt_zero _), fun i hi => absurd hi (Nat.not_lt_zero _), fun i hi => absurd hi (Nat.not_lt_zero _)⟩
def RdP (w : World) (x : T) (e : Ending) (w' : World) : Prop := (∃ p c, e = .returned (.tuple #[.agg #[.int .i64 x.op, .int .i64 x.num, .string (S x.text), .slice p x.args.len c], .int .i64 0, .int .i64 0]) ∧ FAt w' (fun _ => True) x.args p) ∧ Below w.heap.size w w'
theorem read_ex (s : ByteArray) (hs : s.size ≤ 8000) (ts : List TA) (h1 : scanM s.data.toList 0 = (ts, none)) (x : T) (s2 : St) (h2 : parseM ts 0 = .ok x s2) (h3 : s2.at_ + 1 = ts.length) (w : World) :
    Calls Tryz.prog 29 #[.string s] w (RdP w x) :=
  (refRead_ok s hs ts h1 x s2 h2 h3 w).mono fun e w' ⟨⟨p, c, h, f⟩, b⟩ => ⟨⟨p, c, h, FAt.mono (fun _ _ _ => trivial) _ _ f⟩, b⟩
def avX1 : T := ⟨21, 0, [], .cons 1 1 [] .nil (.cons 1 0 [] .nil .nil)⟩
def avX2 : T := ⟨40, 0, [], .cons 3 0 [] .nil (.cons 30 0 [] (.cons 21 0 [] (.cons 1 1 [] .nil (.cons 1 0 [] .nil .nil)) (.cons 1 1 [] .nil .nil)) .nil)⟩
def avX3 : T := ⟨24, 0, [], .cons 11 0 [] (.cons 1 9223372036854775807 [] .nil .nil) (.cons 1 2 [] .nil .nil)⟩
def avX4 : T := ⟨22, 0, [], .cons 11 0 [] (.cons 1 7 [] .nil .nil) (.cons 1 2 [] .nil .nil)⟩
theorem av_v1 : evM en0 avX1 = (zeroV, 31) := by kernel_rfl
theorem av_v2 : evM en0 avX2 = (boolV false, 0) := by kernel_rfl
theorem av_v3 : evM en0 avX3 = (zeroV, 30) := by kernel_rfl
theorem av_v4 : evM en0 avX4 = (intV (-1), 0) := by kernel_rfl
def avT1 : List TA := (scanM [49, 32, 47, 32, 48] 0).1
def avT2 : List TA := (scanM [102, 97, 108, 115, 101, 32, 38, 38, 32, 49, 32, 47, 32, 48, 32, 61, 61, 32, 49] 0).1
def avT3 : List TA := (scanM [45, 57, 50, 50, 51, 51, 55, 50, 48, 51, 54, 56, 53, 52, 55, 55, 53, 56, 48, 55, 32, 45, 32, 50] 0).1
def avT4 : List TA := (scanM [45, 55, 32, 37, 32, 50] 0).1
theorem av_s1 : scanM (⟨#[49, 32, 47, 32, 48]⟩ : ByteArray).data.toList 0 = (avT1, none) := by kernel_rfl
theorem av_s2 : scanM (⟨#[102, 97, 108, 115, 101, 32, 38, 38, 32, 49, 32, 47, 32, 48, 32, 61, 61, 32, 49]⟩ : ByteArray).data.toList 0 = (avT2, none) := by kernel_rfl
theorem av_s3 : scanM (⟨#[45, 57, 50, 50, 51, 51, 55, 50, 48, 51, 54, 56, 53, 52, 55, 55, 53, 56, 48, 55, 32, 45, 32, 50]⟩ : ByteArray).data.toList 0 = (avT3, none) := by kernel_rfl
theorem av_s4 : scanM (⟨#[45, 55, 32, 37, 32, 50]⟩ : ByteArray).data.toList 0 = (avT4, none) := by kernel_rfl
theorem av_p1 : parseM avT1 0 = .ok avX1 ⟨3, 3, 0⟩ := by kernel_rfl
theorem av_p2 : parseM avT2 0 = .ok avX2 ⟨7, 7, 0⟩ := by kernel_rfl
theorem av_p3 : parseM avT3 0 = .ok avX3 ⟨4, 4, 0⟩ := by kernel_rfl
theorem av_p4 : parseM avT4 0 = .ok avX4 ⟨4, 4, 0⟩ := by kernel_rfl
theorem av_e1 : 3 + 1 = avT1.length := by kernel_rfl
theorem av_e2 : 7 + 1 = avT2.length := by kernel_rfl
theorem av_e3 : 4 + 1 = avT3.length := by kernel_rfl
theorem av_e4 : 4 + 1 = avT4.length := by kernel_rfl
set_option maxRecDepth 100000 in
set_option maxHeartbeats 2000000 in
theorem ofText (s : ByteArray) (hs : s.size ≤ 8000) (ts : List TA) (h1 : scanM s.data.toList 0 = (ts, none)) (x : T) (s2 : St) (h2 : parseM ts 0 = .ok x s2) (h3 : s2.at_ + 1 = ts.length) (hfit : x.row.fits) (hnums : x.row.nums) (X : V × Nat) (hX : evM en0 x = X) (w : World) (htab : Va.Tab w) (hC : ConsAt w) :
    Calls Tryz.prog 31 #[.string s] w fun e w' => OfR w.heap.size X e w' ∧ Below w.heap.size w w' := by
  have HR := Lib.hid (fun W => read_ex s hs ts h1 x s2 h2 h3 W)
  have HO := Lib.hid (fun (p : Option Addr) (c : Nat) (W : World) (k : Below w.heap.size w W) (hfa : FAt W (fun _ => True) x.args p) => evOf_any en0 rw0 en0_fit x hfit hnums p c W (en0_at W) hfa (htab.below k) (hC.keep (Kept.of_below (ok := fun _ => True) k) trivial))
  clear htab hC hfit hnums h1 h2 h3
  go_enter Tryz.func31, Tryz.ntmps31
  go_wp2_with fail
  have hb0 := (Below.refl w.heap.size w).alloc (Nat.le_refl _) (.cells #[.int .i64 0, .int .i64 0, .string ⟨#[]⟩, .slice none 0 0] 52)
  have hv0 := VB.new w (.int .i64 0) (.int .i64 0) (.string ⟨#[]⟩) (.slice none 0 0) _ rfl
  refine (HR.out _).mono ?_
  rintro e w1 ⟨⟨p1, c1, rfl, fa1⟩, b1⟩
  have hb1 := hb0.trans (b1.mono hb0.size)
  have hv1 := hv0.later b1
  have ba := (Below.refl w1.heap.size w1).alloc (Nat.le_refl _) (.cells #[.int .i64 x.op, .int .i64 x.num, .string (S x.text), .slice p1 x.args.len c1] 24)
  have HV := Lib.hid (hv1.later ba)
  have HBA := Lib.hid (hb1.trans (ba.mono hb1.size))
  have HFA := Lib.hid (fa1.keep (Kept.of_below ba))
  have HO2 := Lib.hid (HO.out p1 c1 _ HBA.out HFA.out)
  clear hb0 hv0 b1 hb1 hv1 ba fa1 HR HO
  rw [hX] at HO2
  clear hX
  unfold envC en0 rw0 at HO2
  simp only [List.length_nil] at HO2
  obtain ⟨⟨xk, xn, xt, xl⟩, er⟩ := X
  go_wp2_with fail
  refine HO2.out.mono ?_
  rintro e w2 ⟨⟨a2, c2, rfl, hn2⟩, b2⟩
  have hnb := HV.out.later b2
  have fz := hnb.fz
  have k0 := hnb.c0
  have k1 := hnb.c1
  have k2 := hnb.c2
  have k3 := hnb.c3
  simp only at hn2
  have HP := Lib.hid (hnb.put (.int .i64 xk) (.int .i64 xn) (.string (S xt)) (.slice a2 xl.length c2))
  have HBE := Lib.hid (below_put (HBA.out.trans (b2.mono HBA.out.size)) w.heap.size (Nat.le_refl _) (.int .i64 xk) (.int .i64 xn) (.string (S xt)) (.slice a2 xl.length c2))
  have HN := Lib.hid ((hn2.keep (Kept.put w2 w.heap.size (.int .i64 xk) (.int .i64 xn) (.string (S xt)) (.slice a2 xl.length c2) (by have := HBA.out.size; have := HV.out.lt; show ¬ _ ≤ w.heap.size; omega))).mono HBA.out.size)
  clear b2 hnb hn2
  unfold valC
  go_wp2_with fail
  have d0 := HP.out.c0
  have d1 := HP.out.c1
  have d2 := HP.out.c2
  have d3 := HP.out.c3
  unfold put4 at d0 d1 d2 d3
  exact bodyPost_ret (v := .tuple #[.agg #[.int .i64 xk, .int .i64 xn, .string (S xt), .slice a2 xl.length c2], .int .i64 er]) (by simp [results, d0, d1, d2, d3, Tryz.results31, go_sem]) rfl ⟨⟨a2, c2, rfl, HN.out⟩, HBE.out⟩
def exR (k n er : Int) (e : Ending) : Prop := ∃ a c, e = .returned (.tuple #[.agg #[.int .i64 k, .int .i64 n, .string ⟨#[]⟩, .slice a 0 c], .int .i64 er])
theorem exR_of {x : V × Nat} {k n : Int} {er : Nat} (h : x = (⟨k, n, [], []⟩, er)) {e : Ending} {w : World} {B : Nat} (hx : OfR B x e w) : exR k n er e := by
  subst h
  obtain ⟨a, c, he, _⟩ := hx
  exact ⟨a, c, he⟩
set_option maxRecDepth 100000 in
set_option maxHeartbeats 4000000 in
theorem awake_any (w : World) (htab : Va.Tab w) (hC : ConsAt w) : Calls Tryz.prog 17 #[] w fun e w' => e = .returned (.bool true) ∧ Below w.heap.size w w' := by
  have A1 := Lib.hid (fun W (k : Below w.heap.size w W) => (ofText ⟨#[49, 32, 47, 32, 48]⟩ (by decide) avT1 av_s1 avX1 _ av_p1 av_e1 (by simp [avX1, T.row, F.fits, F.len]) (by simp [avX1, T.row, F.nums]) _ av_v1 W (htab.below k) (hC.keep (Kept.of_below (ok := fun _ => True) k) trivial)).mono (R' := fun e w' => exR 0 0 31 e ∧ Below W.heap.size W w') (fun e w' h => ⟨exR_of (er := 31) rfl h.1, h.2⟩))
  have A2 := Lib.hid (fun W (k : Below w.heap.size w W) => (ofText ⟨#[102, 97, 108, 115, 101, 32, 38, 38, 32, 49, 32, 47, 32, 48, 32, 61, 61, 32, 49]⟩ (by decide) avT2 av_s2 avX2 _ av_p2 av_e2 (by simp [avX2, T.row, F.fits, F.len]) (by simp [avX2, T.row, F.nums]) _ av_v2 W (htab.below k) (hC.keep (Kept.of_below (ok := fun _ => True) k) trivial)).mono (R' := fun e w' => exR 2 0 0 e ∧ Below W.heap.size W w') (fun e w' h => ⟨exR_of (er := 0) rfl h.1, h.2⟩))
  have A3 := Lib.hid (fun W (k : Below w.heap.size w W) => (ofText ⟨#[45, 57, 50, 50, 51, 51, 55, 50, 48, 51, 54, 56, 53, 52, 55, 55, 53, 56, 48, 55, 32, 45, 32, 50]⟩ (by decide) avT3 av_s3 avX3 _ av_p3 av_e3 (by simp [avX3, T.row, F.fits, F.len]) (by simp [avX3, T.row, F.nums]) _ av_v3 W (htab.below k) (hC.keep (Kept.of_below (ok := fun _ => True) k) trivial)).mono (R' := fun e w' => exR 0 0 30 e ∧ Below W.heap.size W w') (fun e w' h => ⟨exR_of (er := 30) rfl h.1, h.2⟩))
  have A4 := Lib.hid (fun W (k : Below w.heap.size w W) => (ofText ⟨#[45, 55, 32, 37, 32, 50]⟩ (by decide) avT4 av_s4 avX4 _ av_p4 av_e4 (by simp [avX4, T.row, F.fits, F.len]) (by simp [avX4, T.row, F.nums]) _ av_v4 W (htab.below k) (hC.keep (Kept.of_below (ok := fun _ => True) k) trivial)).mono (R' := fun e w' => exR 1 (-1) 0 e ∧ Below W.heap.size W w') (fun e w' h => ⟨exR_of (er := 0) rfl h.1, h.2⟩))
  have HR := Lib.hid (Below.refl w.heap.size w)
  clear htab hC
  go_enter Tryz.func17, Tryz.ntmps17
  go_wp2_with fail
  refine (A1.out _ HR.out).mono ?_
  rintro e w1 ⟨⟨a1, c1, rfl⟩, b1⟩
  have B1 := Lib.hid b1
  clear b1
  go_wp2_with fail
  have B1a := Lib.hid (B1.out.trans (((Below.refl w1.heap.size w1).alloc (Nat.le_refl _) (.cells #[.int .i64 0, .int .i64 0, .string ⟨#[]⟩, .slice a1 0 c1] 52)).mono B1.out.size))
  refine (A2.out _ B1a.out).mono ?_
  rintro e w2 ⟨⟨a2, c2, rfl⟩, b2⟩
  have B2 := Lib.hid (B1a.out.trans (b2.mono B1a.out.size))
  clear b2
  go_wp2_with fail
  have B2a := Lib.hid (B2.out.trans (((Below.refl w2.heap.size w2).alloc (Nat.le_refl _) (.cells #[.int .i64 2, .int .i64 0, .string ⟨#[]⟩, .slice a2 0 c2] 52)).mono B2.out.size))
  have V2 := Lib.hid (VB.new w2 (.int .i64 2) (.int .i64 0) (.string ⟨#[]⟩) (.slice a2 0 c2) _ rfl)
  refine (A3.out _ B2a.out).mono ?_
  rintro e w3 ⟨⟨a3, c3, rfl⟩, b3⟩
  have B3 := Lib.hid (B2a.out.trans (b3.mono B2a.out.size))
  have V2a := Lib.hid (V2.out.later b3)
  clear b3
  go_wp2_with fail
  have B3a := Lib.hid (B3.out.trans (((Below.refl w3.heap.size w3).alloc (Nat.le_refl _) (.cells #[.int .i64 0, .int .i64 0, .string ⟨#[]⟩, .slice a3 0 c3] 52)).mono B3.out.size))
  have V2b := Lib.hid (V2a.out.later ((Below.refl w3.heap.size w3).alloc (Nat.le_refl _) (.cells #[.int .i64 0, .int .i64 0, .string ⟨#[]⟩, .slice a3 0 c3] 52)))
  refine (A4.out _ B3a.out).mono ?_
  rintro e w4 ⟨⟨a4, c4, rfl⟩, b4⟩
  have B4 := Lib.hid (B3a.out.trans (b4.mono B3a.out.size))
  have hx := (V2b.out.later b4).later ((Below.refl w4.heap.size w4).alloc (Nat.le_refl _) (.cells #[.int .i64 1, .int .i64 (-1), .string ⟨#[]⟩, .slice a4 0 c4] 52))
  have x0 := hx.c0
  have x1 := hx.c1
  clear hx
  clear b4
  go_wp2_with fail
  have B4a := Lib.hid (B4.out.trans (((Below.refl w4.heap.size w4).alloc (Nat.le_refl _) (.cells #[.int .i64 1, .int .i64 (-1), .string ⟨#[]⟩, .slice a4 0 c4] 52)).mono B4.out.size))
  have V4 := Lib.hid (VB.new w4 (.int .i64 1) (.int .i64 (-1)) (.string ⟨#[]⟩) (.slice a4 0 c4) _ rfl)
  go_ret
  exact ⟨rfl, B4a.out⟩
end Go.Proofs.YtabbdkdpmpjchaaGreatDoor.Ev

namespace Go.Proofs.YtabbdkdpmpjchaaGreatDoor.Ev
open Go.RowKit
open Ex Lx Va Ty
set_option linter.unusedVariables false
set_option linter.unusedSimpArgs false
def fewV (v : En) : Bool := decide (v.attrs.length ≤ 50) && decide (v.names.length ≤ 50) && decide (v.vals.length ≤ 50) && decide (v.fields.length ≤ 50)
def smallV (v : En) : Bool := fewV v && v.vals.all rightB && v.fields.all rightB
structure EnBig (v : En) : Prop where
  attrs : v.attrs.length ≤ 281474976710656
  vals : v.vals.length ≤ 281474976710656
  names : v.names.length ≤ 281474976710656
  fields : v.fields.length ≤ 281474976710656
  ok : ∀ x ∈ v.vals, VOk x ∧ B64 x.num ∧ ∀ n ∈ x.list, B64 n
  okf : ∀ x ∈ v.fields, VOk x ∧ B64 x.num ∧ ∀ n ∈ x.list, B64 n
theorem EnBig.fit {v : En} (h : EnBig v) (hs : smallV v = true) : EnFit v := by
  unfold smallV at hs
  simp only [Bool.and_eq_true, List.all_eq_true] at hs
  exact ⟨h.attrs, h.vals, h.names, h.fields, fun x hx => ⟨hs.1.2 x hx, (h.ok x hx).2.1, (h.ok x hx).2.2⟩, fun x hx => ⟨hs.2 x hx, (h.okf x hx).2.1, (h.okf x hx).2.2⟩⟩
theorem few_iff (v : En) : fewV v = true ↔ v.attrs.length ≤ 50 ∧ v.names.length ≤ 50 ∧ v.vals.length ≤ 50 ∧ v.fields.length ≤ 50 := by
  unfold fewV
  simp only [Bool.and_eq_true, decide_eq_true_eq, and_assoc]
theorem all_right (l : List V) (h : ∀ j (hj : j < l.length), rightB l[j] = true) : l.all rightB = true := by
  rw [List.all_eq_true]
  intro x hx
  obtain ⟨j, hj, rfl⟩ := List.getElem_of_mem hx
  exact h j hj
theorem not_right (l : List V) (j : Nat) (hj : j < l.length) (h : rightB l[j] = false) : l.all rightB = false := by
  cases e : l.all rightB with
  | false => rfl
  | true =>
    rw [List.all_eq_true] at e
    rw [e l[j] (List.getElem_mem hj)] at h; cases h
set_option maxRecDepth 100000 in
set_option maxHeartbeats 4000000 in
theorem small_any (v : En) (r : Rows) (w : World) (hen : EnAt w r.pa r.pv r.pn r.pf v) (hB : EnBig v) :
    Calls Tryz.prog 22 #[.agg (envC v r)] w fun e w' => e = .returned (.bool (smallV v)) ∧ Below w.heap.size w w' := by
  unfold envC
  have i1 : (v.attrs.length : Int) ≤ 281474976710656 := by have := hB.attrs; omega
  have i2 : (v.vals.length : Int) ≤ 281474976710656 := by have := hB.vals; omega
  have i3 : (v.names.length : Int) ≤ 281474976710656 := by have := hB.names; omega
  have i4 : (v.fields.length : Int) ≤ 281474976710656 := by have := hB.fields; omega
  have HB0 := Lib.hid ((Below.refl w.heap.size w).alloc (Nat.le_refl _) (.cells #[.slice r.pa v.attrs.length r.ca, .slice r.pv v.vals.length r.cv, .slice r.pn v.names.length r.cn, .slice r.pf v.fields.length r.cf] 55))
  by_cases hf : fewV v = true
  · obtain ⟨h1, h2, h3, h4⟩ := (few_iff v).1 hf
    have g1 : decide ((50 : Int) < (v.attrs.length : Int)) = false := decide_eq_false (by omega)
    have g2 : decide ((50 : Int) < (v.names.length : Int)) = false := decide_eq_false (by omega)
    have g3 : decide ((50 : Int) < (v.vals.length : Int)) = false := decide_eq_false (by omega)
    have g4 : decide ((50 : Int) < (v.fields.length : Int)) = false := decide_eq_false (by omega)
    have HB1 := Lib.hid (HB0.out.alloc (by simp) (.cells #[.slice r.pv v.vals.length r.cv, .slice r.pf v.fields.length r.cf] 53))
    have hrow : ∀ wr, Below ((w.alloc (.cells #[.slice r.pa v.attrs.length r.ca, .slice r.pv v.vals.length r.cv, .slice r.pn v.names.length r.cn, .slice r.pf v.fields.length r.cf] 55)).alloc (.cells #[.slice r.pv v.vals.length r.cv, .slice r.pf v.fields.length r.cf] 53)).heap.size ((w.alloc (.cells #[.slice r.pa v.attrs.length r.ca, .slice r.pv v.vals.length r.cv, .slice r.pn v.names.length r.cn, .slice r.pf v.fields.length r.cf] 55)).alloc (.cells #[.slice r.pv v.vals.length r.cv, .slice r.pf v.fields.length r.cf] 53)) wr → wr.cell? ⟨w.heap.size + 1, 0, none⟩ = some (.slice r.pv v.vals.length r.cv) ∧ wr.cell? ⟨w.heap.size + 1, 1, none⟩ = some (.slice r.pf v.fields.length r.cf) := fun wr k => by
      have h := (k.block (w.heap.size + 1) (by simp)).trans (new_box (w.alloc (.cells #[.slice r.pa v.attrs.length r.ca, .slice r.pv v.vals.length r.cv, .slice r.pn v.names.length r.cn, .slice r.pf v.fields.length r.cf] 55)) _ _ (w.heap.size + 1) (by simp))
      exact ⟨cell_of_row wr _ 0 _ _ (0, 0) h, cell_of_row wr _ 1 _ _ (0, 0) h⟩
    have HROW := Lib.hid hrow
    have HSZ := Lib.hid (show ((w.alloc (.cells #[.slice r.pa v.attrs.length r.ca, .slice r.pv v.vals.length r.cv, .slice r.pn v.names.length r.cn, .slice r.pf v.fields.length r.cf] 55)).alloc (.cells #[.slice r.pv v.vals.length r.cv, .slice r.pf v.fields.length r.cf] 53)).heap.size = w.heap.size + 1 + 1 from by simp)
    have HEN := Lib.hid hen
    have HBG := Lib.hid hB
    have HF := Lib.hid hf
    have HV := Lib.hid h3
    have HFI := Lib.hid h4
    clear hrow hen hB hf h3 h4 h1 h2
    go_enter Tryz.func22, Tryz.ntmps22
    go_wp2_with fail
    go_loopw [35] (fun iv wr => ∃ k : Nat, k ≤ 2 ∧ iv = .int .i64 k ∧ (1 ≤ k → v.vals.all rightB = true) ∧ (2 ≤ k → v.fields.all rightB = true) ∧ Below ((w.alloc (.cells #[.slice r.pa v.attrs.length r.ca, .slice r.pv v.vals.length r.cv, .slice r.pn v.names.length r.cn, .slice r.pf v.fields.length r.cf] 55)).alloc (.cells #[.slice r.pv v.vals.length r.cv, .slice r.pf v.fields.length r.cf] 53)).heap.size ((w.alloc (.cells #[.slice r.pa v.attrs.length r.ca, .slice r.pv v.vals.length r.cv, .slice r.pn v.names.length r.cn, .slice r.pf v.fields.length r.cf] 55)).alloc (.cells #[.slice r.pv v.vals.length r.cv, .slice r.pf v.fields.length r.cf] 53)) wr) (fun iv _ => 2 - (intOf iv).toNat)
    case atStart => exact ⟨0, by omega, rfl, fun h => absurd h (by omega), fun h => absurd h (by omega), Below.refl _ _⟩
    case round =>
      obtain ⟨k, hk, rfl, hv, hfi, hb⟩ := hrel
      by_cases hk2 : k = 2
      · subst hk2
        have hr : smallV v = true := by
          unfold smallV
          rw [HF.out, hv (by omega), hfi (by omega)]; rfl
        have HR := Lib.hid hr
        have HBB := Lib.hid (HB1.out.trans (hb.mono HB1.out.size))
        clear hr hv hfi hb
        go_wp2_with fail
        go_ret
        exact ⟨by rw [HR.out]; try rfl, HBB.out⟩
      · obtain ⟨wo, rfl⟩ : ∃ wo, wo = wr := ⟨_, rfl⟩
        have hl : ∃ (l : List V) (q : Option Addr) (c : Nat), wo.cell? ⟨w.heap.size + 1, k, none⟩ = some (.slice q l.length c) ∧ ValsAt wo q l ∧ l.length ≤ 50 ∧ (∀ x ∈ l, VOk x) ∧ (l.all rightB = true → (1 ≤ k + 1 → v.vals.all rightB = true) ∧ (2 ≤ k + 1 → v.fields.all rightB = true)) ∧ (l.all rightB = false → smallV v = false) := by
          have hbw := HB1.out.trans (hb.mono HB1.out.size)
          have hk01 : k = 0 ∨ k = 1 := by omega
          rcases hk01 with rfl | rfl
          · refine ⟨v.vals, r.pv, r.cv, (HROW.out wo hb).1, (HEN.out.vals.below hbw).vals, HV.out, fun x hx => (HBG.out.ok x hx).1, fun h => ⟨fun _ => h, fun h => absurd h (by omega)⟩, fun h => ?_⟩
            unfold smallV; rw [h]; simp
          · refine ⟨v.fields, r.pf, r.cf, (HROW.out wo hb).2, (HEN.out.fields.below hbw).vals, HFI.out, fun x hx => (HBG.out.okf x hx).1, fun h => ⟨fun _ => hv (by omega), fun _ => h⟩, fun h => ?_⟩
            unfold smallV; rw [h]; simp
        obtain ⟨l, q, c, hc, hval, hlen, hok, hyes, hno⟩ := hl
        have hki : (k : Int) < 2 := by omega
        have hk0 : (0 : Int) ≤ (k : Int) := by omega
        have hli : (l.length : Int) ≤ 50 := by omega
        have HVAL := Lib.hid hval
        have HOK := Lib.hid hok
        have HYES := Lib.hid hyes
        have HNO := Lib.hid hno
        have HB := Lib.hid hb
        clear hval hok hyes hno hb hv hfi
        go_wp2_with fail
        go_loopw [41] (fun jv wr => ∃ j : Nat, j ≤ l.length ∧ jv = .int .i64 j ∧ (∀ i (hi : i < l.length), i < j → rightB l[i] = true) ∧ Below wo.heap.size wo wr) (fun jv _ => l.length - (intOf jv).toNat)
        case atStart => exact ⟨0, Nat.zero_le _, rfl, fun i _ h => absurd h (Nat.not_lt_zero _), Below.refl _ _⟩
        case round =>
          obtain ⟨j, hj, rfl, hA, hb2⟩ := hrel
          by_cases hlt : j < l.length
          · have hlti : (j : Int) < (l.length : Int) := by omega
            obtain ⟨b, o, rfl, ⟨q2, c2, f0, f1, f2, f3, _⟩, hbl⟩ := (HVAL.out.below hb2) j hlt
            obtain ⟨⟨xk, xn, xt, xl⟩, hy⟩ : ∃ y, y = l[j] := ⟨_, rfl⟩
            have hvo := HOK.out l[j] (List.getElem_mem hlt)
            rw [← hy] at f0 f1 f2 f3 hvo
            simp only at f0 f1 f2 f3
            have ba := (Below.refl wr.heap.size wr).alloc (Nat.le_refl _) (.cells #[.int .i64 xk, .int .i64 xn, .string (S xt), .slice q2 xl.length c2] 52)
            have HRI := Lib.hid (refRight_any ⟨xk, xn, xt, xl⟩ hvo q2 c2 (wr.alloc (.cells #[.int .i64 xk, .int .i64 xn, .string (S xt), .slice q2 xl.length c2] 52)))
            have HBA := Lib.hid (hb2.trans (ba.mono hb2.size))
            have HA := Lib.hid hA
            have HY := Lib.hid hy
            clear hA hb2 hy ba hvo
            unfold valC at HRI
            simp only at HRI
            cases hrb : rightB ⟨xk, xn, xt, xl⟩ with
            | true =>
              rw [hrb] at HRI
              have HRB := Lib.hid hrb
              clear hrb
              go_wp2_with fail
              refine HRI.out.mono ?_
              rintro e w5 ⟨rfl, b5⟩
              have HB5 := Lib.hid (HBA.out.trans (b5.mono HBA.out.size))
              clear b5
              go_wp2_with fail
              go_roundw
              case rel => exact ⟨j + 1, by omega, by go_num, fun i hi hij => by
                by_cases e : i = j
                · subst e; rw [← HY.out]; exact HRB.out
                · exact HA.out i hi (by omega), HB5.out⟩
              case measure => simp [intOf]; omega
            | false =>
              rw [hrb] at HRI
              have HRB := Lib.hid (HNO.out (not_right l j hlt (by rw [← HY.out]; exact hrb)))
              clear hrb
              go_wp2_with fail
              refine HRI.out.mono ?_
              rintro e w5 ⟨rfl, b5⟩
              have HB5 := Lib.hid (HB1.out.trans ((HB.out.trans ((HBA.out.trans (b5.mono HBA.out.size)).mono HB.out.size)).mono HB1.out.size))
              clear b5
              go_wp2_with fail
              go_ret
              exact ⟨by rw [HRB.out]; try rfl, HB5.out⟩
          · have hlti : ¬ (j : Int) < (l.length : Int) := by omega
            have hy := HYES.out (all_right l fun i hi => hA i hi (by omega))
            have HY2 := Lib.hid hy
            have HB5 := Lib.hid (HB.out.trans (hb2.mono HB.out.size))
            clear hA hb2 hy
            go_wp2_with fail
            go_roundw
            case rel => exact ⟨k + 1, by omega, by go_num, HY2.out.1, HY2.out.2, HB5.out⟩
            case measure => simp [intOf]; omega
  · have hr : smallV v = false := by unfold smallV; rw [Bool.not_eq_true] at hf; rw [hf]; rfl
    rw [hr]
    by_cases h1 : v.attrs.length ≤ 50
    · have g1 : decide ((50 : Int) < (v.attrs.length : Int)) = false := decide_eq_false (by omega)
      by_cases h2 : v.names.length ≤ 50
      · have g2 : decide ((50 : Int) < (v.names.length : Int)) = false := decide_eq_false (by omega)
        by_cases h3 : v.vals.length ≤ 50
        · have g3 : decide ((50 : Int) < (v.vals.length : Int)) = false := decide_eq_false (by omega)
          have h4 : ¬ v.fields.length ≤ 50 := fun h4 => hf ((few_iff v).2 ⟨h1, h2, h3, h4⟩)
          have g4 : decide ((50 : Int) < (v.fields.length : Int)) = true := decide_eq_true (by omega)
          clear hf hr
          go_enter Tryz.func22, Tryz.ntmps22
          go_wp2_with fail
          go_ret
          exact ⟨rfl, HB0.out⟩
        · have g3 : decide ((50 : Int) < (v.vals.length : Int)) = true := decide_eq_true (by omega)
          clear hf hr
          go_enter Tryz.func22, Tryz.ntmps22
          go_wp2_with fail
          go_ret
          exact ⟨rfl, HB0.out⟩
      · have g2 : decide ((50 : Int) < (v.names.length : Int)) = true := decide_eq_true (by omega)
        clear hf hr
        go_enter Tryz.func22, Tryz.ntmps22
        go_wp2_with fail
        go_ret
        exact ⟨rfl, HB0.out⟩
    · have g1 : decide ((50 : Int) < (v.attrs.length : Int)) = true := decide_eq_true (by omega)
      clear hf hr
      go_enter Tryz.func22, Tryz.ntmps22
      go_wp2_with fail
      go_ret
      exact ⟨rfl, HB0.out⟩
end Go.Proofs.YtabbdkdpmpjchaaGreatDoor.Ev
