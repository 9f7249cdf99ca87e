/-
  Several texts in one: EvNodeC, EvTree, EvJuncH, EvTreeN.
-/
import Derived.Test.YtabbdkdpmpjchaaGreatDoorZTzS
import Derived.Test.YtabbdkdpmpjchaaGreatDoorZTzQ
import Derived.Test.YtabbdkdpmpjchaaGreatDoorZTzP
namespace Go.Proofs.YtabbdkdpmpjchaaGreatDoor.Ev
open Go.RowKit
open Ex Lx Va
set_option linter.unusedVariables false
set_option linter.unusedSimpArgs false
theorem cnt_cases {o : Int} {k : Nat} (h : cntB o k = true) : (o = 5 ∧ k ≤ 16) ∨ ((o = 1 ∨ o = 2 ∨ o = 3 ∨ o = 4 ∨ o = 6 ∨ o = 7) ∧ k = 0) ∨ ((o = 10 ∨ o = 11 ∨ o = 12) ∧ k = 1) ∨ ((o = 20 ∨ o = 21 ∨ o = 22 ∨ o = 23 ∨ o = 24 ∨ o = 25 ∨ o = 26 ∨ o = 30 ∨ o = 31 ∨ o = 32 ∨ o = 33 ∨ o = 40 ∨ o = 41) ∧ k = 2) := by
  unfold cntB at h
  by_cases h5 : o = 5
  · rw [if_pos h5] at h
    exact .inl ⟨h5, by simpa using h⟩
  rw [if_neg h5] at h
  by_cases h7 : 1 ≤ o ∧ o ≤ 7
  · rw [if_pos h7] at h
    exact .inr (.inl ⟨by omega, by simpa using h⟩)
  rw [if_neg h7] at h
  by_cases h12 : 10 ≤ o ∧ o ≤ 12
  · rw [if_pos h12] at h
    exact .inr (.inr (.inl ⟨by omega, by simpa using h⟩))
  rw [if_neg h12] at h
  split at h
  · rename_i h2
    exact .inr (.inr (.inr ⟨by omega, by simpa using h⟩))
  · cases h
theorem formed_cntE {o n : Int} {t : List UInt8} {k : Nat} (h : formedB o n t k = true) : cntB o k = true := by
  simp [formedB] at h
  exact h.1.1.1.1.1
theorem numE_cases (n : Int) : (∃ m, numE n = (intV m, 0)) ∨ ∃ k, k ≠ 0 ∧ numE n = (zeroV, k) := by
  unfold numE
  split
  · exact .inl ⟨_, rfl⟩
  · exact .inr ⟨30, by decide, rfl⟩
theorem arithL_cases (o : Int) (l : List Int) : (∃ m, arithL o l = (intV m, 0)) ∨ ∃ k, k ≠ 0 ∧ arithL o l = (zeroV, k) := by
  unfold arithL arithE
  repeat' split
  all_goals first | exact numE_cases _ | exact .inr ⟨31, by decide, rfl⟩
theorem Good.vok {x : V} (h : Good x) : VOk x := ⟨by have := h.text; omega, by have := h.list; omega⟩
theorem node_any (ok : Nat → Prop) (o n : Int) (t : List UInt8) (p : Option Addr) (kk c : Nat) (vs : List V) (hg : ∀ v ∈ vs, Good v) (hf : formedB o n t vs.length = true) (h6 : o ≠ 6) (h7 : o ≠ 7) (h40 : o ≠ 40) (h41 : o ≠ 41) (a : Option Addr) (cap : Nat) (w : World) (hx : VsAt ok w a vs) :
    Calls Tryz.prog 62 #[.agg #[.int .i64 o, .int .i64 n, .string (S t), .slice p kk c], .slice a vs.length cap] w fun e w' => CameF w.heap.size (opE o n t vs) e w' ∧ Below w.heap.size w w' := by
  have hcnt := cnt_cases (formed_cntE hf)
  have hv := hx.vals
  rcases hcnt with ⟨rfl, hk⟩ | ⟨ho, hk⟩ | ⟨ho, hk⟩ | ⟨ho, hk⟩
  · exact node_5 n t p kk c vs (by omega) a cap w hv
  · rcases ho with rfl | rfl | rfl | rfl | rfl | rfl
    · exact node_num 1 n (by omega) t p kk c (opE 1 n t vs) (.inl ⟨n, rfl⟩) a vs.length cap w (fun W _ => (number_1 n t p kk c a vs.length cap W).mono (fun e w' h => ⟨h.1.trans rfl, h.2⟩))
    · exact node_2 n t p kk c vs a vs.length cap w
    · exact node_3 n t p kk c vs a vs.length cap w
    · exact node_4 n t p kk c vs a vs.length cap w
    · exact absurd rfl h6
    · exact absurd rfl h7
  · match vs, hk with
    | [x], _ =>
      have gx := hg x (by simp)
      rcases ho with rfl | rfl | rfl
      · exact node_10 n t p kk c x gx a cap w hv
      · refine node_num 11 n (by omega) t p kk c (opE 11 n t [x]) ?_ a 1 cap w (fun W k => number_c 11 n t p kk c [x] hg (.inl ⟨rfl, rfl⟩) a cap W (hv.below k))
        rw [op_arith 11 n t [x] (.inl ⟨rfl, rfl⟩)]
        split
        · exact arithL_cases _ _
        · exact .inr ⟨23, by decide, rfl⟩
      · refine node_num 12 n (by omega) t p kk c (opE 12 n t [x]) ?_ a 1 cap w (fun W k => number_12 n t p kk c x a cap W (hv.below k))
        show (∃ m, (if x.kind = 5 then (intV x.list.length, 0) else if x.kind = 3 then (intV x.text.length, 0) else (zeroV, 23)) = (intV m, 0)) ∨ ∃ k, k ≠ 0 ∧ (if x.kind = 5 then (intV x.list.length, 0) else if x.kind = 3 then (intV x.text.length, 0) else (zeroV, 23)) = (zeroV, k)
        repeat' split
        all_goals first | exact .inl ⟨_, rfl⟩ | exact .inr ⟨23, by decide, rfl⟩
  · match vs, hk with
    | [x, y], _ =>
      have gx := hg x (by simp)
      have gy := hg y (by simp)
      have har : ∀ o : Int, (o = 20 ∨ o = 21 ∨ o = 22 ∨ o = 23 ∨ o = 24) → Calls Tryz.prog 62 #[.agg #[.int .i64 o, .int .i64 n, .string (S t), .slice p kk c], .slice a 2 cap] w fun e w' => CameF w.heap.size (opE o n t [x, y]) e w' ∧ Below w.heap.size w w' := fun o ho => by
        refine node_num o n (by omega) t p kk c (opE o n t [x, y]) ?_ a 2 cap w (fun W k => number_c o n t p kk c [x, y] hg (.inr ⟨ho, rfl⟩) a cap W (hv.below k))
        rw [op_arith o n t [x, y] (.inr ⟨ho, rfl⟩)]
        split
        · exact arithL_cases _ _
        · exact .inr ⟨23, by decide, rfl⟩
      rcases ho with rfl | rfl | rfl | rfl | rfl | rfl | rfl | rfl | rfl | rfl | rfl | rfl | rfl
      · exact har 20 (by decide)
      · exact har 21 (by decide)
      · exact har 22 (by decide)
      · exact har 23 (by decide)
      · exact har 24 (by decide)
      · refine node_num 25 n (by omega) t p kk c (opE 25 n t [x, y]) ?_ a 2 cap w (fun W k => number_25 n t p kk c x y (by have := gx.list; omega) a cap W (hv.below k))
        show (∃ m, (if x.kind = 5 ∧ y.kind = 1 then (if 0 ≤ y.num ∧ y.num < x.list.length then (intV (x.list.getD y.num.toNat 0), 0) else (zeroV, 32)) else (zeroV, 23)) = (intV m, 0)) ∨ ∃ k, k ≠ 0 ∧ (if x.kind = 5 ∧ y.kind = 1 then (if 0 ≤ y.num ∧ y.num < x.list.length then (intV (x.list.getD y.num.toNat 0), 0) else (zeroV, 32)) else (zeroV, 23)) = (zeroV, k)
        repeat' split
        all_goals first | exact .inl ⟨_, rfl⟩ | exact .inr ⟨23, by decide, rfl⟩ | exact .inr ⟨32, by decide, rfl⟩
      · exact node_26 n t p kk c x y (by have := gx.list; omega) a cap w ok hx
      · exact node_cmp 30 n (by decide) t p kk c x y gx.vok gy.vok a cap w hv
      · exact node_cmp 31 n (by decide) t p kk c x y gx.vok gy.vok a cap w hv
      · exact node_cmp 32 n (by decide) t p kk c x y gx.vok gy.vok a cap w hv
      · exact node_cmp 33 n (by decide) t p kk c x y gx.vok gy.vok a cap w hv
      · exact absurd rfl h40
      · exact absurd rfl h41
end Go.Proofs.YtabbdkdpmpjchaaGreatDoor.Ev

namespace Go.Proofs.YtabbdkdpmpjchaaGreatDoor.Ev
open Go.RowKit
open Ex Lx Va Ty
set_option linter.unusedVariables false
set_option linter.unusedSimpArgs false
structure EnAt (w : World) (pa pv pn pf : Option Addr) (v : En) : Prop where
  attrs : AttrsAt w pa v.attrs
  vals : VsAt (· < w.heap.size) w pv v.vals
  names : AttrsAt w pn v.names
  fields : VsAt (· < w.heap.size) w pf v.fields
structure EnFit (v : En) : Prop where
  attrs : v.attrs.length ≤ 281474976710656
  vals : v.vals.length ≤ 281474976710656
  names : v.names.length ≤ 281474976710656
  fields : v.fields.length ≤ 281474976710656
  gvals : ∀ x ∈ v.vals, Good x
  gfields : ∀ x ∈ v.fields, Good x
structure Rows where
  pa : Option Addr
  pv : Option Addr
  pn : Option Addr
  pf : Option Addr
  ca : Nat
  cv : Nat
  cn : Nat
  cf : Nat
def envC (v : En) (r : Rows) : Array Value := #[.slice r.pa v.attrs.length r.ca, .slice r.pv v.vals.length r.cv, .slice r.pn v.names.length r.cn, .slice r.pf v.fields.length r.cf]
def EvC (v : En) (r : Rows) (w0 : World) (t : T) : Prop := ∀ (p : Option Addr) (c : Nat) (w : World), Below w0.heap.size w0 w → FAt w0 (fun _ => True) t.args p →
  Calls Tryz.prog 34 #[.agg (envC v r), .agg #[.int .i64 t.op, .int .i64 t.num, .string (S t.text), .slice p t.args.len c]] w fun e w' => CameIn (fun g => g < w0.heap.size ∨ w.heap.size ≤ g) (evT v t) e w' ∧ Below w.heap.size w w'
def EvAll (v : En) (r : Rows) (w0 : World) : F → Prop
  | .nil => True
  | .cons o n t a l => EvC v r w0 ⟨o, n, t, a⟩ ∧ EvAll v r w0 l
theorem CameIn.ret {ok : Nat → Prop} {x : V × Nat} {e : Ending} {w : World} (h : CameIn ok x e w) (h0 : x.2 = 0) : ∃ a c, e = .returned (valC x.1 a c) ∧ LAt ok w a x.1.list c := by
  rcases h with ⟨_, h⟩ | ⟨h, _⟩
  · exact h
  · exact absurd h0 h
theorem CameIn.pan {ok : Nat → Prop} {x : V × Nat} {e : Ending} {w : World} (h : CameIn ok x e w) (h0 : x.2 ≠ 0) : e = panE x.2 := by
  rcases h with ⟨h, _⟩ | ⟨_, h⟩
  · exact absurd h h0
  · exact h
set_option maxRecDepth 100000 in
set_option maxHeartbeats 4000000 in
theorem tree_6 (v : En) (r : Rows) (w0 : World) (hen : EnAt w0 r.pa r.pv r.pn r.pf v) (hf : EnFit v) (n : Int) (t : List UInt8) (A : F) : EvC v r w0 ⟨6, n, t, A⟩ := by
  intro p c w hw hfa
  have hT : evT v ⟨6, n, t, A⟩ = namedV v.attrs v.vals t := rfl
  rw [hT]
  unfold envC
  simp only
  have hb := (((Below.refl w.heap.size w).alloc (Nat.le_refl _) (.cells #[.slice r.pa v.attrs.length r.ca, .slice r.pv v.vals.length r.cv, .slice r.pn v.names.length r.cn, .slice r.pf v.fields.length r.cf] 55)).alloc (by simp) (.cells #[.int .i64 6, .int .i64 n, .string (S t), .slice p A.len c] 24)).alloc (by simp; omega) (.cells #[.int .i64 0, .int .i64 0, .string ⟨#[]⟩, .slice none 0 0] 52)
  have HV := Lib.hid (VB.new ((w.alloc (.cells #[.slice r.pa v.attrs.length r.ca, .slice r.pv v.vals.length r.cv, .slice r.pn v.names.length r.cn, .slice r.pf v.fields.length r.cf] 55)).alloc (.cells #[.int .i64 6, .int .i64 n, .string (S t), .slice p A.len c] 24)) (.int .i64 0) (.int .i64 0) (.string ⟨#[]⟩) (.slice none 0 0) (w.heap.size + 1 + 1) (by simp))
  have HN := Lib.hid (fun (W : World) (k : Below (((w.alloc (.cells #[.slice r.pa v.attrs.length r.ca, .slice r.pv v.vals.length r.cv, .slice r.pn v.names.length r.cn, .slice r.pf v.fields.length r.cf] 55)).alloc (.cells #[.int .i64 6, .int .i64 n, .string (S t), .slice p A.len c] 24)).alloc (.cells #[.int .i64 0, .int .i64 0, .string ⟨#[]⟩, .slice none 0 0] 52)).heap.size (((w.alloc (.cells #[.slice r.pa v.attrs.length r.ca, .slice r.pv v.vals.length r.cv, .slice r.pn v.names.length r.cn, .slice r.pf v.fields.length r.cf] 55)).alloc (.cells #[.int .i64 6, .int .i64 n, .string (S t), .slice p A.len c] 24)).alloc (.cells #[.int .i64 0, .int .i64 0, .string ⟨#[]⟩, .slice none 0 0] 52)) W) => named_any (· < w0.heap.size) v.attrs v.vals t r.pa r.pv r.ca r.cv W (hen.attrs.later (hw.trans ((hb.trans (k.mono hb.size)).mono hw.size))) hf.attrs (hen.vals.below (hw.trans ((hb.trans (k.mono hb.size)).mono hw.size))) (fun g hg => Nat.lt_of_lt_of_le hg (Nat.le_trans hw.size (Nat.le_trans hb.size k.size))) hf.vals)
  have HB := Lib.hid hb
  have HLT := Lib.hid hw.size
  clear hb hen hf hT hw hfa
  generalize namedV v.attrs v.vals t = R at *
  by_cases h0 : R.2 = 0
  · have HN2 := Lib.hid (fun W k => (HN.out W k).mono (R' := fun e w' => (∃ a c, e = .returned (valC R.1 a c) ∧ LAt (· < w0.heap.size) w' a R.1.list c) ∧ Below W.heap.size W w') (fun e w' h => ⟨h.1.ret h0, h.2⟩))
    clear HN
    obtain ⟨⟨xk, xn, xt, xl⟩, er⟩ := R
    unfold valC at HN2
    simp only at HN2 h0
    subst h0
    generalize hxl : xl.length = lx at *
    go_enter Tryz.func34, Tryz.ntmps34
    go_wp2_with fail
    refine (HN2.out _ (by first | exact Below.refl _ _ | exact (Below.refl _ _).drew)).mono ?_
    rintro e w3 ⟨⟨a', c', rfl, hla⟩, b3⟩
    have hnb := HV.out.later b3
    have fz := hnb.fz
    have k0 := hnb.c0
    have k1 := hnb.c1
    have k2 := hnb.c2
    have k3 := hnb.c3
    have HP := Lib.hid (hnb.put (.int .i64 xk) (.int .i64 xn) (.string (S xt)) (.slice a' lx c'))
    have HBE := Lib.hid (below_put (HB.out.trans (b3.mono HB.out.size)) (w.heap.size + 1 + 1) (by omega) (.int .i64 xk) (.int .i64 xn) (.string (S xt)) (.slice a' lx c'))
    have HLA := Lib.hid ((hla.keep (Kept.put _ (w.heap.size + 1 + 1) (.int .i64 xk) (.int .i64 xn) (.string (S xt)) (.slice a' lx c') (fun h => by have := HLT.out; omega))).mono (ok' := fun g => g < w0.heap.size ∨ w.heap.size ≤ g) (fun g h => .inl h))
    clear hnb hla
    go_wp2_with fail
    exact bodyPost_ret (res_val rfl _ _ _ _ _ _ _ rfl HP.out) rfl ⟨.inl ⟨rfl, a', c', by rw [← hxl]; rfl, HLA.out⟩, HBE.out⟩
  · have HN2 := Lib.hid (fun W k => (HN.out W k).mono (R' := fun e w' => e = panE R.2 ∧ Below W.heap.size W w') (fun e w' h => ⟨h.1.pan h0, h.2⟩))
    clear HN
    go_enter Tryz.func34, Tryz.ntmps34
    go_wp2_with fail
    refine (HN2.out _ (by first | exact Below.refl _ _ | exact (Below.refl _ _).drew)).mono ?_
    rintro e w2 ⟨rfl, b2⟩
    unfold panE
    go_wp2_with fail
    exact ⟨rfl, .inr ⟨h0, rfl⟩, HB.out.trans (b2.mono HB.out.size)⟩
set_option maxRecDepth 100000 in
set_option maxHeartbeats 4000000 in
theorem tree_7 (v : En) (r : Rows) (w0 : World) (hen : EnAt w0 r.pa r.pv r.pn r.pf v) (hf : EnFit v) (n : Int) (t : List UInt8) (A : F) : EvC v r w0 ⟨7, n, t, A⟩ := by
  intro p c w hw hfa
  have hT : evT v ⟨7, n, t, A⟩ = namedV v.names v.fields t := rfl
  rw [hT]
  unfold envC
  simp only
  have hb := (((Below.refl w.heap.size w).alloc (Nat.le_refl _) (.cells #[.slice r.pa v.attrs.length r.ca, .slice r.pv v.vals.length r.cv, .slice r.pn v.names.length r.cn, .slice r.pf v.fields.length r.cf] 55)).alloc (by simp) (.cells #[.int .i64 7, .int .i64 n, .string (S t), .slice p A.len c] 24)).alloc (by simp; omega) (.cells #[.int .i64 0, .int .i64 0, .string ⟨#[]⟩, .slice none 0 0] 52)
  have HV := Lib.hid (VB.new ((w.alloc (.cells #[.slice r.pa v.attrs.length r.ca, .slice r.pv v.vals.length r.cv, .slice r.pn v.names.length r.cn, .slice r.pf v.fields.length r.cf] 55)).alloc (.cells #[.int .i64 7, .int .i64 n, .string (S t), .slice p A.len c] 24)) (.int .i64 0) (.int .i64 0) (.string ⟨#[]⟩) (.slice none 0 0) (w.heap.size + 1 + 1) (by simp))
  have HN := Lib.hid (fun (W : World) (k : Below (((w.alloc (.cells #[.slice r.pa v.attrs.length r.ca, .slice r.pv v.vals.length r.cv, .slice r.pn v.names.length r.cn, .slice r.pf v.fields.length r.cf] 55)).alloc (.cells #[.int .i64 7, .int .i64 n, .string (S t), .slice p A.len c] 24)).alloc (.cells #[.int .i64 0, .int .i64 0, .string ⟨#[]⟩, .slice none 0 0] 52)).heap.size (((w.alloc (.cells #[.slice r.pa v.attrs.length r.ca, .slice r.pv v.vals.length r.cv, .slice r.pn v.names.length r.cn, .slice r.pf v.fields.length r.cf] 55)).alloc (.cells #[.int .i64 7, .int .i64 n, .string (S t), .slice p A.len c] 24)).alloc (.cells #[.int .i64 0, .int .i64 0, .string ⟨#[]⟩, .slice none 0 0] 52)) W) => named_any (· < w0.heap.size) v.names v.fields t r.pn r.pf r.cn r.cf W (hen.names.later (hw.trans ((hb.trans (k.mono hb.size)).mono hw.size))) hf.names (hen.fields.below (hw.trans ((hb.trans (k.mono hb.size)).mono hw.size))) (fun g hg => Nat.lt_of_lt_of_le hg (Nat.le_trans hw.size (Nat.le_trans hb.size k.size))) hf.fields)
  have HB := Lib.hid hb
  have HLT := Lib.hid hw.size
  clear hb hen hf hT hw hfa
  generalize namedV v.names v.fields t = R at *
  by_cases h0 : R.2 = 0
  · have HN2 := Lib.hid (fun W k => (HN.out W k).mono (R' := fun e w' => (∃ a c, e = .returned (valC R.1 a c) ∧ LAt (· < w0.heap.size) w' a R.1.list c) ∧ Below W.heap.size W w') (fun e w' h => ⟨h.1.ret h0, h.2⟩))
    clear HN
    obtain ⟨⟨xk, xn, xt, xl⟩, er⟩ := R
    unfold valC at HN2
    simp only at HN2 h0
    subst h0
    generalize hxl : xl.length = lx at *
    go_enter Tryz.func34, Tryz.ntmps34
    go_wp2_with fail
    refine (HN2.out _ (by first | exact Below.refl _ _ | exact (Below.refl _ _).drew)).mono ?_
    rintro e w3 ⟨⟨a', c', rfl, hla⟩, b3⟩
    have hnb := HV.out.later b3
    have fz := hnb.fz
    have k0 := hnb.c0
    have k1 := hnb.c1
    have k2 := hnb.c2
    have k3 := hnb.c3
    have HP := Lib.hid (hnb.put (.int .i64 xk) (.int .i64 xn) (.string (S xt)) (.slice a' lx c'))
    have HBE := Lib.hid (below_put (HB.out.trans (b3.mono HB.out.size)) (w.heap.size + 1 + 1) (by omega) (.int .i64 xk) (.int .i64 xn) (.string (S xt)) (.slice a' lx c'))
    have HLA := Lib.hid ((hla.keep (Kept.put _ (w.heap.size + 1 + 1) (.int .i64 xk) (.int .i64 xn) (.string (S xt)) (.slice a' lx c') (fun h => by have := HLT.out; omega))).mono (ok' := fun g => g < w0.heap.size ∨ w.heap.size ≤ g) (fun g h => .inl h))
    clear hnb hla
    go_wp2_with fail
    exact bodyPost_ret (res_val rfl _ _ _ _ _ _ _ rfl HP.out) rfl ⟨.inl ⟨rfl, a', c', by rw [← hxl]; rfl, HLA.out⟩, HBE.out⟩
  · have HN2 := Lib.hid (fun W k => (HN.out W k).mono (R' := fun e w' => e = panE R.2 ∧ Below W.heap.size W w') (fun e w' h => ⟨h.1.pan h0, h.2⟩))
    clear HN
    go_enter Tryz.func34, Tryz.ntmps34
    go_wp2_with fail
    refine (HN2.out _ (by first | exact Below.refl _ _ | exact (Below.refl _ _).drew)).mono ?_
    rintro e w2 ⟨rfl, b2⟩
    unfold panE
    go_wp2_with fail
    exact ⟨rfl, .inr ⟨h0, rfl⟩, HB.out.trans (b2.mono HB.out.size)⟩
end Go.Proofs.YtabbdkdpmpjchaaGreatDoor.Ev

namespace Go.Proofs.YtabbdkdpmpjchaaGreatDoor.Ev
open Go.RowKit
open Ex Lx Va Ty
set_option linter.unusedVariables false
set_option linter.unusedSimpArgs false
def EB (w : World) (H : Nat) (v : En) (r : Rows) : Prop := w.heap[H]? = some (.cells (envC v r) 55 (0, 0))
section
variable {w w' : World} {H : Nat} {v : En} {r : Rows}
theorem EB.c0 (h : EB w H v r) : w.cell? ⟨H, 0, none⟩ = some (.slice r.pa v.attrs.length r.ca) := cell_of_row w H 0 _ _ (0, 0) h
theorem EB.c1 (h : EB w H v r) : w.cell? ⟨H, 1, none⟩ = some (.slice r.pv v.vals.length r.cv) := cell_of_row w H 1 _ _ (0, 0) h
theorem EB.c2 (h : EB w H v r) : w.cell? ⟨H, 2, none⟩ = some (.slice r.pn v.names.length r.cn) := cell_of_row w H 2 _ _ (0, 0) h
theorem EB.c3 (h : EB w H v r) : w.cell? ⟨H, 3, none⟩ = some (.slice r.pf v.fields.length r.cf) := cell_of_row w H 3 _ _ (0, 0) h
theorem EB.lt (h : EB w H v r) : H < w.heap.size := World.block_lt_of_cell? w _ h.c0
theorem EB.later (h : EB w H v r) (k : Below w.heap.size w w') : EB w' H v r := (k.block H h.lt).trans h
end
theorem laterE {w w' : World} {H : Nat} {a b c d : Value} (h : Bx w H a b c d) (k : Below w.heap.size w w') : Bx w' H a b c d := (k.block H h.lt).trans h
structure TC (w : World) (g k : Nat) (o n : Int) (t : List UInt8) (q : Option Addr) (l c : Nat) : Prop where
  c0 : w.cell? ⟨g, k, none⟩ = some (.int .i64 o)
  c1 : w.cell? ⟨g, k + 1, none⟩ = some (.int .i64 n)
  c2 : w.cell? ⟨g, k + 2, none⟩ = some (.string (S t))
  c3 : w.cell? ⟨g, k + 3, none⟩ = some (.slice q l c)
  lt : g < w.heap.size
theorem TC.later {w w' : World} {g k : Nat} {o n : Int} {t : List UInt8} {q : Option Addr} {l c : Nat} (h : TC w g k o n t q l c) (b : Below w.heap.size w w') : TC w' g k o n t q l c :=
  ⟨(b.cell (p := ⟨g, _, none⟩) h.lt).trans h.c0, (b.cell (p := ⟨g, _, none⟩) h.lt).trans h.c1, (b.cell (p := ⟨g, _, none⟩) h.lt).trans h.c2, (b.cell (p := ⟨g, _, none⟩) h.lt).trans h.c3, Nat.lt_of_lt_of_le h.lt b.size⟩
end Go.Proofs.YtabbdkdpmpjchaaGreatDoor.Ev

namespace Go.Proofs.YtabbdkdpmpjchaaGreatDoor.Ev
open Go.RowKit
open Ex Lx Va Ty
set_option linter.unusedVariables false
set_option linter.unusedSimpArgs false
def joinE (d : List V) (x : List V × Nat) : List V × Nat := if x.2 = 0 then (d ++ x.1, 0) else ([], x.2)
theorem seqE_err : ∀ l : List (V × Nat), (seqE l).2 ≠ 0 → (seqE l).1 = []
  | [], h => absurd rfl h
  | x :: r, h => by
    unfold seqE at h ⊢
    by_cases h1 : x.2 = 0
    · rw [if_pos h1] at h ⊢
      by_cases h2 : (seqE r).2 = 0
      · rw [if_pos h2] at h; exact absurd rfl h
      · rw [if_neg h2]
    · rw [if_neg h1]
theorem seqE_cons (x : V × Nat) (r : List (V × Nat)) : seqE (x :: r) = if x.2 = 0 then (if (seqE r).2 = 0 then (x.1 :: (seqE r).1, 0) else ([], (seqE r).2)) else ([], x.2) := rfl
theorem joinE_nil (l : List (V × Nat)) : seqE l = joinE [] (seqE l) := by
  unfold joinE
  by_cases h : (seqE l).2 = 0
  · rw [if_pos h, List.nil_append]; exact Prod.ext rfl h
  · rw [if_neg h]; exact Prod.ext (seqE_err l h) rfl
theorem joinE_ok (d : List V) (x : V × Nat) (r : List (V × Nat)) (h : x.2 = 0) : joinE d (seqE (x :: r)) = joinE (d ++ [x.1]) (seqE r) := by
  rw [seqE_cons, if_pos h]
  unfold joinE
  by_cases h2 : (seqE r).2 = 0
  · rw [if_pos h2, if_pos h2]; simp
  · rw [if_neg h2, if_neg h2]; simp [h2]
theorem joinE_bad (d : List V) (x : V × Nat) (r : List (V × Nat)) (h : x.2 ≠ 0) : joinE d (seqE (x :: r)) = ([], x.2) := by
  rw [seqE_cons, if_neg h]
  unfold joinE
  rw [if_neg h]
theorem joinE_end (d : List V) : joinE d (seqE []) = (d, 0) := by
  unfold joinE
  simp [seqE]
set_option maxRecDepth 100000 in
set_option maxHeartbeats 8000000 in
theorem tree_n (v : En) (r0 : Rows) (w0 : World) (op num : Int) (tx : List UInt8) (A : F) (hlen : A.len ≤ 100000) (hall : EvAll v r0 w0 A) (hgood : ∀ x ∈ evL v A, Good x.1) (hf : formedB op num tx A.len = true) (h6 : op ≠ 6) (h7 : op ≠ 7) (h40 : op ≠ 40) (h41 : op ≠ 41) : EvC v r0 w0 ⟨op, num, tx, A⟩ := by
  intro p c w hw hfa
  unfold envC
  simp only at hfa ⊢
  have hT : evT v ⟨op, num, tx, A⟩ = if (seqE (evL v A)).2 = 0 then opE op num tx (seqE (evL v A)).1 else (zeroV, (seqE (evL v A)).2) := by
    show nodeE v op num tx (evL v A) = _
    unfold nodeE
    rw [if_neg h6, if_neg h7, if_neg (by omega)]
  generalize hr : r0 = r at *
  have hb0 := (((Below.refl w.heap.size w).alloc (Nat.le_refl _) (.cells #[.slice r.pa v.attrs.length r.ca, .slice r.pv v.vals.length r.cv, .slice r.pn v.names.length r.cn, .slice r.pf v.fields.length r.cf] 55)).alloc (by simp) (.cells #[.int .i64 op, .int .i64 num, .string (S tx), .slice p A.len c] 24)).alloc (by simp; omega) (.cells #[.int .i64 0, .int .i64 0, .string ⟨#[]⟩, .slice none 0 0] 52)
  obtain ⟨w4, hmk, hrow4, hb4⟩ := make_v (fun g => g < w0.heap.size ∨ (((w.alloc (.cells #[.slice r.pa v.attrs.length r.ca, .slice r.pv v.vals.length r.cv, .slice r.pn v.names.length r.cn, .slice r.pf v.fields.length r.cf] 55)).alloc (.cells #[.int .i64 op, .int .i64 num, .string (S tx), .slice p A.len c] 24)).alloc (.cells #[.int .i64 0, .int .i64 0, .string ⟨#[]⟩, .slice none 0 0] 52)).heap.size < g) (((w.alloc (.cells #[.slice r.pa v.attrs.length r.ca, .slice r.pv v.vals.length r.cv, .slice r.pn v.names.length r.cn, .slice r.pf v.fields.length r.cf] 55)).alloc (.cells #[.int .i64 op, .int .i64 num, .string (S tx), .slice p A.len c] 24)).alloc (.cells #[.int .i64 0, .int .i64 0, .string ⟨#[]⟩, .slice none 0 0] 52)) A.len hlen
  have HE := Lib.hid (show EB (((w.alloc (.cells #[.slice r.pa v.attrs.length r.ca, .slice r.pv v.vals.length r.cv, .slice r.pn v.names.length r.cn, .slice r.pf v.fields.length r.cf] 55)).alloc (.cells #[.int .i64 op, .int .i64 num, .string (S tx), .slice p A.len c] 24)).alloc (.cells #[.int .i64 0, .int .i64 0, .string ⟨#[]⟩, .slice none 0 0] 52)) w.heap.size v r from EB.later (EB.later (heap_alloc_new w (.cells (envC v r) 55)) ((Below.refl _ _).alloc (Nat.le_refl _) _)) ((Below.refl _ _).alloc (Nat.le_refl _) _))
  have HXB := Lib.hid (show Bx (((w.alloc (.cells #[.slice r.pa v.attrs.length r.ca, .slice r.pv v.vals.length r.cv, .slice r.pn v.names.length r.cn, .slice r.pf v.fields.length r.cf] 55)).alloc (.cells #[.int .i64 op, .int .i64 num, .string (S tx), .slice p A.len c] 24)).alloc (.cells #[.int .i64 0, .int .i64 0, .string ⟨#[]⟩, .slice none 0 0] 52)) (w.heap.size + 1) (.int .i64 op) (.int .i64 num) (.string (S tx)) (.slice p A.len c) from laterE (new_box (w.alloc (.cells #[.slice r.pa v.attrs.length r.ca, .slice r.pv v.vals.length r.cv, .slice r.pn v.names.length r.cn, .slice r.pf v.fields.length r.cf] 55)) _ _ _ (by simp)) ((Below.refl _ _).alloc (Nat.le_refl _) _))
  have HV := Lib.hid (VB.new ((w.alloc (.cells #[.slice r.pa v.attrs.length r.ca, .slice r.pv v.vals.length r.cv, .slice r.pn v.names.length r.cn, .slice r.pf v.fields.length r.cf] 55)).alloc (.cells #[.int .i64 op, .int .i64 num, .string (S tx), .slice p A.len c] 24)) (.int .i64 0) (.int .i64 0) (.string ⟨#[]⟩) (.slice none 0 0) (w.heap.size + 1 + 1) (by simp))
  have hsz3 : (((w.alloc (.cells #[.slice r.pa v.attrs.length r.ca, .slice r.pv v.vals.length r.cv, .slice r.pn v.names.length r.cn, .slice r.pf v.fields.length r.cf] 55)).alloc (.cells #[.int .i64 op, .int .i64 num, .string (S tx), .slice p A.len c] 24)).alloc (.cells #[.int .i64 0, .int .i64 0, .string ⟨#[]⟩, .slice none 0 0] 52)).heap.size = w.heap.size + 1 + 1 + 1 := by simp
  have hwW := hw.trans (hb0.mono hw.size)
  have hpx := (laterE HXB.out hb4).c3
  obtain ⟨W3, hW3⟩ : ∃ W3, W3 = (((w.alloc (.cells #[.slice r.pa v.attrs.length r.ca, .slice r.pv v.vals.length r.cv, .slice r.pn v.names.length r.cn, .slice r.pf v.fields.length r.cf] 55)).alloc (.cells #[.int .i64 op, .int .i64 num, .string (S tx), .slice p A.len c] 24)).alloc (.cells #[.int .i64 0, .int .i64 0, .string ⟨#[]⟩, .slice none 0 0] 52)) := ⟨_, rfl⟩
  have hW3' := Lib.hid hW3
  obtain ⟨H, hH⟩ : ∃ H, H = (((w.alloc (.cells #[.slice r.pa v.attrs.length r.ca, .slice r.pv v.vals.length r.cv, .slice r.pn v.names.length r.cn, .slice r.pf v.fields.length r.cf] 55)).alloc (.cells #[.int .i64 op, .int .i64 num, .string (S tx), .slice p A.len c] 24)).alloc (.cells #[.int .i64 0, .int .i64 0, .string ⟨#[]⟩, .slice none 0 0] 52)).heap.size := ⟨_, rfl⟩
  rw [← hH] at hmk hrow4 hb4 hsz3
  have HHW := Lib.hid (show w.heap.size + 3 = H by omega)
  have HHS := Lib.hid (show (((w.alloc (.cells #[.slice r.pa v.attrs.length r.ca, .slice r.pv v.vals.length r.cv, .slice r.pn v.names.length r.cn, .slice r.pf v.fields.length r.cf] 55)).alloc (.cells #[.int .i64 op, .int .i64 num, .string (S tx), .slice p A.len c] 24)).alloc (.cells #[.int .i64 0, .int .i64 0, .string ⟨#[]⟩, .slice none 0 0] 52)).heap.size = H from hH.symm)
  have HMK := Lib.hid hmk
  have HROW := Lib.hid hrow4
  have HB4 := Lib.hid hb4
  have HB0 := Lib.hid hb0
  have HWW := Lib.hid hwW
  have HLT := Lib.hid hw.size
  have HF := Lib.hid hfa
  have HALL := Lib.hid hall
  have HG := Lib.hid hgood
  have HTE := Lib.hid hT
  have HNO := Lib.hid (fun (ok : Nat → Prop) (d : List V) (hd : ∀ x ∈ d, Good x) (hl : d.length = A.len) (a : Option Addr) (W : World) (hx : VsAt ok W a d) => show Calls Tryz.prog 62 #[.agg #[.int .i64 op, .int .i64 num, .string (S tx), .slice p A.len c], .slice a A.len A.len] W fun e w' => CameF W.heap.size (opE op num tx d) e w' ∧ Below W.heap.size W w' from by have h := node_any ok op num tx p A.len c d hd (by rw [hl]; exact hf) h6 h7 h40 h41 a A.len W hx; rw [hl] at h; exact h)
  have e6 : (op == 6) = false := by simpa using h6
  have e7 : (op == 7) = false := by simpa using h7
  have e40 : (op == 40) = false := by simpa using h40
  have e41 : (op == 41) = false := by simpa using h41
  have hki : (A.len : Int) ≤ 100000 := by omega
  have hmk2 := hmk
  clear hb0 hrow4 hb4 hw hfa hall hgood hT hmk hH hsz3 hwW hf h6 h7 h40 h41 hW3
  go_enter Tryz.func34, Tryz.ntmps34
  go_wp2_with fail
  clear hmk2 hpx
  go_loopw [41] (fun iv wr => ∃ (i : Nat) (l : F) (d : List V) (pr : Option Addr), iv = .int .i64 i ∧ i + l.len = A.len ∧ i = d.length ∧ EvAll v r w0 l ∧ (∀ x ∈ evL v l, Good x.1) ∧ (∀ x ∈ d, Good x) ∧ FAt w0 (fun _ => True) l pr ∧ (∀ g k, pr = some ⟨g, k, none⟩ → l ≠ .nil → ∃ k0, p = some ⟨g, k0, none⟩ ∧ k = k0 + 4 * i) ∧
    seqE (evL v A) = joinE d (seqE (evL v l)) ∧ VRow (fun g => g < w0.heap.size ∨ H < g) wr H A.len d ∧ Below H (((w.alloc (.cells #[.slice r.pa v.attrs.length r.ca, .slice r.pv v.vals.length r.cv, .slice r.pn v.names.length r.cn, .slice r.pf v.fields.length r.cf] 55)).alloc (.cells #[.int .i64 op, .int .i64 num, .string (S tx), .slice p A.len c] 24)).alloc (.cells #[.int .i64 0, .int .i64 0, .string ⟨#[]⟩, .slice none 0 0] 52)) wr) (fun iv _ => A.len - (intOf iv).toNat)
  case atStart => exact ⟨0, A, [], p, rfl, by omega, rfl, HALL.out, HG.out, (fun _ h => by cases h), HF.out, (fun g k e _ => ⟨k, e, by omega⟩), joinE_nil _, HROW.out, HB4.out⟩
  case round =>
    obtain ⟨i, l, d, pr, rfl, hil, hid, hal, hgl, hgd, hfr, hpr, hsq, hrow, hbe⟩ := hrel
    have hbW : Below (((w.alloc (.cells #[.slice r.pa v.attrs.length r.ca, .slice r.pv v.vals.length r.cv, .slice r.pn v.names.length r.cn, .slice r.pf v.fields.length r.cf] 55)).alloc (.cells #[.int .i64 op, .int .i64 num, .string (S tx), .slice p A.len c] 24)).alloc (.cells #[.int .i64 0, .int .i64 0, .string ⟨#[]⟩, .slice none 0 0] 52)).heap.size (((w.alloc (.cells #[.slice r.pa v.attrs.length r.ca, .slice r.pv v.vals.length r.cv, .slice r.pn v.names.length r.cn, .slice r.pf v.fields.length r.cf] 55)).alloc (.cells #[.int .i64 op, .int .i64 num, .string (S tx), .slice p A.len c] 24)).alloc (.cells #[.int .i64 0, .int .i64 0, .string ⟨#[]⟩, .slice none 0 0] 52)) wr := by rw [HHS.out]; exact hbe
    have heb := HE.out.later hbW
    have q0 := heb.c0
    have q1 := heb.c1
    have q2 := heb.c2
    have q3 := heb.c3
    have hx := laterE HXB.out hbW
    have p0 := hx.c0
    have p1 := hx.c1
    have p2 := hx.c2
    have p3 := hx.c3
    have hlt := hrow.lt
    have hle := Nat.le_of_lt hlt
    cases l with
    | nil =>
      have hil2 : i = A.len := by simpa [F.len] using hil
      have hie : ¬ (i : Int) < (A.len : Int) := by omega
      have hdl : d.length = A.len := by omega
      have hsq2 : seqE (evL v A) = (d, 0) := hsq.trans (joinE_end d)
      have hTE := HTE.out
      rw [hsq2] at hTE
      simp only [if_true] at hTE
      have HN := Lib.hid (HNO.out _ d hgd hdl _ wr hrow.at_)
      have HBE := Lib.hid hbe
      have HTT := Lib.hid hTE
      have HBWW := Lib.hid hbW
      have HLE := Lib.hid hle
      clear hbe hx hrow hsq hsq2 hTE hfr hpr hal hgl heb hbW hlt hle hgd hdl hil hid
      subst hil2
      rw [← HTT.out] at HN
      obtain ⟨X, hXX⟩ : ∃ X, X = evT v ⟨op, num, tx, A⟩ := ⟨_, rfl⟩
      rw [← hXX] at HN
      have HXX := Lib.hid hXX
      clear hXX HTT HTE
      by_cases h0 : X.2 = 0
      · have HN2 := Lib.hid (HN.out.mono (R' := fun e w' => (∃ a c, e = .returned (valC X.1 a c) ∧ FrAt wr.heap.size w' a X.1.list c) ∧ Below wr.heap.size wr w') (fun e w' h => ⟨by
          rcases h.1 with ⟨_, h⟩ | ⟨h, _⟩
          · exact h
          · exact absurd h0 h, h.2⟩))
        clear HN
        obtain ⟨⟨xk, xn, xt, xl⟩, er⟩ := X
        unfold valC at HN2
        simp only at HN2 h0
        subst h0
        generalize hxl : xl.length = lx at *
        go_wp2_with fail
        refine HN2.out.mono ?_
        rintro e w5 ⟨⟨a', c', rfl, hfr⟩, b5⟩
        have hb5 := HBWW.out.trans (b5.mono (by rw [HHS.out]; exact HLE.out))
        have hnb := HV.out.later hb5
        have fz := hnb.fz
        have k0 := hnb.c0
        have k1 := hnb.c1
        have k2 := hnb.c2
        have k3 := hnb.c3
        have HP := Lib.hid (hnb.put (.int .i64 xk) (.int .i64 xn) (.string (S xt)) (.slice a' lx c'))
        have HBP := Lib.hid (below_put (HB0.out.trans (hb5.mono HB0.out.size)) (w.heap.size + 1 + 1) (by omega) (.int .i64 xk) (.int .i64 xn) (.string (S xt)) (.slice a' lx c'))
        have HLA := Lib.hid (LAt.of_fr (ok := fun g => g < w0.heap.size ∨ w.heap.size ≤ g) ((fr_put (H := w.heap.size + 1 + 1) hfr (by have := HLE.out; have := HHW.out; omega) (.int .i64 xk) (.int .i64 xn) (.string (S xt)) (.slice a' lx c')).mono (B' := w.heap.size) (by have := HLE.out; have := HHW.out; omega)) (fun g h => .inr h))
        clear b5 hnb hb5 hfr
        go_wp2_with fail
        exact bodyPost_ret (res_val rfl _ _ _ _ _ _ _ rfl HP.out) rfl ⟨by rw [← HXX.out]; exact .inl ⟨rfl, a', c', by rw [← hxl]; rfl, HLA.out⟩, HBP.out⟩
      · have HN2 := Lib.hid (HN.out.mono (R' := fun e w' => e = panE X.2 ∧ Below wr.heap.size wr w') (fun e w' h => ⟨by
          rcases h.1 with ⟨h, _⟩ | ⟨_, h⟩
          · exact absurd h h0
          · exact h, h.2⟩))
        clear HN
        go_wp2_with fail
        refine HN2.out.mono ?_
        rintro e w5 ⟨rfl, b5⟩
        have HB5 := Lib.hid (HB0.out.trans ((HBWW.out.trans (b5.mono (by rw [HHS.out]; exact HLE.out))).mono HB0.out.size))
        clear b5
        unfold panE
        go_wp2_with fail
        exact ⟨rfl, by rw [← HXX.out]; exact .inr ⟨h0, rfl⟩, HB5.out⟩
    | cons o nm tt a l =>
      obtain ⟨g, k, q, cc, rfl, _, hgl0, f0, f1, f2, f3, hfa, hfr2⟩ := hfr
      obtain ⟨k0, rfl, rfl⟩ := hpr g k rfl (by intro e; cases e)
      have hil2 : i + (l.len + 1) = A.len := by simpa [F.len] using hil
      have hie : (i : Int) < (A.len : Int) := by omega
      rw [show k0 + 4 * i = k0 + i * 4 by omega] at f0 f1 f2 f3
      have hwr := HWW.out.trans (hbW.mono HWW.out.size)
      obtain ⟨f0, f1, f2, f3, _⟩ := (TC.mk f0 f1 f2 f3 hgl0).later hwr
      have zb : ∀ o j, (wr.alloc o).cell? ⟨w.heap.size, j, none⟩ = wr.cell? ⟨w.heap.size, j, none⟩ := fun o j => zcell wr o _ j (by have := HHW.out; omega)
      have ba := (Below.refl wr.heap.size wr).alloc (Nat.le_refl _) (.cells #[.int .i64 o, .int .i64 nm, .string (S tt), .slice q a.len cc] 24)
      have hcall := hal.1 q cc (wr.alloc (.cells #[.int .i64 o, .int .i64 nm, .string (S tt), .slice q a.len cc] 24)) (hwr.trans (ba.mono hwr.size)) hfa
      unfold envC at hcall
      simp only at hcall
      have hgx : Good (evT v ⟨o, nm, tt, a⟩).1 := hgl _ (by show evT v ⟨o, nm, tt, a⟩ ∈ evT v ⟨o, nm, tt, a⟩ :: evL v l; simp)
      have hcons : evL v (.cons o nm tt a l) = evT v ⟨o, nm, tt, a⟩ :: evL v l := rfl
      rw [hcons] at hsq
      have HBA := Lib.hid ba
      have HROW1 := Lib.hid hrow
      have HBE := Lib.hid hbe
      have HBWW := Lib.hid hbW
      have HAL := Lib.hid hal.2
      have HFR := Lib.hid hfr2
      have HGL := Lib.hid (fun x (hx : x ∈ evL v l) => hgl x (by rw [hcons]; simp [hx]))
      have HGD := Lib.hid hgd
      have HID := Lib.hid hid
      have HLE := Lib.hid hle
      clear hrow hbe ba hal hfa hfr2 hpr hx hgl hgd hid heb hbW hwr hcons hgl0
      generalize evT v ⟨o, nm, tt, a⟩ = X at *
      have HSQ := Lib.hid hsq
      have HGX := Lib.hid hgx
      clear hsq hgx
      by_cases h0 : X.2 = 0
      · have HN2 := Lib.hid (hcall.mono (R' := fun e w' => (∃ a c, e = .returned (valC X.1 a c) ∧ LAt (fun g => g < w0.heap.size ∨ H < g) w' a X.1.list c) ∧ Below (wr.alloc (.cells #[.int .i64 o, .int .i64 nm, .string (S tt), .slice q a.len cc] 24)).heap.size (wr.alloc (.cells #[.int .i64 o, .int .i64 nm, .string (S tt), .slice q a.len cc] 24)) w') (fun e w' h => ⟨by
          obtain ⟨a', c', he, hl⟩ := h.1.ret h0
          exact ⟨a', c', he, hl.mono fun g hg => by
            rcases hg with hg | hg
            · exact .inl hg
            · exact .inr (by simp at hg; omega)⟩, h.2⟩))
        clear hcall
        have HSQ2 := Lib.hid (HSQ.out.trans (joinE_ok d X (evL v l) h0))
        clear HSQ
        obtain ⟨⟨xk, xn, xt, xl⟩, er⟩ := X
        unfold valC at HN2
        simp only at HN2 h0 HSQ2 HGX
        subst h0
        go_wp2_with fail
        refine HN2.out.mono ?_
        rintro e w5 ⟨⟨a', c', rfl, hla⟩, b5⟩
        have b6 := HBA.out.trans (b5.mono HBA.out.size)
        have hrow6 := HROW1.out.later b6
        obtain ⟨u0, g0⟩ := hrow6.room i 0 (by omega) (by omega)
        obtain ⟨u1, g1⟩ := hrow6.room i 1 (by omega) (by omega)
        obtain ⟨u2, g2⟩ := hrow6.room i 2 (by omega) (by omega)
        obtain ⟨u3, g3⟩ := hrow6.room i 3 (by omega) (by omega)
        have fz := hrow6.fz
        rw [Nat.add_zero] at g0
        have HR7 := Lib.hid (hrow6.put (by show ¬ (H < w0.heap.size ∨ H < H); have := HLT.out; have := HHW.out; omega) i HID.out (by omega) ⟨xk, xn, xt, xl⟩ a' c' hla)
        have HB7 := Lib.hid (putV_below (HBE.out.trans (b6.mono HLE.out)) H i (Nat.le_refl _) ⟨xk, xn, xt, xl⟩ a' c')
        clear b5 b6 hrow6 hla
        go_wp2_with fail
        go_roundw
        case rel => exact ⟨i + 1, l, d ++ [(⟨xk, xn, xt, xl⟩ : V)], some ⟨g, k0 + 4 * i + 4, none⟩, by go_num, by omega, by have := HID.out; simp; omega, HAL.out, HGL.out, (fun x hx => by
          rcases List.mem_append.1 hx with hx | hx
          · exact HGD.out x hx
          · rw [List.mem_singleton.1 hx]; exact HGX.out), HFR.out, (fun g' k' e _ => by injection e with e; injection e with e1 e2 _; subst e1 e2; exact ⟨k0, rfl, by omega⟩), HSQ2.out, HR7.out, HB7.out⟩
        case measure => simp [intOf]; omega
      · have HN2 := Lib.hid (hcall.mono (R' := fun e w' => e = panE X.2 ∧ Below (wr.alloc (.cells #[.int .i64 o, .int .i64 nm, .string (S tt), .slice q a.len cc] 24)).heap.size (wr.alloc (.cells #[.int .i64 o, .int .i64 nm, .string (S tt), .slice q a.len cc] 24)) w') (fun e w' h => ⟨h.1.pan h0, h.2⟩))
        clear hcall
        have hsq2 := HSQ.out.trans (joinE_bad d X (evL v l) h0)
        have hTE := HTE.out
        rw [hsq2, if_neg h0] at hTE
        have HTT := Lib.hid hTE
        clear hsq2 hTE HSQ
        go_wp2_with fail
        refine HN2.out.mono ?_
        rintro e w5 ⟨rfl, b5⟩
        have HB5 := Lib.hid (HB0.out.trans ((HBWW.out.trans ((HBA.out.trans (b5.mono HBA.out.size)).mono (by rw [HHS.out]; exact HLE.out))).mono HB0.out.size))
        clear b5
        unfold panE
        go_wp2_with fail
        exact ⟨rfl, by rw [HTT.out]; exact .inr ⟨h0, rfl⟩, HB5.out⟩
end Go.Proofs.YtabbdkdpmpjchaaGreatDoor.Ev
