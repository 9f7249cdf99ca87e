/-
  EvTree, EvRnF.
-/
import Derived.Test.YtlmmfhbdebfgkaaGreatDoorVEvNodeBQ
import Derived.Test.YtlmmfhbdebfgkaaGreatDoorVEvRnAQ
set_option linter.unusedVariables false
set_option linter.unusedSimpArgs false
set_option maxRecDepth 100000
set_option maxHeartbeats 4000000
namespace Go.Proofs.YtlmmfhbdebfgkaaGreatDoor.Ev
open Go.RowKit
open Ex Lx Va Ty
structure EnAt (w : World) (pa pv pn pf : Option Addr) (v : En) : Prop where
  attrs : AttrsAt w pa v.attrs
  vals : VsAt (· < w.heap.size) w pv v.vals
  names : AttrsAt w pn v.names
  fields : VsAt (· < w.heap.size) w pf v.fields
structure EnFit (v : En) : Prop where
  attrs : v.attrs.length ≤ 281474976710656
  vals : v.vals.length ≤ 281474976710656
  names : v.names.length ≤ 281474976710656
  fields : v.fields.length ≤ 281474976710656
  gvals : ∀ x ∈ v.vals, Good x
  gfields : ∀ x ∈ v.fields, Good x
structure Rows where
  pa : Option Addr
  pv : Option Addr
  pn : Option Addr
  pf : Option Addr
  ca : Nat
  cv : Nat
  cn : Nat
  cf : Nat
def envC (v : En) (r : Rows) : Array Value := #[.slice r.pa v.attrs.length r.ca, .slice r.pv v.vals.length r.cv, .slice r.pn v.names.length r.cn, .slice r.pf v.fields.length r.cf]
def EvC (v : En) (r : Rows) (w0 : World) (t : T) : Prop := ∀ (p : Option Addr) (c : Nat) (w : World), Below w0.heap.size w0 w → FAt w0 (fun _ => True) t.args p →
  Calls Tryz.prog 31 #[.agg (envC v r), .agg #[.int .i64 t.op, .int .i64 t.num, .string (S t.text), .slice p t.args.len c]] w fun e w' => CameIn (fun g => g < w0.heap.size ∨ w.heap.size ≤ g) (evT v t) e w' ∧ Below w.heap.size w w'
def EvAll (v : En) (r : Rows) (w0 : World) : F → Prop
  | .nil => True
  | .cons o n t a l => EvC v r w0 ⟨o, n, t, a⟩ ∧ EvAll v r w0 l
theorem CameIn.ret {ok : Nat → Prop} {x : V × Nat} {e : Ending} {w : World} (h : CameIn ok x e w) (h0 : x.2 = 0) : ∃ a c, e = .returned (valC x.1 a c) ∧ LAt ok w a x.1.list c := by
  rcases h with ⟨_, h⟩ | ⟨h, _⟩
  · exact h
  · exact absurd h0 h
theorem CameIn.pan {ok : Nat → Prop} {x : V × Nat} {e : Ending} {w : World} (h : CameIn ok x e w) (h0 : x.2 ≠ 0) : e = panE x.2 := by
  rcases h with ⟨h, _⟩ | ⟨_, h⟩
  · exact absurd h h0
  · exact h
theorem tree_6 (v : En) (r : Rows) (w0 : World) (hen : EnAt w0 r.pa r.pv r.pn r.pf v) (hf : EnFit v) (n : Int) (t : List UInt8) (A : F) : EvC v r w0 ⟨6, n, t, A⟩ := by
  intro p c w hw hfa
  have hT : evT v ⟨6, n, t, A⟩ = namedV v.attrs v.vals t := rfl
  rw [hT]
  unfold envC
  simp only
  have hb := (((Below.refl w.heap.size w).alloc (Nat.le_refl _) (.cells #[.slice r.pa v.attrs.length r.ca, .slice r.pv v.vals.length r.cv, .slice r.pn v.names.length r.cn, .slice r.pf v.fields.length r.cf] 55)).alloc (by simp) (.cells #[.int .i64 6, .int .i64 n, .string (S t), .slice p A.len c] 24)).alloc (by simp; omega) (.cells #[.int .i64 0, .int .i64 0, .string ⟨#[]⟩, .slice none 0 0] 52)
  have HV := Lib.hid (VB.new ((w.alloc (.cells #[.slice r.pa v.attrs.length r.ca, .slice r.pv v.vals.length r.cv, .slice r.pn v.names.length r.cn, .slice r.pf v.fields.length r.cf] 55)).alloc (.cells #[.int .i64 6, .int .i64 n, .string (S t), .slice p A.len c] 24)) (.int .i64 0) (.int .i64 0) (.string ⟨#[]⟩) (.slice none 0 0) (w.heap.size + 1 + 1) (by simp))
  have HN := Lib.hid (fun (W : World) (k : Below (((w.alloc (.cells #[.slice r.pa v.attrs.length r.ca, .slice r.pv v.vals.length r.cv, .slice r.pn v.names.length r.cn, .slice r.pf v.fields.length r.cf] 55)).alloc (.cells #[.int .i64 6, .int .i64 n, .string (S t), .slice p A.len c] 24)).alloc (.cells #[.int .i64 0, .int .i64 0, .string ⟨#[]⟩, .slice none 0 0] 52)).heap.size (((w.alloc (.cells #[.slice r.pa v.attrs.length r.ca, .slice r.pv v.vals.length r.cv, .slice r.pn v.names.length r.cn, .slice r.pf v.fields.length r.cf] 55)).alloc (.cells #[.int .i64 6, .int .i64 n, .string (S t), .slice p A.len c] 24)).alloc (.cells #[.int .i64 0, .int .i64 0, .string ⟨#[]⟩, .slice none 0 0] 52)) W) => named_any (· < w0.heap.size) v.attrs v.vals t r.pa r.pv r.ca r.cv W (hen.attrs.later (hw.trans ((hb.trans (k.mono hb.size)).mono hw.size))) hf.attrs (hen.vals.below (hw.trans ((hb.trans (k.mono hb.size)).mono hw.size))) (fun g hg => Nat.lt_of_lt_of_le hg (Nat.le_trans hw.size (Nat.le_trans hb.size k.size))) hf.vals)
  have HB := Lib.hid hb
  have HLT := Lib.hid hw.size
  clear hb hen hf hT hw hfa
  generalize namedV v.attrs v.vals t = R at *
  by_cases h0 : R.2 = 0
  · have HN2 := Lib.hid (fun W k => (HN.out W k).mono (R' := fun e w' => (∃ a c, e = .returned (valC R.1 a c) ∧ LAt (· < w0.heap.size) w' a R.1.list c) ∧ Below W.heap.size W w') (fun e w' h => ⟨h.1.ret h0, h.2⟩))
    clear HN
    obtain ⟨⟨xk, xn, xt, xl⟩, er⟩ := R
    unfold valC at HN2
    simp only at HN2 h0
    subst h0
    generalize hxl : xl.length = lx at *
    go_enter Tryz.func31, Tryz.ntmps31
    go_wp2_with fail
    refine (HN2.out _ (by first | exact Below.refl _ _ | exact (Below.refl _ _).drew)).mono ?_
    rintro e w3 ⟨⟨a', c', rfl, hla⟩, b3⟩
    have hnb := HV.out.later b3
    have fz := hnb.fz
    have k0 := hnb.c0
    have k1 := hnb.c1
    have k2 := hnb.c2
    have k3 := hnb.c3
    have HP := Lib.hid (hnb.put (.int .i64 xk) (.int .i64 xn) (.string (S xt)) (.slice a' lx c'))
    have HBE := Lib.hid (below_put (HB.out.trans (b3.mono HB.out.size)) (w.heap.size + 1 + 1) (by omega) (.int .i64 xk) (.int .i64 xn) (.string (S xt)) (.slice a' lx c'))
    have HLA := Lib.hid ((hla.keep (Kept.put _ (w.heap.size + 1 + 1) (.int .i64 xk) (.int .i64 xn) (.string (S xt)) (.slice a' lx c') (fun h => by have := HLT.out; omega))).mono (ok' := fun g => g < w0.heap.size ∨ w.heap.size ≤ g) (fun g h => .inl h))
    clear hnb hla
    go_wp2_with fail
    exact bodyPost_ret (res_val rfl _ _ _ _ _ _ _ rfl HP.out) rfl ⟨.inl ⟨rfl, a', c', by rw [← hxl]; rfl, HLA.out⟩, HBE.out⟩
  · have HN2 := Lib.hid (fun W k => (HN.out W k).mono (R' := fun e w' => e = panE R.2 ∧ Below W.heap.size W w') (fun e w' h => ⟨h.1.pan h0, h.2⟩))
    clear HN
    go_enter Tryz.func31, Tryz.ntmps31
    go_wp2_with fail
    refine (HN2.out _ (by first | exact Below.refl _ _ | exact (Below.refl _ _).drew)).mono ?_
    rintro e w2 ⟨rfl, b2⟩
    unfold panE
    go_wp2_with fail
    exact ⟨rfl, .inr ⟨h0, rfl⟩, HB.out.trans (b2.mono HB.out.size)⟩
theorem tree_7 (v : En) (r : Rows) (w0 : World) (hen : EnAt w0 r.pa r.pv r.pn r.pf v) (hf : EnFit v) (n : Int) (t : List UInt8) (A : F) : EvC v r w0 ⟨7, n, t, A⟩ := by
  intro p c w hw hfa
  have hT : evT v ⟨7, n, t, A⟩ = namedV v.names v.fields t := rfl
  rw [hT]
  unfold envC
  simp only
  have hb := (((Below.refl w.heap.size w).alloc (Nat.le_refl _) (.cells #[.slice r.pa v.attrs.length r.ca, .slice r.pv v.vals.length r.cv, .slice r.pn v.names.length r.cn, .slice r.pf v.fields.length r.cf] 55)).alloc (by simp) (.cells #[.int .i64 7, .int .i64 n, .string (S t), .slice p A.len c] 24)).alloc (by simp; omega) (.cells #[.int .i64 0, .int .i64 0, .string ⟨#[]⟩, .slice none 0 0] 52)
  have HV := Lib.hid (VB.new ((w.alloc (.cells #[.slice r.pa v.attrs.length r.ca, .slice r.pv v.vals.length r.cv, .slice r.pn v.names.length r.cn, .slice r.pf v.fields.length r.cf] 55)).alloc (.cells #[.int .i64 7, .int .i64 n, .string (S t), .slice p A.len c] 24)) (.int .i64 0) (.int .i64 0) (.string ⟨#[]⟩) (.slice none 0 0) (w.heap.size + 1 + 1) (by simp))
  have HN := Lib.hid (fun (W : World) (k : Below (((w.alloc (.cells #[.slice r.pa v.attrs.length r.ca, .slice r.pv v.vals.length r.cv, .slice r.pn v.names.length r.cn, .slice r.pf v.fields.length r.cf] 55)).alloc (.cells #[.int .i64 7, .int .i64 n, .string (S t), .slice p A.len c] 24)).alloc (.cells #[.int .i64 0, .int .i64 0, .string ⟨#[]⟩, .slice none 0 0] 52)).heap.size (((w.alloc (.cells #[.slice r.pa v.attrs.length r.ca, .slice r.pv v.vals.length r.cv, .slice r.pn v.names.length r.cn, .slice r.pf v.fields.length r.cf] 55)).alloc (.cells #[.int .i64 7, .int .i64 n, .string (S t), .slice p A.len c] 24)).alloc (.cells #[.int .i64 0, .int .i64 0, .string ⟨#[]⟩, .slice none 0 0] 52)) W) => named_any (· < w0.heap.size) v.names v.fields t r.pn r.pf r.cn r.cf W (hen.names.later (hw.trans ((hb.trans (k.mono hb.size)).mono hw.size))) hf.names (hen.fields.below (hw.trans ((hb.trans (k.mono hb.size)).mono hw.size))) (fun g hg => Nat.lt_of_lt_of_le hg (Nat.le_trans hw.size (Nat.le_trans hb.size k.size))) hf.fields)
  have HB := Lib.hid hb
  have HLT := Lib.hid hw.size
  clear hb hen hf hT hw hfa
  generalize namedV v.names v.fields t = R at *
  by_cases h0 : R.2 = 0
  · have HN2 := Lib.hid (fun W k => (HN.out W k).mono (R' := fun e w' => (∃ a c, e = .returned (valC R.1 a c) ∧ LAt (· < w0.heap.size) w' a R.1.list c) ∧ Below W.heap.size W w') (fun e w' h => ⟨h.1.ret h0, h.2⟩))
    clear HN
    obtain ⟨⟨xk, xn, xt, xl⟩, er⟩ := R
    unfold valC at HN2
    simp only at HN2 h0
    subst h0
    generalize hxl : xl.length = lx at *
    go_enter Tryz.func31, Tryz.ntmps31
    go_wp2_with fail
    refine (HN2.out _ (by first | exact Below.refl _ _ | exact (Below.refl _ _).drew)).mono ?_
    rintro e w3 ⟨⟨a', c', rfl, hla⟩, b3⟩
    have hnb := HV.out.later b3
    have fz := hnb.fz
    have k0 := hnb.c0
    have k1 := hnb.c1
    have k2 := hnb.c2
    have k3 := hnb.c3
    have HP := Lib.hid (hnb.put (.int .i64 xk) (.int .i64 xn) (.string (S xt)) (.slice a' lx c'))
    have HBE := Lib.hid (below_put (HB.out.trans (b3.mono HB.out.size)) (w.heap.size + 1 + 1) (by omega) (.int .i64 xk) (.int .i64 xn) (.string (S xt)) (.slice a' lx c'))
    have HLA := Lib.hid ((hla.keep (Kept.put _ (w.heap.size + 1 + 1) (.int .i64 xk) (.int .i64 xn) (.string (S xt)) (.slice a' lx c') (fun h => by have := HLT.out; omega))).mono (ok' := fun g => g < w0.heap.size ∨ w.heap.size ≤ g) (fun g h => .inl h))
    clear hnb hla
    go_wp2_with fail
    exact bodyPost_ret (res_val rfl _ _ _ _ _ _ _ rfl HP.out) rfl ⟨.inl ⟨rfl, a', c', by rw [← hxl]; rfl, HLA.out⟩, HBE.out⟩
  · have HN2 := Lib.hid (fun W k => (HN.out W k).mono (R' := fun e w' => e = panE R.2 ∧ Below W.heap.size W w') (fun e w' h => ⟨h.1.pan h0, h.2⟩))
    clear HN
    go_enter Tryz.func31, Tryz.ntmps31
    go_wp2_with fail
    refine (HN2.out _ (by first | exact Below.refl _ _ | exact (Below.refl _ _).drew)).mono ?_
    rintro e w2 ⟨rfl, b2⟩
    unfold panE
    go_wp2_with fail
    exact ⟨rfl, .inr ⟨h0, rfl⟩, HB.out.trans (b2.mono HB.out.size)⟩
end Go.Proofs.YtlmmfhbdebfgkaaGreatDoor.Ev
namespace Go.Proofs.YtlmmfhbdebfgkaaGreatDoor.Ev
open Go.RowKit
open Ex Lx Va Ty
theorem namedV_hit : ∀ (l : List AttrP) (vs : List V) (n : List UInt8) (k : Nat) (hk : k < l.length), (∀ j (hj : j < l.length), j < k → (l[j].name == n) = false) → (l[k].name == n) = true → namedV l vs n = (match vs[k]? with
    | some v => if v.kind = 0 then (zeroV, 22) else (v, 0)
    | none => (zeroV, 22))
  | a :: r, vs, n, 0, _, _, h => by
    have ha : a.name = n := by simpa using h
    unfold namedV
    rw [if_pos ha]
    cases vs <;> rfl
  | a :: r, vs, n, k + 1, hk, h0, h => by
    have h1 : (a.name == n) = false := h0 0 (by simp) (by omega)
    have ha : ¬ a.name = n := by simpa using h1
    unfold namedV
    rw [if_neg ha]
    have := namedV_hit r vs.tail n k (by simpa using hk) (fun j hj hjk => h0 (j + 1) (by simpa using hj) (by omega)) h
    rw [this]
    cases vs with
    | nil => simp
    | cons v s => simp
theorem namedV_miss : ∀ (l : List AttrP) (vs : List V) (n : List UInt8), (∀ j (hj : j < l.length), (l[j].name == n) = false) → namedV l vs n = (zeroV, 22)
  | [], _, _, _ => rfl
  | a :: r, vs, n, h => by
    have h1 : (a.name == n) = false := h 0 (by simp)
    have ha : ¬ a.name = n := by simpa using h1
    unfold namedV
    rw [if_neg ha]
    exact namedV_miss r vs.tail n (fun j hj => h (j + 1) (by simpa using hj))
theorem rnamed10_any (ok : Nat → Prop) (l : List AttrP) (vs : List V) (n : List UInt8) (p q : Option Addr) (c c2 : Nat) (w : World) (hl : AttrsAt w p l) (hlen : l.length ≤ 281474976710656) (hv : VsAt ok w q vs) (hok : ∀ g, ok g → g < w.heap.size) (hvl : vs.length ≤ 281474976710656) :
    Calls Tryz.prog 62 #[.slice p l.length c, .slice q vs.length c2, .string (S n)] w fun e w' => (∃ a c3, e = .returned (RV (namedV l vs n) a c3) ∧ LAt ok w' a (namedV l vs n).1.list c3) ∧ Below w.heap.size w w' := by
  have hki : (l.length : Int) ≤ 281474976710656 := by omega
  have hkv : (vs.length : Int) ≤ 281474976710656 := by omega
  obtain ⟨W0, hW0⟩ : ∃ W0, W0 = w.alloc (.cells #[.int .i64 0, .int .i64 0, .string ⟨#[]⟩, .slice none 0 0] 52) := ⟨_, rfl⟩
  have hb0 : Below w.heap.size w W0 := by rw [hW0]; exact (Below.refl w.heap.size w).alloc (Nat.le_refl _) _
  have hvb : VB W0 w.heap.size (.int .i64 0) (.int .i64 0) (.string ⟨#[]⟩) (.slice none 0 0) := by rw [hW0]; exact VB.new w _ _ _ _ _ rfl
  have HVB := Lib.hid hvb
  have HL := Lib.hid (hl.later hb0)
  have HV := Lib.hid (hv.below hb0)
  have HB0 := Lib.hid hb0
  have HW0 := Lib.hid hW0
  have HOK := Lib.hid hok
  obtain ⟨ANS, hANS⟩ : ∃ ANS, ANS = namedV l vs n := ⟨_, rfl⟩
  rw [← hANS]
  have HANS := Lib.hid hANS
  clear hl hv hW0 hb0 hvb hok hANS
  go_enter Tryz.func62, Tryz.ntmps62
  go_wp2_with fail
  rw [← HW0.out]
  go_loopw [12] (fun iv wr => ∃ k : Nat, k ≤ l.length ∧ iv = .int .i64 k ∧ (∀ j, (h : j < l.length) → j < k → (l[j].name == n) = false) ∧ Below W0.heap.size W0 wr) (fun iv _ => l.length - (intOf iv).toNat)
  case atStart => exact ⟨0, Nat.zero_le _, rfl, fun j _ h => absurd h (Nat.not_lt_zero _), Below.refl _ _⟩
  case round =>
    obtain ⟨k, hk, rfl, hA, hb⟩ := hrel
    have A := Lib.hid hA
    have BT := Lib.hid (HB0.out.trans (hb.mono HB0.out.size))
    clear hA
    by_cases hlt : k < l.length
    · have hlti : (k : Int) < (l.length : Int) := by omega
      obtain ⟨b, o, rfl, hbl, f0, f1, f2⟩ := (HL.out.later hb) k hlt
      obtain ⟨y, hy⟩ : ∃ y, y = l[k] := ⟨_, rfl⟩
      rw [← hy] at f0 f1 f2
      have HY := Lib.hid hy
      clear hy
      have hba := (Below.refl wr.heap.size wr).alloc (Nat.le_refl _) (.cells #[.string (S y.name), .int .i64 y.kind, .string (S y.enum)] 49)
      have HBA := Lib.hid (hb.trans (hba.mono hb.size))
      have HBT := Lib.hid (BT.out.trans (hba.mono BT.out.size))
      have hnb := (HVB.out.later hb).later hba
      cases hp : (y.name == n) with
      | true =>
        have t1 : ((S y.name).toList == (S n).toList) = true := by rw [Ty.S_beq]; exact hp
        have HR := Lib.hid (namedV_hit l vs n k hlt A.out (by rw [← HY.out]; exact hp))
        have fz := hnb.fz
        have k0 := hnb.c0
        have k1 := hnb.c1
        have k2 := hnb.c2
        have k3 := hnb.c3
        by_cases hkl : k < vs.length
        · have hkli : (k : Int) < (vs.length : Int) := by omega
          obtain ⟨bv, ov, rfl, ⟨qv, cv, v0, v1, v2, v3, v4⟩, hbv⟩ := ((HV.out.below hb).below hba) k hkl
          obtain ⟨⟨zk, zn, zt, zl⟩, hz⟩ : ∃ z, z = vs[k] := ⟨_, rfl⟩
          rw [List.getElem?_eq_getElem hkl, ← hz] at HR
          rw [← hz] at v0 v1 v2 v3 v4
          simp only at v0 v1 v2 v3 v4 HR
          have HLA := Lib.hid v4
          by_cases h0 : zk = 0
          · rw [if_pos h0] at HR
            have HE := Lib.hid (HANS.out.trans HR.out)
            have HP := Lib.hid (hnb.put (.int .i64 0) (.int .i64 0) (.string ⟨#[]⟩) (.slice none 0 0))
            have HBF := Lib.hid (below4 HBT.out w.heap.size (Nat.le_refl _) (.int .i64 0) (.int .i64 0) (.string ⟨#[]⟩) (.slice none 0 0))
            subst h0
            clear hb hba hnb hp hz v4 hkl
            go_wp2_with fail
            refine bodyPost_ret (res_val2 rfl _ _ w.heap.size _ _ _ _ (.int .i64 22) rfl HP.out rfl) rfl ?_
            exact ⟨⟨none, 0, by rw [HE.out]; rfl, by rw [HE.out]; exact ⟨fun i hi => absurd hi (Nat.not_lt_zero _), Nat.zero_le _, fun _ _ _ h => absurd rfl h⟩⟩, HBF.out⟩
          · rw [if_neg h0] at HR
            have h00 : (zk == 0) = false := by simpa using h0
            have HE := Lib.hid (HANS.out.trans HR.out)
            have HP := Lib.hid (hnb.put (.int .i64 zk) (.int .i64 zn) (.string (S zt)) (.slice qv zl.length cv))
            have HBF := Lib.hid (below4 HBT.out w.heap.size (Nat.le_refl _) (.int .i64 zk) (.int .i64 zn) (.string (S zt)) (.slice qv zl.length cv))
            have HLF := Lib.hid (v4.keep (Kept.put (ok := ok) _ w.heap.size (.int .i64 zk) (.int .i64 zn) (.string (S zt)) (.slice qv zl.length cv) (fun h => absurd (HOK.out _ h) (Nat.lt_irrefl _))))
            clear hb hba hnb hp hz v4 hkl h0
            go_wp2_with fail
            refine bodyPost_ret (res_val2 rfl _ _ w.heap.size _ _ _ _ (.int .i64 0) rfl HP.out rfl) rfl ?_
            exact ⟨⟨qv, cv, by rw [HE.out]; rfl, by rw [HE.out]; exact HLF.out⟩, HBF.out⟩
        · have hkl2 : (vs.length : Int) ≤ (k : Int) := by omega
          rw [List.getElem?_eq_none (by omega)] at HR
          have HE := Lib.hid (HANS.out.trans HR.out)
          have HP := Lib.hid (hnb.put (.int .i64 0) (.int .i64 0) (.string ⟨#[]⟩) (.slice none 0 0))
          have HBF := Lib.hid (below4 HBT.out w.heap.size (Nat.le_refl _) (.int .i64 0) (.int .i64 0) (.string ⟨#[]⟩) (.slice none 0 0))
          clear hb hba hnb hp hkl
          go_wp2_with fail
          refine bodyPost_ret (res_val2 rfl _ _ w.heap.size _ _ _ _ (.int .i64 22) rfl HP.out rfl) rfl ?_
          exact ⟨⟨none, 0, by rw [HE.out]; rfl, by rw [HE.out]; exact ⟨fun i hi => absurd hi (Nat.not_lt_zero _), Nat.zero_le _, fun _ _ _ h => absurd rfl h⟩⟩, HBF.out⟩
      | false =>
        have t1 : ((S y.name).toList == (S n).toList) = false := by rw [Ty.S_beq]; exact hp
        have HP := Lib.hid hp
        clear hb hba hnb hp
        go_wp2_with fail
        go_roundw
        case rel => exact ⟨k + 1, by omega, by go_num, fun j hj hjk => by
          by_cases e : j = k
          · subst e; rw [← HY.out]; exact HP.out
          · exact A.out j hj (by omega), HBA.out⟩
        case measure => simp [intOf]; omega
    · have hlti : ¬ (k : Int) < (l.length : Int) := by omega
      have hnb := HVB.out.later hb
      have fz := hnb.fz
      have k0 := hnb.c0
      have k1 := hnb.c1
      have k2 := hnb.c2
      have k3 := hnb.c3
      have HP := Lib.hid (hnb.put (.int .i64 0) (.int .i64 0) (.string ⟨#[]⟩) (.slice none 0 0))
      have HBF := Lib.hid (below4 BT.out w.heap.size (Nat.le_refl _) (.int .i64 0) (.int .i64 0) (.string ⟨#[]⟩) (.slice none 0 0))
      have HE := Lib.hid (HANS.out.trans (namedV_miss l vs n (fun j hj => A.out j hj (by omega))))
      clear hb hnb
      go_wp2_with fail
      refine bodyPost_ret (res_val2 rfl _ _ w.heap.size _ _ _ _ (.int .i64 22) rfl HP.out rfl) rfl ?_
      exact ⟨⟨none, 0, by rw [HE.out]; rfl, by rw [HE.out]; exact ⟨fun i hi => absurd hi (Nat.not_lt_zero _), Nat.zero_le _, fun _ _ _ h => absurd rfl h⟩⟩, HBF.out⟩
end Go.Proofs.YtlmmfhbdebfgkaaGreatDoor.Ev
