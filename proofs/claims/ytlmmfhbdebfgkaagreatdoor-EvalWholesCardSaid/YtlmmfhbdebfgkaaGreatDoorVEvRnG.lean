/-
  EvRnG.
-/
import Derived.Test.YtlmmfhbdebfgkaaGreatDoorVEvTreeQ
import Derived.Test.YtlmmfhbdebfgkaaGreatDoorVEvRnN
import Derived.Test.YtlmmfhbdebfgkaaGreatDoorVEvJuncHQ
import Derived.Deep.RegionHeld3
set_option linter.unusedVariables false
set_option linter.unusedSimpArgs false
set_option maxRecDepth 100000
set_option maxHeartbeats 8000000
namespace Go.Proofs.YtlmmfhbdebfgkaaGreatDoor.Ev
open Go.RowKit
open Ex Lx Va Ty
theorem rof_6 (v : En) (r : Rows) (w : World) (hen : EnAt w r.pa r.pv r.pn r.pf v) (hf : EnFit v) (n : Int) (t : List UInt8) (p : Option Addr) (k c : Nat) :
    Calls Tryz.prog 33 #[.agg #[.int .i64 6, .int .i64 n, .string (S t), .slice p k c], .agg (envC v r)] w fun e w' => (∃ a c3, e = .returned (RV (namedV v.attrs v.vals t) a c3) ∧ LAt (· < w.heap.size) w' a (namedV v.attrs v.vals t).1.list c3) ∧ Below w.heap.size w w' := by
  unfold envC
  have hb := (((Below.refl w.heap.size w).alloc (Nat.le_refl _) (.cells #[.int .i64 6, .int .i64 n, .string (S t), .slice p k c] 24)).alloc (by simp) (.cells #[.slice r.pa v.attrs.length r.ca, .slice r.pv v.vals.length r.cv, .slice r.pn v.names.length r.cn, .slice r.pf v.fields.length r.cf] 60)).alloc (by simp; omega) (.cells #[.int .i64 0, .int .i64 0, .string ⟨#[]⟩, .slice none 0 0] 52)
  have HV := Lib.hid (VB.new ((w.alloc (.cells #[.int .i64 6, .int .i64 n, .string (S t), .slice p k c] 24)).alloc (.cells #[.slice r.pa v.attrs.length r.ca, .slice r.pv v.vals.length r.cv, .slice r.pn v.names.length r.cn, .slice r.pf v.fields.length r.cf] 60)) (.int .i64 0) (.int .i64 0) (.string ⟨#[]⟩) (.slice none 0 0) (w.heap.size + 1 + 1) (by simp))
  have HN := Lib.hid (fun (W : World) (kk : Below (((w.alloc (.cells #[.int .i64 6, .int .i64 n, .string (S t), .slice p k c] 24)).alloc (.cells #[.slice r.pa v.attrs.length r.ca, .slice r.pv v.vals.length r.cv, .slice r.pn v.names.length r.cn, .slice r.pf v.fields.length r.cf] 60)).alloc (.cells #[.int .i64 0, .int .i64 0, .string ⟨#[]⟩, .slice none 0 0] 52)).heap.size (((w.alloc (.cells #[.int .i64 6, .int .i64 n, .string (S t), .slice p k c] 24)).alloc (.cells #[.slice r.pa v.attrs.length r.ca, .slice r.pv v.vals.length r.cv, .slice r.pn v.names.length r.cn, .slice r.pf v.fields.length r.cf] 60)).alloc (.cells #[.int .i64 0, .int .i64 0, .string ⟨#[]⟩, .slice none 0 0] 52)) W) => rnamed10_any (· < w.heap.size) v.attrs v.vals t r.pa r.pv r.ca r.cv W (hen.attrs.later (hb.trans (kk.mono hb.size))) hf.attrs (hen.vals.below (hb.trans (kk.mono hb.size))) (fun g hg => Nat.lt_of_lt_of_le hg (Nat.le_trans hb.size kk.size)) hf.vals)
  have HB := Lib.hid hb
  clear hb hen hf
  generalize namedV v.attrs v.vals t = X at *
  obtain ⟨⟨xk, xn, xt, xl⟩, er⟩ := X
  unfold RV valC at *
  simp only at *
  generalize hxl : xl.length = lx at *
  go_enter Tryz.func33, Tryz.ntmps33
  go_wp2_with fail
  refine (HN.out _ (by first | exact Below.refl _ _ | exact (Below.refl _ _).drew)).mono ?_
  rintro e w3 ⟨⟨a', c', rfl, hla⟩, b3⟩
  have hnb := HV.out.later b3
  have fz := hnb.fz
  have k0 := hnb.c0
  have k1 := hnb.c1
  have k2 := hnb.c2
  have k3 := hnb.c3
  have HP := Lib.hid (hnb.put (.int .i64 xk) (.int .i64 xn) (.string (S xt)) (.slice a' lx c'))
  have HBE := Lib.hid (below4 (HB.out.trans (b3.mono HB.out.size)) (w.heap.size + 1 + 1) (by omega) (.int .i64 xk) (.int .i64 xn) (.string (S xt)) (.slice a' lx c'))
  have HLA := Lib.hid (hla.keep (Kept.put (ok := (· < w.heap.size)) _ (w.heap.size + 1 + 1) (.int .i64 xk) (.int .i64 xn) (.string (S xt)) (.slice a' lx c') (fun h => by have h2 : w.heap.size + 1 + 1 < w.heap.size := h; omega)))
  clear hnb hla
  go_wp2_with fail
  refine bodyPost_ret (res_val2 rfl _ _ (w.heap.size + 1 + 1) _ _ _ _ (.int .i64 (er : Int)) rfl HP.out rfl) rfl ?_
  exact ⟨⟨a', c', rfl, HLA.out⟩, HBE.out⟩
theorem own_laterE {B n size : Nat} {e : TypeId} {v : Value} {xs : List Value} {w w' : World} (h : w.ownsRow B e size v n xs) (k : Below w.heap.size w w') : w'.ownsRow B e size v n xs :=
  ⟨h.1, h.2.elim (fun x => .inl x) (fun ⟨g, cap, cur, e1, hB, hg, r⟩ => .inr ⟨g, cap, cur, e1, hB, (k.block g (Array.getElem?_eq_some_iff.1 hg).1).trans hg, r⟩)⟩
def RofC (v : En) (r : Rows) (w0 : World) (t : T) : Prop := ∀ (p : Option Addr) (c : Nat) (w : World), Below w0.heap.size w0 w → FAt w0 (fun _ => True) t.args p →
  Calls Tryz.prog 33 #[.agg #[.int .i64 t.op, .int .i64 t.num, .string (S t.text), .slice p t.args.len c], .agg (envC v r)] w fun e w' => (∃ a c3, e = .returned (RV (evT v t) a c3)) ∧ Below w.heap.size w w'
def RofAll (v : En) (r : Rows) (w0 : World) : F → Prop
  | .nil => True
  | .cons o n t a l => RofC v r w0 ⟨o, n, t, a⟩ ∧ RofAll v r w0 l
def dC (d : List (V × Option Addr × Nat)) : List Value := d.flatMap fun y => [.int .i64 y.1.kind, .int .i64 y.1.num, .string (S y.1.text), .slice y.2.1 y.1.list.length y.2.2]
theorem info4 : (Tryz.prog.info? 52).map (fun i => (i.zero, i.size, i.bytes)) = some (some (.agg #[.int .i64 0, .int .i64 0, .string ⟨#[]⟩, .slice none 0 0]), 4, 56) := by kernel_rfl
theorem app_rv (B : Nat) (q : Option Addr) (d : List (V × Option Addr × Nat)) (cap : Nat) (w : World) (h : w.ownsRow B 52 4 (.slice q d.length cap) d.length (dC d)) (hB : B ≤ w.heap.size) (hn : d.length ≤ 100000) (y : V × Option Addr × Nat) (H : Nat) (hH : w.heap.size = H) :
    ∃ q' cap' w', (Builtin.append_ #[53, 53] 53 #[.slice q d.length cap, .slice (some ⟨H, 0, none⟩) 1 1]).run Tryz.prog (w.alloc (.cells #[.int .i64 y.1.kind, .int .i64 y.1.num, .string (S y.1.text), .slice y.2.1 y.1.list.length y.2.2] 52)) = .ok (.slice q' (d ++ [y]).length cap') w' ∧
      w'.ownsRow B 52 4 (.slice q' (d ++ [y]).length cap') (d ++ [y]).length (dC (d ++ [y])) ∧ Below B w w' ∧ Kept (fun g => some g ≠ (Value.slice q d.length cap).ownBlock) w w' := by
  subst hH
  obtain ⟨i0, hi, hz0, hz1, hz2⟩ := info_parts info4
  have hown := World.ownsRow.alloc h (.cells #[.int .i64 y.1.kind, .int .i64 y.1.num, .string (S y.1.text), .slice y.2.1 y.1.list.length y.2.2] 52)
  have hnews : ∀ j u, [Value.int .i64 y.1.kind, .int .i64 y.1.num, .string (S y.1.text), .slice y.2.1 y.1.list.length y.2.2][j]? = some u → (w.alloc (.cells #[.int .i64 y.1.kind, .int .i64 y.1.num, .string (S y.1.text), .slice y.2.1 y.1.list.length y.2.2] 52)).cell? ((⟨w.heap.size, 0, none⟩ : Addr).add j) = some u := by
    intro j u hj
    have hadd : (⟨w.heap.size, 0, none⟩ : Addr).add j = ⟨w.heap.size, j, none⟩ := by unfold Addr.add; split <;> simp_all
    rw [hadd, cell_of_row _ w.heap.size j _ _ (0, 0) (heap_alloc_new w _)]
    simpa using hj
  have h1 : ∀ u ∈ [Value.int .i64 y.1.kind, .int .i64 y.1.num, .string (S y.1.text), .slice y.2.1 y.1.list.length y.2.2], u.oneCell' = true := by
    intro u hu
    simp only [List.mem_cons, List.not_mem_nil, or_false] at hu
    rcases hu with rfl | rfl | rfl | rfl <;> rfl
  obtain ⟨v', w', hr, h2, h3, _, h5⟩ := run_append_own_at (P := Tryz.prog) (w.alloc (.cells #[.int .i64 y.1.kind, .int .i64 y.1.num, .string (S y.1.text), .slice y.2.1 y.1.list.length y.2.2] 52)) B 53 53 52 i0 _ 4 56 Tryz.underlying53 hi hz0 hz1 hz2 rfl (by decide) (.slice q d.length cap) d.length (dC d) hown ⟨w.heap.size, 0, none⟩ 1 1 [Value.int .i64 y.1.kind, .int .i64 y.1.num, .string (S y.1.text), .slice y.2.1 y.1.list.length y.2.2] rfl hnews h1 (by unfold maxLen; omega) (by omega) (by simp; omega)
  have hsz := h3.size
  simp at hsz
  have hlen : (d ++ [y]).length = d.length + 1 := by simp
  have hcs : dC (d ++ [y]) = dC d ++ [Value.int .i64 y.1.kind, .int .i64 y.1.num, .string (S y.1.text), .slice y.2.1 y.1.list.length y.2.2] := by simp [dC]
  rw [hlen, hcs]
  rcases h2.2 with ⟨_, h0⟩ | ⟨g, cap2, cur, rfl, r⟩
  · omega
  · refine ⟨_, _, w', hr, h2, ((Below.refl _ _).alloc hB _).grown h3 (by simp; omega) (fun k hk => (World.ownsRow.lt h k hk).1), ?_⟩
    exact (Kept.alloc w _).trans (Kept.of_grown h3 (fun g hg => hg))
theorem dC_get : ∀ (l : List (V × Option Addr × Nat)) (i : Nat) (h : i < l.length), (dC l)[i * 4]? = some (.int .i64 l[i].1.kind) ∧ (dC l)[i * 4 + 1]? = some (.int .i64 l[i].1.num) ∧ (dC l)[i * 4 + 2]? = some (.string (S l[i].1.text)) ∧ (dC l)[i * 4 + 3]? = some (.slice l[i].2.1 l[i].1.list.length l[i].2.2)
  | a :: r, 0, _ => ⟨rfl, rfl, rfl, rfl⟩
  | a :: r, i + 1, h => by
    have e : dC (a :: r) = .int .i64 a.1.kind :: .int .i64 a.1.num :: .string (S a.1.text) :: .slice a.2.1 a.1.list.length a.2.2 :: dC r := rfl
    have := dC_get r i (by simpa using h)
    rw [e, show (i + 1) * 4 = i * 4 + 1 + 1 + 1 + 1 by omega]
    simpa using this
theorem vals_of_own {w : World} {B : Nat} {q : Option Addr} {d : List (V × Option Addr × Nat)} {cap : Nat} (h : w.ownsRow B 52 4 (.slice q d.length cap) d.length (dC d)) (he : ∀ y ∈ d, y.1.list = []) : ValsAt w q (d.map (·.1)) := fun i hi => by
  have hi2 : i < d.length := by simpa using hi
  rcases h.2 with ⟨_, h0⟩ | ⟨g, cap2, cur, e, hB, hg, r⟩
  · omega
  · injection e with e1 _ _
    subst e1
    have hadd : ∀ j, (⟨g, 0, none⟩ : Addr).add j = ⟨g, j, none⟩ := fun j => by unfold Addr.add; split <;> simp_all
    obtain ⟨h0, h1, h2, h3⟩ := dC_get d i hi2
    have c := fun j u (hu : (dC d)[j]? = some u) => World.ownsRow.cells h (g := g) rfl j u hu
    have hx : (d.map (·.1))[i] = d[i].1 := by simp
    have hl0 : d[i].1.list = [] := he _ (List.getElem_mem hi2)
    refine ⟨g, 0, rfl, ?_, (Array.getElem?_eq_some_iff.1 hg).1⟩
    rw [hx]
    refine ⟨d[i].2.1, d[i].2.2, ?_, ?_, ?_, ?_, by rw [hl0]; exact fun j hj => absurd hj (by simp)⟩
    · have := c _ _ h0; rw [hadd] at this; rw [Nat.zero_add]; exact this
    · have := c _ _ h1; rw [hadd] at this; rw [Nat.zero_add]; exact this
    · have := c _ _ h2; rw [hadd] at this; rw [Nat.zero_add]; exact this
    · have := c _ _ h3; rw [hadd] at this; rw [Nat.zero_add]; exact this
theorem rof_num (v : En) (r : Rows) (w0 : World) (op num : Int) (tx : List UInt8) (A : F) (hlen : A.len ≤ 16) (hpos : A ≠ .nil) (hall : RofAll v r w0 A) (hres : ∀ x ∈ evL v A, x.2 = 0 ∧ x.1.list = []) (hop : 10 ≤ op ∧ op < 40) (R : V × Nat)
    (hnode : ∀ (b cap : Nat) (W : World), ValsAt W (some ⟨b, 0, none⟩) ((evL v A).map (·.1)) → Calls Tryz.prog 63 #[.int .i64 op, .slice (some ⟨b, 0, none⟩) A.len cap] W fun e w' => e = .returned (RV R none 0) ∧ Below W.heap.size W w') : ∀ (p : Option Addr) (c : Nat) (w : World), Below w0.heap.size w0 w → FAt w0 (fun _ => True) A p →
  Calls Tryz.prog 33 #[.agg #[.int .i64 op, .int .i64 num, .string (S tx), .slice p A.len c], .agg (envC v r)] w fun e w' => e = .returned (RV R none 0) ∧ Below w.heap.size w w' := by
  intro p c w hw hfa
  obtain ⟨⟨xk, xn, xt, xl⟩, er⟩ := R
  unfold RV valC at hnode
  unfold RV valC
  simp only at hnode ⊢
  generalize xl.length = lx at hnode ⊢
  unfold envC
  obtain ⟨W3, hW3⟩ : ∃ W3, W3 = ((w.alloc (.cells #[.int .i64 op, .int .i64 num, .string (S tx), .slice p A.len c] 24)).alloc (.cells #[.slice r.pa v.attrs.length r.ca, .slice r.pv v.vals.length r.cv, .slice r.pn v.names.length r.cn, .slice r.pf v.fields.length r.cf] 60)).alloc (.cells #[.int .i64 0, .int .i64 0, .string ⟨#[]⟩, .slice none 0 0] 52) := ⟨_, rfl⟩
  have hb3 : Below w.heap.size w W3 := by rw [hW3]; exact (((Below.refl w.heap.size w).alloc (Nat.le_refl _) _).alloc (by simp) _).alloc (by simp; omega) _
  have hs3 : W3.heap.size = w.heap.size + 1 + 1 + 1 := by rw [hW3]; simp
  have e0 : W3.heap[w.heap.size]? = some (.cells #[.int .i64 op, .int .i64 num, .string (S tx), .slice p A.len c] 24 (0, 0)) := by rw [hW3]; exact (((Below.refl _ _).alloc (Nat.le_refl _) _).block _ (by simp; omega)).trans ((((Below.refl _ _).alloc (Nat.le_refl _) _).block _ (by simp)).trans (heap_alloc_new w _))
  have e1 : W3.heap[w.heap.size + 1]? = some (.cells #[.slice r.pa v.attrs.length r.ca, .slice r.pv v.vals.length r.cv, .slice r.pn v.names.length r.cn, .slice r.pf v.fields.length r.cf] 60 (0, 0)) := by rw [hW3]; exact (((Below.refl _ _).alloc (Nat.le_refl _) _).block _ (by simp)).trans (by have := heap_alloc_new (w.alloc (.cells #[.int .i64 op, .int .i64 num, .string (S tx), .slice p A.len c] 24)) (.cells #[.slice r.pa v.attrs.length r.ca, .slice r.pv v.vals.length r.cv, .slice r.pn v.names.length r.cn, .slice r.pf v.fields.length r.cf] 60); rwa [show (w.alloc (.cells #[.int .i64 op, .int .i64 num, .string (S tx), .slice p A.len c] 24)).heap.size = w.heap.size + 1 by simp] at this)
  have hvb : VB W3 (w.heap.size + 1 + 1) (.int .i64 0) (.int .i64 0) (.string ⟨#[]⟩) (.slice none 0 0) := by rw [hW3]; exact VB.new _ _ _ _ _ _ (by simp)
  have HW3 := Lib.hid hW3
  have HB3 := Lib.hid hb3
  have HE0 := Lib.hid e0
  have HE1 := Lib.hid e1
  have HVB := Lib.hid hvb
  have HF := Lib.hid hfa
  have HALL := Lib.hid hall
  have HRES := Lib.hid hres
  have HWW := Lib.hid hw
  have HNODE := Lib.hid hnode
  have HPOS := Lib.hid hpos
  have hki : (A.len : Int) ≤ 16 := by omega
  have o1 : (op == 1) = false := by rw [beq_eq_false_iff_ne]; omega
  have o2 : (op == 2) = false := by rw [beq_eq_false_iff_ne]; omega
  have o3 : (op == 3) = false := by rw [beq_eq_false_iff_ne]; omega
  have o4 : (op == 4) = false := by rw [beq_eq_false_iff_ne]; omega
  have o6 : (op == 6) = false := by rw [beq_eq_false_iff_ne]; omega
  have o7 : (op == 7) = false := by rw [beq_eq_false_iff_ne]; omega
  have o40 : (op == 40) = false := by rw [beq_eq_false_iff_ne]; omega
  have o41 : (op == 41) = false := by rw [beq_eq_false_iff_ne]; omega
  have oge : decide ((40 : Int) ≤ op) = false := decide_eq_false (by omega)
  have HS3 := Lib.hid hs3
  have HLEN := Lib.hid hlen
  clear hW3 hb3 e0 e1 hvb hfa hall hres hw hnode hs3 hop hpos hlen
  go_enter Tryz.func33, Tryz.ntmps33
  have q0 : W3.cell? ⟨w.heap.size, 0, none⟩ = some (.int .i64 op) := cell_of_row W3 w.heap.size 0 _ _ (0, 0) HE0.out
  have q3 : W3.cell? ⟨w.heap.size, 3, none⟩ = some (.slice p A.len c) := cell_of_row W3 w.heap.size 3 _ _ (0, 0) HE0.out
  rw [HW3.out] at q0 q3
  go_wp2_with fail
  rw [← HW3.out]
  clear q0 q3
  go_loopw [6, 62] (fun lv kv wr => ∃ (i : Nat) (l : F) (d : List (V × Option Addr × Nat)) (pr q : Option Addr) (cap : Nat), lv = .slice q d.length cap ∧ kv = .int .i64 i ∧ i + l.len = A.len ∧ i = d.length ∧ RofAll v r w0 l ∧ (∀ x ∈ evL v l, x.2 = 0 ∧ x.1.list = []) ∧ (∀ y ∈ d, y.1.list = []) ∧ FAt w0 (fun _ => True) l pr ∧ (∀ g k, pr = some ⟨g, k, none⟩ → l ≠ .nil → ∃ k0, p = some ⟨g, k0, none⟩ ∧ k = k0 + 4 * i) ∧
    (evL v A).map (·.1) = d.map (·.1) ++ (evL v l).map (·.1) ∧ wr.ownsRow W3.heap.size 52 4 (.slice q d.length cap) d.length (dC d) ∧ Below W3.heap.size W3 wr) (fun _ kv _ => A.len - (intOf kv).toNat)
  case atStart => exact ⟨0, A, [], p, none, 0, rfl, rfl, by omega, rfl, HALL.out, HRES.out, (fun _ h => by cases h), HF.out, (fun g k e _ => ⟨k, e, by omega⟩), by simp, World.ownsRow_nil _ _ _ _, Below.refl _ _⟩
  case round =>
    obtain ⟨i, l, d, pr, q, cap, rfl, rfl, hil, hid, hal, hrs, hde, hfr, hpr, hev, hown, hb⟩ := hrel
    have hx0 := (hb.block w.heap.size (by have := HS3.out; omega)).trans HE0.out
    have hx1 := (hb.block (w.heap.size + 1) (by have := HS3.out; omega)).trans HE1.out
    have q0 : wr.cell? ⟨w.heap.size, 0, none⟩ = some (.int .i64 op) := cell_of_row wr w.heap.size 0 _ _ (0, 0) hx0
    have q3 : wr.cell? ⟨w.heap.size, 3, none⟩ = some (.slice p A.len c) := cell_of_row wr w.heap.size 3 _ _ (0, 0) hx0
    have hvb := HVB.out.later hb
    cases l with
    | nil =>
      have hil2 : i = A.len := by simpa [F.len] using hil
      have hie : ¬ (i : Int) < (A.len : Int) := by omega
      have hdl : d.length = A.len := by omega
      have hev2 : (evL v A).map (·.1) = d.map (·.1) := by rw [hev]; simp [evL]
      have hdn : d ≠ [] := fun e => HPOS.out (by
        have h0 : A.len = 0 := by rw [← hdl, e]; rfl
        cases A with
        | nil => rfl
        | cons _ _ _ _ _ => simp [F.len] at h0)
      obtain ⟨b, rfl⟩ : ∃ b, q = some ⟨b, 0, none⟩ := by
        rcases hown.2 with ⟨e, h0⟩ | ⟨g, cap2, cur, e, _⟩
        · exact absurd (List.length_eq_zero_iff.1 h0) hdn
        · injection e with e _ _
          exact ⟨g, e⟩
      have HN := Lib.hid (HNODE.out b cap wr (by rw [hev2]; exact vals_of_own hown hde))
      have HBE := Lib.hid (HB3.out.trans (hb.mono HB3.out.size))
      have HV2 := Lib.hid hvb
      clear hx0 hx1 hvb hb hown hev hfr hpr hal hrs hde hev2 hdn HNODE
      go_wp2_with fail
      with_reducible refine HN.out.mono ?_
      rintro e w5 ⟨rfl, b5⟩
      have hnb := HV2.out.later b5
      have fz := hnb.fz
      have k0 := hnb.c0
      have k1 := hnb.c1
      have k2 := hnb.c2
      have k3 := hnb.c3
      have HP := Lib.hid (hnb.put (.int .i64 xk) (.int .i64 xn) (.string (S xt)) (.slice none lx 0))
      have HBF := Lib.hid (below4 (HBE.out.trans (b5.mono HBE.out.size)) (w.heap.size + 1 + 1) (by omega) (.int .i64 xk) (.int .i64 xn) (.string (S xt)) (.slice none lx 0))
      clear b5 hnb
      go_wp2_with fail
      refine bodyPost_ret (res_val2 rfl _ _ (w.heap.size + 1 + 1) _ _ _ _ (.int .i64 (er : Int)) rfl HP.out rfl) rfl ?_
      exact ⟨rfl, HBF.out⟩
    | cons o nm tt a l =>
      obtain ⟨g, k, qa, cc, rfl, _, hgl0, f0, f1, f2, f3, hfa, hfr2⟩ := hfr
      obtain ⟨k0, rfl, rfl⟩ := hpr g k rfl (by intro e; cases e)
      have hil2 : i + (l.len + 1) = A.len := by simpa [F.len] using hil
      have hie : (i : Int) < (A.len : Int) := by omega
      rw [show k0 + 4 * i = k0 + i * 4 by omega] at f0 f1 f2 f3
      have hwr := HWW.out.trans ((HB3.out.trans (hb.mono HB3.out.size)).mono HWW.out.size)
      obtain ⟨f0, f1, f2, f3, hgl⟩ := (TC.mk f0 f1 f2 f3 hgl0).later hwr
      have z0 : wr.cell? ⟨w.heap.size + 1, 0, none⟩ = some (.slice r.pa v.attrs.length r.ca) := cell_of_row wr (w.heap.size + 1) 0 _ _ (0, 0) hx1
      have z1 : wr.cell? ⟨w.heap.size + 1, 1, none⟩ = some (.slice r.pv v.vals.length r.cv) := cell_of_row wr (w.heap.size + 1) 1 _ _ (0, 0) hx1
      have z2 : wr.cell? ⟨w.heap.size + 1, 2, none⟩ = some (.slice r.pn v.names.length r.cn) := cell_of_row wr (w.heap.size + 1) 2 _ _ (0, 0) hx1
      have z3 : wr.cell? ⟨w.heap.size + 1, 3, none⟩ = some (.slice r.pf v.fields.length r.cf) := cell_of_row wr (w.heap.size + 1) 3 _ _ (0, 0) hx1
      have hcons : evL v (.cons o nm tt a l) = evT v ⟨o, nm, tt, a⟩ :: evL v l := rfl
      rw [hcons] at hrs hev
      have hxr := hrs _ (List.mem_cons_self ..)
      have HC := Lib.hid (fun W (kk : Below wr.heap.size wr W) => hal.1 qa cc W (hwr.trans (kk.mono hwr.size)) hfa)
      have HS := Lib.hid (fun w7 (kk : Below wr.heap.size wr w7) => show (w7.cell? ⟨w.heap.size, 3, none⟩ = some (.slice (some ⟨g, k0, none⟩) A.len c)) ∧ (w7.cell? ⟨g, k0 + i * 4, none⟩ = some (.int .i64 o) ∧ w7.cell? ⟨g, k0 + i * 4 + 1, none⟩ = some (.int .i64 nm) ∧ w7.cell? ⟨g, k0 + i * 4 + 2, none⟩ = some (.string (S tt)) ∧ w7.cell? ⟨g, k0 + i * 4 + 3, none⟩ = some (.slice qa a.len cc)) ∧ (w7.cell? ⟨w.heap.size + 1, 0, none⟩ = some (.slice r.pa v.attrs.length r.ca) ∧ w7.cell? ⟨w.heap.size + 1, 1, none⟩ = some (.slice r.pv v.vals.length r.cv) ∧ w7.cell? ⟨w.heap.size + 1, 2, none⟩ = some (.slice r.pn v.names.length r.cn) ∧ w7.cell? ⟨w.heap.size + 1, 3, none⟩ = some (.slice r.pf v.fields.length r.cf)) from
        ⟨(kk.cell (p := ⟨w.heap.size, 3, none⟩) (World.block_lt_of_cell? _ _ q3)).trans q3, ⟨(kk.cell (p := ⟨g, k0 + i * 4, none⟩) hgl).trans f0, (kk.cell (p := ⟨g, k0 + i * 4 + 1, none⟩) hgl).trans f1, (kk.cell (p := ⟨g, k0 + i * 4 + 2, none⟩) hgl).trans f2, (kk.cell (p := ⟨g, k0 + i * 4 + 3, none⟩) hgl).trans f3⟩,
        ⟨(kk.cell (p := ⟨w.heap.size + 1, 0, none⟩) (World.block_lt_of_cell? _ _ z0)).trans z0, (kk.cell (p := ⟨w.heap.size + 1, 1, none⟩) (World.block_lt_of_cell? _ _ z1)).trans z1, (kk.cell (p := ⟨w.heap.size + 1, 2, none⟩) (World.block_lt_of_cell? _ _ z2)).trans z2, (kk.cell (p := ⟨w.heap.size + 1, 3, none⟩) (World.block_lt_of_cell? _ _ z3)).trans z3⟩⟩)
      have HS0 := Lib.hid (HS.out wr.drew (Below.refl _ _).drew)
      have HBE := Lib.hid hb
      have HOWN := Lib.hid hown
      have HAL := Lib.hid hal.2
      have HFR := Lib.hid hfr2
      have HEV := Lib.hid hev
      have HRS := Lib.hid (fun x (hx : x ∈ evL v l) => hrs x (List.mem_cons_of_mem _ hx))
      have HDE := Lib.hid hde
      have HID := Lib.hid hid
      have hdn : d.length ≤ 16 := by have := HLEN.out; omega
      have HX0 := Lib.hid hx0
      clear hb hown hal hfa hfr2 hpr hvb hx0 hx1 hrs hev hde hcons hwr hid
      generalize evT v ⟨o, nm, tt, a⟩ = X at *
      obtain ⟨⟨yk, yn, yt, yl⟩, yr⟩ := X
      simp only at hxr
      obtain ⟨rfl, rfl⟩ := hxr
      unfold RV valC envC at HC
      simp only at HC
      go_wp2_with fail
      refine Cd.until_start 6 (fun w7 => (w7.cell? ⟨w.heap.size, 3, none⟩ = some (.slice (some ⟨g, k0, none⟩) A.len c)) ∧ (w7.cell? ⟨g, k0 + i * 4, none⟩ = some (.int .i64 o) ∧ w7.cell? ⟨g, k0 + i * 4 + 1, none⟩ = some (.int .i64 nm) ∧ w7.cell? ⟨g, k0 + i * 4 + 2, none⟩ = some (.string (S tt)) ∧ w7.cell? ⟨g, k0 + i * 4 + 3, none⟩ = some (.slice qa a.len cc)) ∧ (w7.cell? ⟨w.heap.size + 1, 0, none⟩ = some (.slice r.pa v.attrs.length r.ca) ∧ w7.cell? ⟨w.heap.size + 1, 1, none⟩ = some (.slice r.pv v.vals.length r.cv) ∧ w7.cell? ⟨w.heap.size + 1, 2, none⟩ = some (.slice r.pn v.names.length r.cn) ∧ w7.cell? ⟨w.heap.size + 1, 3, none⟩ = some (.slice r.pf v.fields.length r.cf))) (by kernel_rfl) ?_
      refine Cd.untilT (v := ?_) 0 (by decide +kernel) (by decide +kernel) (by decide +kernel) (by kernel_rfl) (by simp only [List.getElem?_toArray, List.getElem?_cons_succ, List.getElem?_cons_zero]; rfl) (by rfl) (by exact fun _ _ _ h => h) (by first | exact fun _ => HS0.out | exact fun h => absurd h (by decide +kernel)) ?_ ?_
      rotate_left 1
      focus (intro w8; go_simp; (try with_reducible rfl); done)
      try simp only [Act.put, List.setIfInBounds_toArray, List.set_cons_zero, List.set_cons_succ]
      refine Cd.untilW (v := ?_) 1 [3, 4, 6] (by decide) (by decide +kernel) (by decide +kernel) (by decide +kernel) (by decide +kernel) (by kernel_rfl) (by simp only [List.getElem?_toArray, List.getElem?_cons_succ, List.getElem?_cons_zero]; rfl) (by rfl) (by exact fun _ _ _ h => h) (by exact HS0.out) ?_ ?_
      rotate_left 1
      focus (intro w8 hSw; (try dsimp only at hSw); obtain ⟨s3, ⟨g0, g1, g2, g3⟩, ⟨y0, y1, y2, y3⟩⟩ := hSw; go_simp; (try with_reducible rfl); done)
      try simp only [Act.put, List.setIfInBounds_toArray, List.set_cons_zero, List.set_cons_succ]
      refine Cd.untilT (v := ?_) 2 (by decide +kernel) (by decide +kernel) (by decide +kernel) (by kernel_rfl) (by simp only [List.getElem?_toArray, List.getElem?_cons_succ, List.getElem?_cons_zero]; rfl) (by rfl) (by exact fun _ _ _ h => h) (by first | exact fun _ => HS0.out | exact fun h => absurd h (by decide +kernel)) ?_ ?_
      rotate_left 1
      focus (intro w8; go_simp; (try with_reducible rfl); done)
      try simp only [Act.put, List.setIfInBounds_toArray, List.set_cons_zero, List.set_cons_succ]
      refine Cd.untilT (v := ?_) 3 (by decide +kernel) (by decide +kernel) (by decide +kernel) (by kernel_rfl) (by simp only [List.getElem?_toArray, List.getElem?_cons_succ, List.getElem?_cons_zero]; rfl) (by rfl) (by exact fun _ _ _ h => h) (by first | exact fun _ => HS0.out | exact fun h => absurd h (by decide +kernel)) ?_ ?_
      rotate_left 1
      focus (intro w8; go_simp; (try with_reducible rfl); done)
      try simp only [Act.put, List.setIfInBounds_toArray, List.set_cons_zero, List.set_cons_succ]
      refine Cd.untilW (v := ?_) 4 [6] (by decide) (by decide +kernel) (by decide +kernel) (by decide +kernel) (by decide +kernel) (by kernel_rfl) (by simp only [List.getElem?_toArray, List.getElem?_cons_succ, List.getElem?_cons_zero]; rfl) (by rfl) (by exact fun _ _ _ h => h) (by exact HS0.out) ?_ ?_
      rotate_left 1
      focus (intro w8 hSw; (try dsimp only at hSw); obtain ⟨s3, ⟨g0, g1, g2, g3⟩, ⟨y0, y1, y2, y3⟩⟩ := hSw; go_simp; (try with_reducible rfl); done)
      try simp only [Act.put, List.setIfInBounds_toArray, List.set_cons_zero, List.set_cons_succ]
      refine Cd.untilW (v := ?_) 5 [6] (by decide) (by decide +kernel) (by decide +kernel) (by decide +kernel) (by decide +kernel) (by kernel_rfl) (by simp only [List.getElem?_toArray, List.getElem?_cons_succ, List.getElem?_cons_zero]; rfl) (by rfl) (by exact fun _ _ _ h => h) (by exact HS0.out) ?_ ?_
      rotate_left 1
      focus (intro w8 hSw; (try dsimp only at hSw); obtain ⟨s3, ⟨g0, g1, g2, g3⟩, ⟨y0, y1, y2, y3⟩⟩ := hSw; go_simp; (try with_reducible rfl); done)
      try simp only [Act.put, List.setIfInBounds_toArray, List.set_cons_zero, List.set_cons_succ]
      refine Cd.until_two (i := 6) (j := 10) (by decide +kernel) (by simp only [List.getElem?_toArray, List.getElem?_cons_succ, List.getElem?_cons_zero]; rfl) (by simp only [List.getElem?_toArray, List.getElem?_cons_succ, List.getElem?_cons_zero]; rfl) ?_ ?_
      · intro K hK
        go_simp
        go_at_call 33
        with_reducible refine (HC.out _ (Below.refl _ _).drew).mono ?_
        rintro e w7 ⟨⟨a7, c7, rfl⟩, b7⟩
        have hb7 : Below wr.heap.size wr w7 := ((Below.refl _ _).drew).trans (b7.mono (Nat.le_refl _))
        have HBB7 := Lib.hid hb7
        clear b7 hb7
        go_wp2_with fail
        refine hK.out _ _ (fun h => absurd h (by decide +kernel)) ?_
        clear hK K
        try simp only [Act.put, List.setIfInBounds_toArray, List.set_cons_zero, List.set_cons_succ]
        refine Cd.untilT (v := ?_) 7 (by decide +kernel) (by decide +kernel) (by decide +kernel) (by kernel_rfl) (by simp only [List.getElem?_toArray, List.getElem?_cons_succ, List.getElem?_cons_zero]; rfl) (by rfl) (by exact fun _ _ _ h => h) (fun h => absurd h (by decide +kernel)) ?_ ?_
        rotate_left 1
        focus (intro w8; go_simp; (try with_reducible rfl); done)
        try simp only [Act.put, List.setIfInBounds_toArray, List.set_cons_zero, List.set_cons_succ]
        refine Cd.untilT (v := ?_) 8 (by decide +kernel) (by decide +kernel) (by decide +kernel) (by kernel_rfl) (by simp only [List.getElem?_toArray, List.getElem?_cons_succ, List.getElem?_cons_zero]; rfl) (by rfl) (by exact fun _ _ _ h => h) (fun h => absurd h (by decide +kernel)) ?_ ?_
        rotate_left 1
        focus (intro w8; go_simp; (try with_reducible rfl); done)
        try simp only [Act.put, List.setIfInBounds_toArray, List.set_cons_zero, List.set_cons_succ]
        refine Cd.untilT (v := ?_) 9 (by decide +kernel) (by decide +kernel) (by decide +kernel) (by kernel_rfl) (by simp only [List.getElem?_toArray, List.getElem?_cons_succ, List.getElem?_cons_zero]; rfl) (by rfl) (by exact fun _ _ _ h => h) (fun h => absurd h (by decide +kernel)) ?_ ?_
        rotate_left 1
        focus (intro w8; go_simp; (try with_reducible rfl); done)
        try simp only [Act.put, List.setIfInBounds_toArray, List.set_cons_zero, List.set_cons_succ]
        refine Cd.until_one (i := 10) (by decide +kernel) (by simp only [List.getElem?_toArray, List.getElem?_cons_succ, List.getElem?_cons_zero]; rfl) ?_
        intro K hK
        go_simp
        skip
        refine hK.out _ _ (fun h => absurd h (by decide +kernel)) ?_
        clear hK K
        try simp only [Act.put, List.setIfInBounds_toArray, List.set_cons_zero, List.set_cons_succ]
        refine Cd.until_one (i := 11) (by decide +kernel) (by simp only [List.getElem?_toArray, List.getElem?_cons_succ, List.getElem?_cons_zero]; rfl) ?_
        intro K hK
        go_simp
        go_wp2_with fail
        refine hK.out _ _ (fun h => absurd h (by decide +kernel)) ?_
        clear hK K
        try simp only [Act.put, List.setIfInBounds_toArray, List.set_cons_zero, List.set_cons_succ]
        refine Cd.until_one (i := 12) (by decide +kernel) (by simp only [List.getElem?_toArray, List.getElem?_cons_succ, List.getElem?_cons_zero]; rfl) ?_
        intro K hK
        go_simp
        go_wp2_with fail
        refine hK.out _ _ (fun h => absurd h (by decide +kernel)) ?_
        clear hK K
        try simp only [Act.put, List.setIfInBounds_toArray, List.set_cons_zero, List.set_cons_succ]
        refine Cd.until_done (by decide +kernel) ?_ _
        have hb9 := HBB7.out.trans (((Below.refl w7.heap.size w7).alloc (Nat.le_refl _) (.cells #[.int .i64 yk, .int .i64 yn, .string (S yt), .slice a7 0 c7] 52)).mono HBB7.out.size)
        have hb10 := HBE.out.trans (hb9.mono HBE.out.size)
        obtain ⟨q9, c8, w8, hrun, o8, b8, kp8⟩ := app_rv W3.heap.size q d cap _ (own_laterE HOWN.out hb9) hb10.size (by omega) (⟨yk, yn, yt, []⟩, a7, c7) (w7.heap.size + 1) (by simp)
        simp only [List.length_nil] at hrun
        have hb11 := hb10.trans b8
        have u8 : w8.cell? ⟨w.heap.size, 0, none⟩ = some (.int .i64 op) := cell_of_row w8 w.heap.size 0 _ _ (0, 0) ((hb11.block w.heap.size (by have := HS3.out; omega)).trans HE0.out)
        have HRUN := Lib.hid hrun
        have HO8 := Lib.hid o8
        have HB11 := Lib.hid hb11
        clear hb9 hb10 b8 kp8 hrun o8 hb11 q0 q3 f0 f1 f2 f3 z0 z1 z2 z3
        go_wp2_with (at_builtin; refine wpList_apx rfl _ _ _ _ rfl rfl rfl _ _ HRUN.out ?_)
        go_wp2_with fail
        go_roundw
        case rel => exact ⟨i + 1, l, d ++ [(⟨yk, yn, yt, []⟩, a7, c7)], some ⟨g, k0 + 4 * i + 4, none⟩, _, c8, by first | rfl | (rw [List.length_append]; rfl), by go_num, by omega, by have := HID.out; simp; omega, HAL.out, HRS.out, fun y hy => (List.mem_append.1 hy).elim (HDE.out y) (fun h => by simp only [List.mem_singleton] at h; subst h; rfl), HFR.out, fun g' k' e _ => by injection e with e; injection e with e1 e2 _; subst e1 e2; exact ⟨k0, rfl, by omega⟩, by rw [HEV.out]; simp, HO8.out, HB11.out⟩
        case measure => simp [intOf]; omega
      · intro K hK
        go_simp
        have hba := ((Below.refl wr.heap.size wr).alloc (Nat.le_refl _) (.cells #[.int .i64 0, .int .i64 0, .string ⟨#[]⟩, .slice none 0 0] 52)).drew
        have hva : VB ((wr.alloc (.cells #[.int .i64 0, .int .i64 0, .string ⟨#[]⟩, .slice none 0 0] 52)).drew) wr.heap.size (.int .i64 0) (.int .i64 0) (.string ⟨#[]⟩) (.slice none 0 0) := VB.new wr _ _ _ _ _ rfl
        have HBA := Lib.hid hba
        have HVA := Lib.hid hva
        clear hba hva
        refine hK.out _ _ (fun _ => HS.out _ HBA.out) ?_
        clear hK K
        try simp only [Act.put, List.setIfInBounds_toArray, List.set_cons_zero, List.set_cons_succ]
        refine Cd.until_one (i := 6) (by decide +kernel) (by simp only [List.getElem?_toArray, List.getElem?_cons_succ, List.getElem?_cons_zero]; rfl) ?_
        intro K hK
        go_simp
        go_at_call 33
        with_reducible refine (HC.out _ HBA.out).mono ?_
        rintro e w7 ⟨⟨a7, c7, rfl⟩, b7⟩
        have hb7 : Below wr.heap.size wr w7 := HBA.out.trans (b7.mono HBA.out.size)
        have HV7 := Lib.hid (HVA.out.later b7)
        have HBB7 := Lib.hid hb7
        clear b7 hb7
        go_wp2_with fail
        refine hK.out _ _ (fun h => absurd h (by decide +kernel)) ?_
        clear hK K
        try simp only [Act.put, List.setIfInBounds_toArray, List.set_cons_zero, List.set_cons_succ]
        refine Cd.untilT (v := ?_) 7 (by decide +kernel) (by decide +kernel) (by decide +kernel) (by kernel_rfl) (by simp only [List.getElem?_toArray, List.getElem?_cons_succ, List.getElem?_cons_zero]; rfl) (by rfl) (by exact fun _ _ _ h => h) (fun h => absurd h (by decide +kernel)) ?_ ?_
        rotate_left 1
        focus (intro w8; go_simp; (try with_reducible rfl); done)
        try simp only [Act.put, List.setIfInBounds_toArray, List.set_cons_zero, List.set_cons_succ]
        refine Cd.untilT (v := ?_) 8 (by decide +kernel) (by decide +kernel) (by decide +kernel) (by kernel_rfl) (by simp only [List.getElem?_toArray, List.getElem?_cons_succ, List.getElem?_cons_zero]; rfl) (by rfl) (by exact fun _ _ _ h => h) (fun h => absurd h (by decide +kernel)) ?_ ?_
        rotate_left 1
        focus (intro w8; go_simp; (try with_reducible rfl); done)
        try simp only [Act.put, List.setIfInBounds_toArray, List.set_cons_zero, List.set_cons_succ]
        refine Cd.untilT (v := ?_) 9 (by decide +kernel) (by decide +kernel) (by decide +kernel) (by kernel_rfl) (by simp only [List.getElem?_toArray, List.getElem?_cons_succ, List.getElem?_cons_zero]; rfl) (by rfl) (by exact fun _ _ _ h => h) (fun h => absurd h (by decide +kernel)) ?_ ?_
        rotate_left 1
        focus (intro w8; go_simp; (try with_reducible rfl); done)
        try simp only [Act.put, List.setIfInBounds_toArray, List.set_cons_zero, List.set_cons_succ]
        have hnb := HV7.out
        have fz := hnb.fz
        have fz0 := fz 0
        have k0x := hnb.c0
        have k1x := hnb.c1
        have k2x := hnb.c2
        have k3x := hnb.c3
        clear hnb
        refine Cd.until_one (i := 11) (by decide +kernel) (by simp only [List.getElem?_toArray, List.getElem?_cons_succ, List.getElem?_cons_zero]; rfl) ?_
        intro K hK
        go_simp
        go_wp2_with fail
        refine hK.out _ _ (fun h => absurd h (by decide +kernel)) ?_
        clear hK K
        try simp only [Act.put, List.setIfInBounds_toArray, List.set_cons_zero, List.set_cons_succ]
        refine Cd.until_one (i := 12) (by decide +kernel) (by simp only [List.getElem?_toArray, List.getElem?_cons_succ, List.getElem?_cons_zero]; rfl) ?_
        intro K hK
        go_simp
        go_wp2_with fail
        refine hK.out _ _ (fun h => absurd h (by decide +kernel)) ?_
        clear hK K
        try simp only [Act.put, List.setIfInBounds_toArray, List.set_cons_zero, List.set_cons_succ]
        refine Cd.until_done (by decide +kernel) ?_ _
        have hnb := HV7.out
        have hpt := hnb.put (.int .i64 yk) (.int .i64 yn) (.string (S yt)) (.slice a7 0 c7)
        have hb9 := below4 HBB7.out wr.heap.size (Nat.le_refl _) (.int .i64 yk) (.int .i64 yn) (.string (S yt)) (.slice a7 0 c7)
        have d0 := hpt.c0
        have d1 := hpt.c1
        have d2 := hpt.c2
        have d3 := hpt.c3
        have hb10 := HBE.out.trans (hb9.mono HBE.out.size)
        obtain ⟨q9, c8, w8, hrun, o8, b8, kp8⟩ := app_rv W3.heap.size q d cap _ (own_laterE HOWN.out hb9) hb10.size (by omega) (⟨yk, yn, yt, []⟩, a7, c7) w7.heap.size (by simp [put4])
        simp only [List.length_nil] at hrun
        have hb11 := hb10.trans b8
        have u8 : w8.cell? ⟨w.heap.size, 0, none⟩ = some (.int .i64 op) := cell_of_row w8 w.heap.size 0 _ _ (0, 0) ((hb11.block w.heap.size (by have := HS3.out; omega)).trans HE0.out)
        have HRUN := Lib.hid hrun
        have HO8 := Lib.hid o8
        have HB11 := Lib.hid hb11
        clear hb9 hb10 b8 kp8 hrun o8 hb11 q0 q3 f0 f1 f2 f3 z0 z1 z2 z3
        unfold put4 at d0 d1 d2 d3 HRUN
        clear hnb hpt
        go_wp2_with (at_builtin; refine wpList_apx rfl _ _ _ _ rfl rfl rfl _ _ HRUN.out ?_)
        go_wp2_with fail
        go_roundw
        case rel => exact ⟨i + 1, l, d ++ [(⟨yk, yn, yt, []⟩, a7, c7)], some ⟨g, k0 + 4 * i + 4, none⟩, _, c8, by first | rfl | (rw [List.length_append]; rfl), by go_num, by omega, by have := HID.out; simp; omega, HAL.out, HRS.out, fun y hy => (List.mem_append.1 hy).elim (HDE.out y) (fun h => by simp only [List.mem_singleton] at h; subst h; rfl), HFR.out, fun g' k' e _ => by injection e with e; injection e with e1 e2 _; subst e1 e2; exact ⟨k0, rfl, by omega⟩, by rw [HEV.out]; simp, HO8.out, HB11.out⟩
        case measure => simp [intOf]; omega
end Go.Proofs.YtlmmfhbdebfgkaaGreatDoor.Ev
