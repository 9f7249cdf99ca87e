/-
  EvTreeN.
-/
import Derived.Test.YtlmmfhbdebfgkaaGreatDoorVEvJuncHQ
set_option linter.unusedVariables false
set_option linter.unusedSimpArgs false
set_option maxRecDepth 100000
set_option maxHeartbeats 8000000
namespace Go.Proofs.YtlmmfhbdebfgkaaGreatDoor.Ev
open Go.RowKit
open Ex Lx Va Ty
def joinE (d : List V) (x : List V × Nat) : List V × Nat := if x.2 = 0 then (d ++ x.1, 0) else ([], x.2)
theorem seqE_err : ∀ l : List (V × Nat), (seqE l).2 ≠ 0 → (seqE l).1 = []
  | [], h => absurd rfl h
  | x :: r, h => by
    unfold seqE at h ⊢
    by_cases h1 : x.2 = 0
    · rw [if_pos h1] at h ⊢
      by_cases h2 : (seqE r).2 = 0
      · rw [if_pos h2] at h; exact absurd rfl h
      · rw [if_neg h2]
    · rw [if_neg h1]
theorem seqE_cons (x : V × Nat) (r : List (V × Nat)) : seqE (x :: r) = if x.2 = 0 then (if (seqE r).2 = 0 then (x.1 :: (seqE r).1, 0) else ([], (seqE r).2)) else ([], x.2) := rfl
theorem joinE_nil (l : List (V × Nat)) : seqE l = joinE [] (seqE l) := by
  unfold joinE
  by_cases h : (seqE l).2 = 0
  · rw [if_pos h, List.nil_append]; exact Prod.ext rfl h
  · rw [if_neg h]; exact Prod.ext (seqE_err l h) rfl
theorem joinE_ok (d : List V) (x : V × Nat) (r : List (V × Nat)) (h : x.2 = 0) : joinE d (seqE (x :: r)) = joinE (d ++ [x.1]) (seqE r) := by
  rw [seqE_cons, if_pos h]
  unfold joinE
  by_cases h2 : (seqE r).2 = 0
  · rw [if_pos h2, if_pos h2]; simp
  · rw [if_neg h2, if_neg h2]; simp [h2]
theorem joinE_bad (d : List V) (x : V × Nat) (r : List (V × Nat)) (h : x.2 ≠ 0) : joinE d (seqE (x :: r)) = ([], x.2) := by
  rw [seqE_cons, if_neg h]
  unfold joinE
  rw [if_neg h]
theorem joinE_end (d : List V) : joinE d (seqE []) = (d, 0) := by
  unfold joinE
  simp [seqE]
theorem tree_n (v : En) (r0 : Rows) (w0 : World) (op num : Int) (tx : List UInt8) (A : F) (hlen : A.len ≤ 100000) (hall : EvAll v r0 w0 A) (hgood : ∀ x ∈ evL v A, Good x.1) (hf : formedB op num tx A.len = true) (h6 : op ≠ 6) (h7 : op ≠ 7) (h40 : op ≠ 40) (h41 : op ≠ 41) : EvC v r0 w0 ⟨op, num, tx, A⟩ := by
  intro p c w hw hfa
  unfold envC
  simp only at hfa ⊢
  have hT : evT v ⟨op, num, tx, A⟩ = if (seqE (evL v A)).2 = 0 then opE op num tx (seqE (evL v A)).1 else (zeroV, (seqE (evL v A)).2) := by
    show nodeE v op num tx (evL v A) = _
    unfold nodeE
    rw [if_neg h6, if_neg h7, if_neg (by omega)]
  generalize hr : r0 = r at *
  have hb0 := (((Below.refl w.heap.size w).alloc (Nat.le_refl _) (.cells #[.slice r.pa v.attrs.length r.ca, .slice r.pv v.vals.length r.cv, .slice r.pn v.names.length r.cn, .slice r.pf v.fields.length r.cf] 55)).alloc (by simp) (.cells #[.int .i64 op, .int .i64 num, .string (S tx), .slice p A.len c] 24)).alloc (by simp; omega) (.cells #[.int .i64 0, .int .i64 0, .string ⟨#[]⟩, .slice none 0 0] 52)
  obtain ⟨w4, hmk, hrow4, hb4⟩ := make_v (fun g => g < w0.heap.size ∨ (((w.alloc (.cells #[.slice r.pa v.attrs.length r.ca, .slice r.pv v.vals.length r.cv, .slice r.pn v.names.length r.cn, .slice r.pf v.fields.length r.cf] 55)).alloc (.cells #[.int .i64 op, .int .i64 num, .string (S tx), .slice p A.len c] 24)).alloc (.cells #[.int .i64 0, .int .i64 0, .string ⟨#[]⟩, .slice none 0 0] 52)).heap.size < g) (((w.alloc (.cells #[.slice r.pa v.attrs.length r.ca, .slice r.pv v.vals.length r.cv, .slice r.pn v.names.length r.cn, .slice r.pf v.fields.length r.cf] 55)).alloc (.cells #[.int .i64 op, .int .i64 num, .string (S tx), .slice p A.len c] 24)).alloc (.cells #[.int .i64 0, .int .i64 0, .string ⟨#[]⟩, .slice none 0 0] 52)) A.len hlen
  have HE := Lib.hid (show EB (((w.alloc (.cells #[.slice r.pa v.attrs.length r.ca, .slice r.pv v.vals.length r.cv, .slice r.pn v.names.length r.cn, .slice r.pf v.fields.length r.cf] 55)).alloc (.cells #[.int .i64 op, .int .i64 num, .string (S tx), .slice p A.len c] 24)).alloc (.cells #[.int .i64 0, .int .i64 0, .string ⟨#[]⟩, .slice none 0 0] 52)) w.heap.size v r from EB.later (EB.later (heap_alloc_new w (.cells (envC v r) 55)) ((Below.refl _ _).alloc (Nat.le_refl _) _)) ((Below.refl _ _).alloc (Nat.le_refl _) _))
  have HXB := Lib.hid (show Bx (((w.alloc (.cells #[.slice r.pa v.attrs.length r.ca, .slice r.pv v.vals.length r.cv, .slice r.pn v.names.length r.cn, .slice r.pf v.fields.length r.cf] 55)).alloc (.cells #[.int .i64 op, .int .i64 num, .string (S tx), .slice p A.len c] 24)).alloc (.cells #[.int .i64 0, .int .i64 0, .string ⟨#[]⟩, .slice none 0 0] 52)) (w.heap.size + 1) (.int .i64 op) (.int .i64 num) (.string (S tx)) (.slice p A.len c) from laterE (new_box (w.alloc (.cells #[.slice r.pa v.attrs.length r.ca, .slice r.pv v.vals.length r.cv, .slice r.pn v.names.length r.cn, .slice r.pf v.fields.length r.cf] 55)) _ _ _ (by simp)) ((Below.refl _ _).alloc (Nat.le_refl _) _))
  have HV := Lib.hid (VB.new ((w.alloc (.cells #[.slice r.pa v.attrs.length r.ca, .slice r.pv v.vals.length r.cv, .slice r.pn v.names.length r.cn, .slice r.pf v.fields.length r.cf] 55)).alloc (.cells #[.int .i64 op, .int .i64 num, .string (S tx), .slice p A.len c] 24)) (.int .i64 0) (.int .i64 0) (.string ⟨#[]⟩) (.slice none 0 0) (w.heap.size + 1 + 1) (by simp))
  have hsz3 : (((w.alloc (.cells #[.slice r.pa v.attrs.length r.ca, .slice r.pv v.vals.length r.cv, .slice r.pn v.names.length r.cn, .slice r.pf v.fields.length r.cf] 55)).alloc (.cells #[.int .i64 op, .int .i64 num, .string (S tx), .slice p A.len c] 24)).alloc (.cells #[.int .i64 0, .int .i64 0, .string ⟨#[]⟩, .slice none 0 0] 52)).heap.size = w.heap.size + 1 + 1 + 1 := by simp
  have hwW := hw.trans (hb0.mono hw.size)
  have hpx := (laterE HXB.out hb4).c3
  obtain ⟨W3, hW3⟩ : ∃ W3, W3 = (((w.alloc (.cells #[.slice r.pa v.attrs.length r.ca, .slice r.pv v.vals.length r.cv, .slice r.pn v.names.length r.cn, .slice r.pf v.fields.length r.cf] 55)).alloc (.cells #[.int .i64 op, .int .i64 num, .string (S tx), .slice p A.len c] 24)).alloc (.cells #[.int .i64 0, .int .i64 0, .string ⟨#[]⟩, .slice none 0 0] 52)) := ⟨_, rfl⟩
  have hW3' := Lib.hid hW3
  obtain ⟨H, hH⟩ : ∃ H, H = (((w.alloc (.cells #[.slice r.pa v.attrs.length r.ca, .slice r.pv v.vals.length r.cv, .slice r.pn v.names.length r.cn, .slice r.pf v.fields.length r.cf] 55)).alloc (.cells #[.int .i64 op, .int .i64 num, .string (S tx), .slice p A.len c] 24)).alloc (.cells #[.int .i64 0, .int .i64 0, .string ⟨#[]⟩, .slice none 0 0] 52)).heap.size := ⟨_, rfl⟩
  rw [← hH] at hmk hrow4 hb4 hsz3
  have HHW := Lib.hid (show w.heap.size + 3 = H by omega)
  have HHS := Lib.hid (show (((w.alloc (.cells #[.slice r.pa v.attrs.length r.ca, .slice r.pv v.vals.length r.cv, .slice r.pn v.names.length r.cn, .slice r.pf v.fields.length r.cf] 55)).alloc (.cells #[.int .i64 op, .int .i64 num, .string (S tx), .slice p A.len c] 24)).alloc (.cells #[.int .i64 0, .int .i64 0, .string ⟨#[]⟩, .slice none 0 0] 52)).heap.size = H from hH.symm)
  have HMK := Lib.hid hmk
  have HROW := Lib.hid hrow4
  have HB4 := Lib.hid hb4
  have HB0 := Lib.hid hb0
  have HWW := Lib.hid hwW
  have HLT := Lib.hid hw.size
  have HF := Lib.hid hfa
  have HALL := Lib.hid hall
  have HG := Lib.hid hgood
  have HTE := Lib.hid hT
  have HNO := Lib.hid (fun (ok : Nat → Prop) (d : List V) (hd : ∀ x ∈ d, Good x) (hl : d.length = A.len) (a : Option Addr) (W : World) (hx : VsAt ok W a d) => show Calls Tryz.prog 57 #[.agg #[.int .i64 op, .int .i64 num, .string (S tx), .slice p A.len c], .slice a A.len A.len] W fun e w' => CameF W.heap.size (opE op num tx d) e w' ∧ Below W.heap.size W w' from by have h := node_any ok op num tx p A.len c d hd (by rw [hl]; exact hf) h6 h7 h40 h41 a A.len W hx; rw [hl] at h; exact h)
  have e6 : (op == 6) = false := by simpa using h6
  have e7 : (op == 7) = false := by simpa using h7
  have e40 : (op == 40) = false := by simpa using h40
  have e41 : (op == 41) = false := by simpa using h41
  have hki : (A.len : Int) ≤ 100000 := by omega
  have hmk2 := hmk
  clear hb0 hrow4 hb4 hw hfa hall hgood hT hmk hH hsz3 hwW hf h6 h7 h40 h41 hW3
  go_enter Tryz.func31, Tryz.ntmps31
  go_wp2_with fail
  clear hmk2 hpx
  go_loopw [41] (fun iv wr => ∃ (i : Nat) (l : F) (d : List V) (pr : Option Addr), iv = .int .i64 i ∧ i + l.len = A.len ∧ i = d.length ∧ EvAll v r w0 l ∧ (∀ x ∈ evL v l, Good x.1) ∧ (∀ x ∈ d, Good x) ∧ FAt w0 (fun _ => True) l pr ∧ (∀ g k, pr = some ⟨g, k, none⟩ → l ≠ .nil → ∃ k0, p = some ⟨g, k0, none⟩ ∧ k = k0 + 4 * i) ∧
    seqE (evL v A) = joinE d (seqE (evL v l)) ∧ VRow (fun g => g < w0.heap.size ∨ H < g) wr H A.len d ∧ Below H (((w.alloc (.cells #[.slice r.pa v.attrs.length r.ca, .slice r.pv v.vals.length r.cv, .slice r.pn v.names.length r.cn, .slice r.pf v.fields.length r.cf] 55)).alloc (.cells #[.int .i64 op, .int .i64 num, .string (S tx), .slice p A.len c] 24)).alloc (.cells #[.int .i64 0, .int .i64 0, .string ⟨#[]⟩, .slice none 0 0] 52)) wr) (fun iv _ => A.len - (intOf iv).toNat)
  case atStart => exact ⟨0, A, [], p, rfl, by omega, rfl, HALL.out, HG.out, (fun _ h => by cases h), HF.out, (fun g k e _ => ⟨k, e, by omega⟩), joinE_nil _, HROW.out, HB4.out⟩
  case round =>
    obtain ⟨i, l, d, pr, rfl, hil, hid, hal, hgl, hgd, hfr, hpr, hsq, hrow, hbe⟩ := hrel
    have hbW : Below (((w.alloc (.cells #[.slice r.pa v.attrs.length r.ca, .slice r.pv v.vals.length r.cv, .slice r.pn v.names.length r.cn, .slice r.pf v.fields.length r.cf] 55)).alloc (.cells #[.int .i64 op, .int .i64 num, .string (S tx), .slice p A.len c] 24)).alloc (.cells #[.int .i64 0, .int .i64 0, .string ⟨#[]⟩, .slice none 0 0] 52)).heap.size (((w.alloc (.cells #[.slice r.pa v.attrs.length r.ca, .slice r.pv v.vals.length r.cv, .slice r.pn v.names.length r.cn, .slice r.pf v.fields.length r.cf] 55)).alloc (.cells #[.int .i64 op, .int .i64 num, .string (S tx), .slice p A.len c] 24)).alloc (.cells #[.int .i64 0, .int .i64 0, .string ⟨#[]⟩, .slice none 0 0] 52)) wr := by rw [HHS.out]; exact hbe
    have heb := HE.out.later hbW
    have q0 := heb.c0
    have q1 := heb.c1
    have q2 := heb.c2
    have q3 := heb.c3
    have hx := laterE HXB.out hbW
    have p0 := hx.c0
    have p1 := hx.c1
    have p2 := hx.c2
    have p3 := hx.c3
    have hlt := hrow.lt
    have hle := Nat.le_of_lt hlt
    cases l with
    | nil =>
      have hil2 : i = A.len := by simpa [F.len] using hil
      have hie : ¬ (i : Int) < (A.len : Int) := by omega
      have hdl : d.length = A.len := by omega
      have hsq2 : seqE (evL v A) = (d, 0) := hsq.trans (joinE_end d)
      have hTE := HTE.out
      rw [hsq2] at hTE
      simp only [if_true] at hTE
      have HN := Lib.hid (HNO.out _ d hgd hdl _ wr hrow.at_)
      have HBE := Lib.hid hbe
      have HTT := Lib.hid hTE
      have HBWW := Lib.hid hbW
      have HLE := Lib.hid hle
      clear hbe hx hrow hsq hsq2 hTE hfr hpr hal hgl heb hbW hlt hle hgd hdl hil hid
      subst hil2
      rw [← HTT.out] at HN
      obtain ⟨X, hXX⟩ : ∃ X, X = evT v ⟨op, num, tx, A⟩ := ⟨_, rfl⟩
      rw [← hXX] at HN
      have HXX := Lib.hid hXX
      clear hXX HTT HTE
      by_cases h0 : X.2 = 0
      · have HN2 := Lib.hid (HN.out.mono (R' := fun e w' => (∃ a c, e = .returned (valC X.1 a c) ∧ FrAt wr.heap.size w' a X.1.list c) ∧ Below wr.heap.size wr w') (fun e w' h => ⟨by
          rcases h.1 with ⟨_, h⟩ | ⟨h, _⟩
          · exact h
          · exact absurd h0 h, h.2⟩))
        clear HN
        obtain ⟨⟨xk, xn, xt, xl⟩, er⟩ := X
        unfold valC at HN2
        simp only at HN2 h0
        subst h0
        generalize hxl : xl.length = lx at *
        go_wp2_with fail
        refine HN2.out.mono ?_
        rintro e w5 ⟨⟨a', c', rfl, hfr⟩, b5⟩
        have hb5 := HBWW.out.trans (b5.mono (by rw [HHS.out]; exact HLE.out))
        have hnb := HV.out.later hb5
        have fz := hnb.fz
        have k0 := hnb.c0
        have k1 := hnb.c1
        have k2 := hnb.c2
        have k3 := hnb.c3
        have HP := Lib.hid (hnb.put (.int .i64 xk) (.int .i64 xn) (.string (S xt)) (.slice a' lx c'))
        have HBP := Lib.hid (below_put (HB0.out.trans (hb5.mono HB0.out.size)) (w.heap.size + 1 + 1) (by omega) (.int .i64 xk) (.int .i64 xn) (.string (S xt)) (.slice a' lx c'))
        have HLA := Lib.hid (LAt.of_fr (ok := fun g => g < w0.heap.size ∨ w.heap.size ≤ g) ((fr_put (H := w.heap.size + 1 + 1) hfr (by have := HLE.out; have := HHW.out; omega) (.int .i64 xk) (.int .i64 xn) (.string (S xt)) (.slice a' lx c')).mono (B' := w.heap.size) (by have := HLE.out; have := HHW.out; omega)) (fun g h => .inr h))
        clear b5 hnb hb5 hfr
        go_wp2_with fail
        exact bodyPost_ret (res_val rfl _ _ _ _ _ _ _ rfl HP.out) rfl ⟨by rw [← HXX.out]; exact .inl ⟨rfl, a', c', by rw [← hxl]; rfl, HLA.out⟩, HBP.out⟩
      · have HN2 := Lib.hid (HN.out.mono (R' := fun e w' => e = panE X.2 ∧ Below wr.heap.size wr w') (fun e w' h => ⟨by
          rcases h.1 with ⟨h, _⟩ | ⟨_, h⟩
          · exact absurd h h0
          · exact h, h.2⟩))
        clear HN
        go_wp2_with fail
        refine HN2.out.mono ?_
        rintro e w5 ⟨rfl, b5⟩
        have HB5 := Lib.hid (HB0.out.trans ((HBWW.out.trans (b5.mono (by rw [HHS.out]; exact HLE.out))).mono HB0.out.size))
        clear b5
        unfold panE
        go_wp2_with fail
        exact ⟨rfl, by rw [← HXX.out]; exact .inr ⟨h0, rfl⟩, HB5.out⟩
    | cons o nm tt a l =>
      obtain ⟨g, k, q, cc, rfl, _, hgl0, f0, f1, f2, f3, hfa, hfr2⟩ := hfr
      obtain ⟨k0, rfl, rfl⟩ := hpr g k rfl (by intro e; cases e)
      have hil2 : i + (l.len + 1) = A.len := by simpa [F.len] using hil
      have hie : (i : Int) < (A.len : Int) := by omega
      rw [show k0 + 4 * i = k0 + i * 4 by omega] at f0 f1 f2 f3
      have hwr := HWW.out.trans (hbW.mono HWW.out.size)
      obtain ⟨f0, f1, f2, f3, _⟩ := (TC.mk f0 f1 f2 f3 hgl0).later hwr
      have zb : ∀ o j, (wr.alloc o).cell? ⟨w.heap.size, j, none⟩ = wr.cell? ⟨w.heap.size, j, none⟩ := fun o j => zcell wr o _ j (by have := HHW.out; omega)
      have ba := (Below.refl wr.heap.size wr).alloc (Nat.le_refl _) (.cells #[.int .i64 o, .int .i64 nm, .string (S tt), .slice q a.len cc] 24)
      have hcall := hal.1 q cc (wr.alloc (.cells #[.int .i64 o, .int .i64 nm, .string (S tt), .slice q a.len cc] 24)) (hwr.trans (ba.mono hwr.size)) hfa
      unfold envC at hcall
      simp only at hcall
      have hgx : Good (evT v ⟨o, nm, tt, a⟩).1 := hgl _ (by show evT v ⟨o, nm, tt, a⟩ ∈ evT v ⟨o, nm, tt, a⟩ :: evL v l; simp)
      have hcons : evL v (.cons o nm tt a l) = evT v ⟨o, nm, tt, a⟩ :: evL v l := rfl
      rw [hcons] at hsq
      have HBA := Lib.hid ba
      have HROW1 := Lib.hid hrow
      have HBE := Lib.hid hbe
      have HBWW := Lib.hid hbW
      have HAL := Lib.hid hal.2
      have HFR := Lib.hid hfr2
      have HGL := Lib.hid (fun x (hx : x ∈ evL v l) => hgl x (by rw [hcons]; simp [hx]))
      have HGD := Lib.hid hgd
      have HID := Lib.hid hid
      have HLE := Lib.hid hle
      clear hrow hbe ba hal hfa hfr2 hpr hx hgl hgd hid heb hbW hwr hcons hgl0
      generalize evT v ⟨o, nm, tt, a⟩ = X at *
      have HSQ := Lib.hid hsq
      have HGX := Lib.hid hgx
      clear hsq hgx
      by_cases h0 : X.2 = 0
      · have HN2 := Lib.hid (hcall.mono (R' := fun e w' => (∃ a c, e = .returned (valC X.1 a c) ∧ LAt (fun g => g < w0.heap.size ∨ H < g) w' a X.1.list c) ∧ Below (wr.alloc (.cells #[.int .i64 o, .int .i64 nm, .string (S tt), .slice q a.len cc] 24)).heap.size (wr.alloc (.cells #[.int .i64 o, .int .i64 nm, .string (S tt), .slice q a.len cc] 24)) w') (fun e w' h => ⟨by
          obtain ⟨a', c', he, hl⟩ := h.1.ret h0
          exact ⟨a', c', he, hl.mono fun g hg => by
            rcases hg with hg | hg
            · exact .inl hg
            · exact .inr (by simp at hg; omega)⟩, h.2⟩))
        clear hcall
        have HSQ2 := Lib.hid (HSQ.out.trans (joinE_ok d X (evL v l) h0))
        clear HSQ
        obtain ⟨⟨xk, xn, xt, xl⟩, er⟩ := X
        unfold valC at HN2
        simp only at HN2 h0 HSQ2 HGX
        subst h0
        go_wp2_with fail
        refine HN2.out.mono ?_
        rintro e w5 ⟨⟨a', c', rfl, hla⟩, b5⟩
        have b6 := HBA.out.trans (b5.mono HBA.out.size)
        have hrow6 := HROW1.out.later b6
        obtain ⟨u0, g0⟩ := hrow6.room i 0 (by omega) (by omega)
        obtain ⟨u1, g1⟩ := hrow6.room i 1 (by omega) (by omega)
        obtain ⟨u2, g2⟩ := hrow6.room i 2 (by omega) (by omega)
        obtain ⟨u3, g3⟩ := hrow6.room i 3 (by omega) (by omega)
        have fz := hrow6.fz
        rw [Nat.add_zero] at g0
        have HR7 := Lib.hid (hrow6.put (by show ¬ (H < w0.heap.size ∨ H < H); have := HLT.out; have := HHW.out; omega) i HID.out (by omega) ⟨xk, xn, xt, xl⟩ a' c' hla)
        have HB7 := Lib.hid (putV_below (HBE.out.trans (b6.mono HLE.out)) H i (Nat.le_refl _) ⟨xk, xn, xt, xl⟩ a' c')
        clear b5 b6 hrow6 hla
        go_wp2_with fail
        go_roundw
        case rel => exact ⟨i + 1, l, d ++ [(⟨xk, xn, xt, xl⟩ : V)], some ⟨g, k0 + 4 * i + 4, none⟩, by go_num, by omega, by have := HID.out; simp; omega, HAL.out, HGL.out, (fun x hx => by
          rcases List.mem_append.1 hx with hx | hx
          · exact HGD.out x hx
          · rw [List.mem_singleton.1 hx]; exact HGX.out), HFR.out, (fun g' k' e _ => by injection e with e; injection e with e1 e2 _; subst e1 e2; exact ⟨k0, rfl, by omega⟩), HSQ2.out, HR7.out, HB7.out⟩
        case measure => simp [intOf]; omega
      · have HN2 := Lib.hid (hcall.mono (R' := fun e w' => e = panE X.2 ∧ Below (wr.alloc (.cells #[.int .i64 o, .int .i64 nm, .string (S tt), .slice q a.len cc] 24)).heap.size (wr.alloc (.cells #[.int .i64 o, .int .i64 nm, .string (S tt), .slice q a.len cc] 24)) w') (fun e w' h => ⟨h.1.pan h0, h.2⟩))
        clear hcall
        have hsq2 := HSQ.out.trans (joinE_bad d X (evL v l) h0)
        have hTE := HTE.out
        rw [hsq2, if_neg h0] at hTE
        have HTT := Lib.hid hTE
        clear hsq2 hTE HSQ
        go_wp2_with fail
        refine HN2.out.mono ?_
        rintro e w5 ⟨rfl, b5⟩
        have HB5 := Lib.hid (HB0.out.trans ((HBWW.out.trans ((HBA.out.trans (b5.mono HBA.out.size)).mono (by rw [HHS.out]; exact HLE.out))).mono HB0.out.size))
        clear b5
        unfold panE
        go_wp2_with fail
        exact ⟨rfl, by rw [HTT.out]; exact .inr ⟨h0, rfl⟩, HB5.out⟩
end Go.Proofs.YtlmmfhbdebfgkaaGreatDoor.Ev
