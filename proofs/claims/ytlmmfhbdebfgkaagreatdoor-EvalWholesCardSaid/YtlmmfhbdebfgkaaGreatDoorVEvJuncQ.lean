/-
  EvJunc, EvAll, ExWrJ.
-/
import Derived.Test.YtlmmfhbdebfgkaaGreatDoorVEvJ1Q
import Derived.Test.YtlmmfhbdebfgkaaGreatDoorVEvJ5Q
import Derived.Test.YtlmmfhbdebfgkaaGreatDoorVEvTreeN
import Derived.Test.YtlmmfhbdebfgkaaGreatDoorVExWrHQ
import Derived.Lib.UnsafeStr
set_option linter.unusedVariables false
set_option linter.unusedSimpArgs false
set_option maxRecDepth 100000
set_option maxHeartbeats 8000000
namespace Go.Proofs.YtlmmfhbdebfgkaaGreatDoor.Ev
open Go.RowKit
open Ex Lx Va Ty
theorem junc_any (v : En) (r : Rows) (w0 : World) (o n : Int) (ho : o = 40 ∨ o = 41) (t : List UInt8) (xo xn yo yn : Int) (xt yt : List UInt8) (xa ya : F) (hx : EvC v r w0 ⟨xo, xn, xt, xa⟩) (hy : EvC v r w0 ⟨yo, yn, yt, ya⟩) (gx : Good (evT v ⟨xo, xn, xt, xa⟩).1) (gy : Good (evT v ⟨yo, yn, yt, ya⟩).1)
    (p : Option Addr) (c : Nat) (w : World) (hw : Below w0.heap.size w0 w) (hfa : FAt w0 (fun _ => True) (.cons xo xn xt xa (.cons yo yn yt ya .nil)) p) :
    Calls Tryz.prog 56 #[.agg (envC v r), .agg #[.int .i64 o, .int .i64 n, .string (S t), .slice p 2 c]] w fun e w' => CameF w.heap.size (juncE o [evT v ⟨xo, xn, xt, xa⟩, evT v ⟨yo, yn, yt, ya⟩]) e w' ∧ Below w.heap.size w w' := by
  obtain ⟨g, k, xq, xc, rfl, _, hg, x0, x1, x2, x3, hxa, hrest⟩ := hfa
  obtain ⟨g', k', yq, yc, e1, _, _, y0, y1, y2, y3, hya, _⟩ := hrest
  injection e1 with e1
  injection e1 with e1 e2 _
  subst e1 e2
  rw [junc_prog o _ _ gx gy ho]
  have hb := (((Below.refl w.heap.size w).alloc (Nat.le_refl _) (.cells #[.slice r.pa v.attrs.length r.ca, .slice r.pv v.vals.length r.cv, .slice r.pn v.names.length r.cn, .slice r.pf v.fields.length r.cf] 55)).alloc (by simp) (.cells #[.int .i64 o, .int .i64 n, .string (S t), .slice (some ⟨g, k, none⟩) 2 c] 24)).alloc (by simp; omega) (.cells #[.int .i64 0, .int .i64 0, .string ⟨#[]⟩, .slice none 0 0] 52)
  have hww := hw.trans (hb.mono hw.size)
  have HX := Lib.hid ((TC.mk x0 x1 x2 x3 hg).later hww)
  have HY := Lib.hid ((TC.mk y0 y1 y2 y3 hg).later hww)
  have CX := fun W (kk : Below _ _ W) => (hx xq xc W (hww.trans (kk.mono hww.size)) hxa).mono (R' := fun e w' => CameIn (fun _ => True) (evT v ⟨xo, xn, xt, xa⟩) e w' ∧ Below W.heap.size W w') (fun e w' h => ⟨by
    rcases h.1 with ⟨h0, a, c, he, hl⟩ | h
    · exact .inl ⟨h0, a, c, he, hl.mono (fun _ _ => trivial)⟩
    · exact .inr h, h.2⟩)
  have CY := fun W (kk : Below _ _ W) => (hy yq yc W (hww.trans (kk.mono hww.size)) hya).mono (R' := fun e w' => CameIn (fun _ => True) (evT v ⟨yo, yn, yt, ya⟩) e w' ∧ Below W.heap.size W w') (fun e w' h => ⟨by
    rcases h.1 with ⟨h0, a, c, he, hl⟩ | h
    · exact .inl ⟨h0, a, c, he, hl.mono (fun _ _ => trivial)⟩
    · exact .inr h, h.2⟩)
  generalize evT v ⟨xo, xn, xt, xa⟩ = X at *
  generalize evT v ⟨yo, yn, yt, ya⟩ = Y at *
  by_cases h1 : X.2 = 0
  · rw [if_neg (not_not_intro h1)]
    by_cases h2 : X.1.kind = 2
    · rw [if_neg (not_not_intro h2)]
      by_cases h3 : (X.1.num == 1) = (o == 41)
      · rw [if_pos h3]
        exact junc_3 v r o n t xo xn yo yn xt yt xq yq xa.len ya.len xc yc X Y g k c w _ CX CY HX HY h1 h2 h3
      · rw [if_neg h3]
        by_cases h4 : Y.2 = 0
        · rw [if_neg (not_not_intro h4)]
          by_cases h5 : Y.1.kind = 2
          · rw [if_neg (not_not_intro h5)]
            exact junc_6 v r o n t xo xn yo yn xt yt xq yq xa.len ya.len xc yc X Y g k c w _ CX CY HX HY h1 h2 h3 h4 h5
          · rw [if_pos h5]
            exact junc_5 v r o n t xo xn yo yn xt yt xq yq xa.len ya.len xc yc X Y g k c w _ CX CY HX HY h1 h2 h3 h4 h5
        · rw [if_pos h4]
          exact junc_4 v r o n t xo xn yo yn xt yt xq yq xa.len ya.len xc yc X Y g k c w _ CX CY HX HY h1 h2 h3 h4
    · rw [if_pos h2]
      exact junc_2 v r o n t xo xn yo yn xt yt xq yq xa.len ya.len xc yc X Y g k c w _ CX CY HX HY h1 h2
  · rw [if_pos h1]
    exact junc_1 v r o n t xo xn yo yn xt yt xq yq xa.len ya.len xc yc X Y g k c w _ CX CY HX HY h1
end Go.Proofs.YtlmmfhbdebfgkaaGreatDoor.Ev
namespace Go.Proofs.YtlmmfhbdebfgkaaGreatDoor.Ev
open Go.RowKit
open Ex Lx Va Ty
theorem tree_j (v : En) (r : Rows) (w0 : World) (op num : Int) (ho : op = 40 ∨ op = 41) (tx : List UInt8) (A : F) (hlen : A.len = 2) (hall : EvAll v r w0 A) (hgood : ∀ x ∈ evL v A, Good x.1) : EvC v r w0 ⟨op, num, tx, A⟩ := by
  match A, hlen with
  | .cons xo xn xt xa (.cons yo yn yt ya .nil), _ =>
  intro p c w hw hfa
  have hT : evT v ⟨op, num, tx, .cons xo xn xt xa (.cons yo yn yt ya .nil)⟩ = juncE op [evT v ⟨xo, xn, xt, xa⟩, evT v ⟨yo, yn, yt, ya⟩] := by
    show nodeE v op num tx _ = _
    unfold nodeE
    rw [if_neg (by omega), if_neg (by omega), if_pos ho]
    rfl
  have gx : Good (evT v ⟨xo, xn, xt, xa⟩).1 := hgood _ (by show evT v ⟨xo, xn, xt, xa⟩ ∈ [evT v ⟨xo, xn, xt, xa⟩, evT v ⟨yo, yn, yt, ya⟩]; simp)
  have gy : Good (evT v ⟨yo, yn, yt, ya⟩).1 := hgood _ (by show evT v ⟨yo, yn, yt, ya⟩ ∈ [evT v ⟨xo, xn, xt, xa⟩, evT v ⟨yo, yn, yt, ya⟩]; simp)
  have hcall := fun (W : World) (k : Below w.heap.size w W) => junc_any v r w0 op num ho tx xo xn yo yn xt yt xa ya hall.1 hall.2.1 gx gy p c W (hw.trans (k.mono hw.size)) hfa
  rw [hT]
  generalize juncE op [evT v ⟨xo, xn, xt, xa⟩, evT v ⟨yo, yn, yt, ya⟩] = X at *
  clear hT gx gy hall hgood hfa
  show Calls Tryz.prog 31 #[.agg (envC v r), .agg #[.int .i64 op, .int .i64 num, .string (S tx), .slice p 2 c]] w fun e w' => CameIn (fun g => g < w0.heap.size ∨ w.heap.size ≤ g) X e w' ∧ Below w.heap.size w w'
  unfold envC at *
  have hb := (((Below.refl w.heap.size w).alloc (Nat.le_refl _) (.cells #[.slice r.pa v.attrs.length r.ca, .slice r.pv v.vals.length r.cv, .slice r.pn v.names.length r.cn, .slice r.pf v.fields.length r.cf] 55)).alloc (by simp) (.cells #[.int .i64 op, .int .i64 num, .string (S tx), .slice p 2 c] 24)).alloc (by simp; omega) (.cells #[.int .i64 0, .int .i64 0, .string ⟨#[]⟩, .slice none 0 0] 52)
  have HV := Lib.hid (VB.new ((w.alloc (.cells #[.slice r.pa v.attrs.length r.ca, .slice r.pv v.vals.length r.cv, .slice r.pn v.names.length r.cn, .slice r.pf v.fields.length r.cf] 55)).alloc (.cells #[.int .i64 op, .int .i64 num, .string (S tx), .slice p 2 c] 24)) (.int .i64 0) (.int .i64 0) (.string ⟨#[]⟩) (.slice none 0 0) (w.heap.size + 1 + 1) (by simp))
  have hcall2 := hcall _ hb
  have HSZ := Lib.hid (show (((w.alloc (.cells #[.slice r.pa v.attrs.length r.ca, .slice r.pv v.vals.length r.cv, .slice r.pn v.names.length r.cn, .slice r.pf v.fields.length r.cf] 55)).alloc (.cells #[.int .i64 op, .int .i64 num, .string (S tx), .slice p 2 c] 24)).alloc (.cells #[.int .i64 0, .int .i64 0, .string ⟨#[]⟩, .slice none 0 0] 52)).heap.size = w.heap.size + 1 + 1 + 1 from by simp)
  have HB := Lib.hid hb
  clear hcall hb hw
  have e6 : (op == 6) = false := by simp; omega
  have e7 : (op == 7) = false := by simp; omega
  by_cases h0 : X.2 = 0
  · have HN2 := Lib.hid (hcall2.mono (R' := fun e w' => (∃ a c, e = .returned (valC X.1 a c) ∧ FrAt _ w' a X.1.list c) ∧ Below _ _ w') (fun e w' h => ⟨by
      rcases h.1 with ⟨_, h⟩ | ⟨h, _⟩
      · exact h
      · exact absurd h0 h, h.2⟩))
    clear hcall2
    obtain ⟨⟨xk, xn, xt, xl⟩, er⟩ := X
    unfold valC at HN2
    simp only at HN2 h0
    subst h0
    generalize hxl : xl.length = lx at *
    rcases ho with rfl | rfl
    all_goals
      go_enter Tryz.func31, Tryz.ntmps31
      go_wp2_with fail
      refine HN2.out.mono ?_
      rintro e w5 ⟨⟨a', c', rfl, hfr⟩, b5⟩
      have hnb := HV.out.later b5
      have fz := hnb.fz
      have k0 := hnb.c0
      have k1 := hnb.c1
      have k2 := hnb.c2
      have k3 := hnb.c3
      have HP := Lib.hid (hnb.put (.int .i64 xk) (.int .i64 xn) (.string (S xt)) (.slice a' lx c'))
      have HBP := Lib.hid (below_put (HB.out.trans (b5.mono HB.out.size)) (w.heap.size + 1 + 1) (by omega) (.int .i64 xk) (.int .i64 xn) (.string (S xt)) (.slice a' lx c'))
      have HLA := Lib.hid (LAt.of_fr (ok := fun g => g < w0.heap.size ∨ w.heap.size ≤ g) ((fr_put (H := w.heap.size + 1 + 1) hfr (by rw [HSZ.out]; omega) (.int .i64 xk) (.int .i64 xn) (.string (S xt)) (.slice a' lx c')).mono (B' := w.heap.size) (by rw [HSZ.out]; omega)) (fun g h => .inr h))
      clear b5 hnb hfr
      go_wp2_with fail
      exact bodyPost_ret (res_val rfl _ _ _ _ _ _ _ rfl HP.out) rfl ⟨.inl ⟨rfl, a', c', by rw [← hxl]; rfl, HLA.out⟩, HBP.out⟩
  · have HN2 := Lib.hid (hcall2.mono (R' := fun e w' => e = panE X.2 ∧ Below _ _ w') (fun e w' h => ⟨by
      rcases h.1 with ⟨h, _⟩ | ⟨_, h⟩
      · exact absurd h h0
      · exact h, h.2⟩))
    clear hcall2
    rcases ho with rfl | rfl
    all_goals
      go_enter Tryz.func31, Tryz.ntmps31
      go_wp2_with fail
      refine HN2.out.mono ?_
      rintro e w5 ⟨rfl, b5⟩
      have HB5 := Lib.hid (HB.out.trans (b5.mono HB.out.size))
      clear b5
      unfold panE
      go_wp2_with fail
      exact ⟨rfl, .inr ⟨h0, rfl⟩, HB5.out⟩
theorem ev_all (v : En) (r : Rows) (w0 : World) (hen : EnAt w0 r.pa r.pv r.pn r.pf v) (hf : EnFit v) : ∀ l : F, okE l → EvAll v r w0 l
  | .nil, _ => trivial
  | .cons o n t a l, h => by
    have ha := ev_all v r w0 hen hf a h.2.2.2.1
    have hg := ev_good v hf.gvals hf.gfields a h.2.2.2.1
    refine ⟨?_, ev_all v r w0 hen hf l h.2.2.2.2⟩
    have hc := cnt_cases (formed_cntE h.1)
    by_cases h6 : o = 6
    · subst h6; exact tree_6 v r w0 hen hf n t a
    by_cases h7 : o = 7
    · subst h7; exact tree_7 v r w0 hen hf n t a
    by_cases h40 : o = 40 ∨ o = 41
    · exact tree_j v r w0 o n h40 t a (by omega) ha hg
    · exact tree_n v r w0 o n t a (by omega) ha hg h.1 h6 h7 (by omega) (by omega)
end Go.Proofs.YtlmmfhbdebfgkaaGreatDoor.Ev
namespace Go.Proofs.YtlmmfhbdebfgkaaGreatDoor.Ex
open Go.RowKit
open Lx Va
theorem cells_u8 : Tryz.prog.cellsOf 5 = 1 := by kernel_rfl
theorem wstring_any (b : Nat) (l : List UInt8) (o d : Int) (w : World) (h : Wr w b l o d) (h0 : l ≠ []) :
    Calls Tryz.prog 23 #[.pointer (some ⟨b, 0, none⟩)] w fun e w' => e = .returned (.string (S l)) ∧ Below b w w' := by
  obtain ⟨p, v, hb, hp, hown⟩ := h.has
  have hl0 : l.length ≠ 0 := by simpa using h0
  obtain ⟨g, cap, cur, fz, rfl, hbg, hg, hfz, hnc, hcm, hcs, htake⟩ : ∃ g cap cur fz, v = .slice (some ⟨g, 0, none⟩) l.length cap ∧ b + 1 ≤ g ∧ w.heap[g]? = some (.cells cur 5 fz) ∧ fz.2 ≤ l.length * 1 ∧ l.length ≤ cap ∧ cap ≤ maxLen ∧ cur.size = cap * 1 ∧ cur.toList.take (l.length * 1) = Lib.byteCells l := by
    rcases (World.ownsRowF_of hown).2 with ⟨_, hz⟩ | ⟨g, cap, cur, fz, hv, r⟩
    · exact absurd hz hl0
    · exact ⟨g, cap, cur, fz, hv, r⟩
  have c1 : w.drew.cell? ⟨b, 1, none⟩ = some (.slice (some ⟨g, 0, none⟩) l.length cap) := hb.c1
  have hSD : (Builtin.unsafeSliceData_ #[67] 107 #[.slice (some ⟨g, 0, none⟩) l.length cap]).run Tryz.prog w.drew = .ok (.pointer (some ⟨g, 0, none⟩)) w.drew :=
    Lib.run_unsafeSliceData_row _ _ _ _ _ _ (by omega)
  have hUS : (Builtin.unsafeString_ #[107, 3] 9 #[.pointer (some ⟨g, 0, none⟩), .int .i64 l.length]).run Tryz.prog w.drew = .ok (.string ⟨l.toArray⟩) (w.drew.freeze ⟨g, 0, none⟩ l.length) := by
    refine Lib.run_unsafeString_row w.drew 107 3 9 5 Tryz.underlying107 cells_u8 g cur.size (by have hg' : w.drew.heap[g]? = some (.cells cur 5 fz) := hg; simp [World.shape?, hg']) l h0 (by omega) (by unfold maxLen at hcm; omega) ?_
    intro j x hx
    have := (World.ownsRowF_of hown).cells (g := g) rfl j (.int .u8 x.toNat) (by simp [Lib.byteCells, hx])
    exact this
  clear hb hp hown h hfz hnc hcm hcs htake
  have mixed : Tryz.prog.follows Departure.mixedOrders = true := by kernel_rfl
  go_enter Tryz.func23, Tryz.ntmps23
  go_wp2
  go_region_o
  all_goals (go_wp2; go_ret; exact ⟨rfl, Lib.below_freeze (Below.drew (Below.refl b w)) (p := ⟨g, 0, none⟩) (by show b ≤ g; omega) _⟩)
theorem exprPrint_any (t : T) (hfit : t.row.fits) (hnums : t.row.nums) (p : Option Addr) (c : Nat) (w : World) (htab : Tab w) (hC : ConsAt w) (hF : FAt w (· < w.heap.size) t.args p) :
    Calls Tryz.prog 10 #[.agg #[.int .i64 t.op, .int .i64 t.num, .string (S t.text), .slice p t.args.len c]] w fun e w' => e = .returned (.tuple #[.string (S (printM t).1), .int .i64 ((printM t).2 : Nat)]) ∧ Below w.heap.size w w' := by
  have hc0 := chkF_count t.row 0 (by omega)
  have htx := tx_len t hnums
  obtain ⟨W1, hW1⟩ : ∃ W1, W1 = w.alloc (.cells #[.int .i64 t.op, .int .i64 t.num, .string (S t.text), .slice p t.args.len c] 24) := ⟨_, rfl⟩
  have hs1 : W1.heap.size = w.heap.size + 1 := by rw [hW1]; simp
  have b1 : Below w.heap.size w W1 := by rw [hW1]; exact (Below.refl _ _).alloc (Nat.le_refl _) _
  have b2 : Below w.heap.size w (W1.alloc (.cells #[.int .i64 0] 64)) := b1.alloc (by omega) _
  have hck : Ck (W1.alloc (.cells #[.int .i64 0] 64)) W1.heap.size 0 := heap_alloc_new W1 _
  have hbx1 := Bx.new w (.int .i64 t.op) (.int .i64 t.num) (.string (S t.text)) (.slice p t.args.len c)
  rw [← hW1] at hbx1
  have hbx2 := hbx1.keep (Kept.alloc (ok := fun _ => True) W1 (.cells #[.int .i64 0] 64)) trivial
  have hFk := hF.keep (Kept.of_below (ok := (· < w.heap.size)) b2)
  rw [hs1] at hck
  have hF2 : FAt (W1.alloc (.cells #[.int .i64 0] 64)) (· ≠ w.heap.size + 1) t.args p := FAt.mono (fun g _ hg => by omega) _ _ hFk
  have HCH := Lib.hid (chk_any (w.heap.size + 1) t hfit 0 p c _ (by omega) hck (hC.keep (Kept.of_below (ok := fun _ => True) b2) trivial) (by have := hC.2; omega) hF2)
  have HB2 := Lib.hid b2
  have HFK := Lib.hid hFk
  have HBX2 := Lib.hid hbx2
  have HS2 := Lib.hid (show (W1.alloc (.cells #[.int .i64 0] 64)).heap.size = w.heap.size + 1 + 1 by simp [hs1])
  have HTX := Lib.hid htx
  have HTAB := Lib.hid htab
  have HC := Lib.hid hC
  have HFI := Lib.hid hfit
  rw [hW1] at HCH HB2 HFK HBX2 HS2
  clear hW1 hs1 b1 b2 hck hbx1 hbx2 hFk hF2 htx htab hC hF W1
  by_cases hbad : (t.chk 0).1 = 0
  · obtain ⟨hok, hlen, hop, hne⟩ := HTX.out hbad
    have HPM := Lib.hid (show printM t = if 20 < t.tx.open_ then ([], 26) else (t.tx.text, 0) by unfold printM; rw [if_neg (by simpa using hbad)])
    rw [hbad] at HCH
    have HOK := Lib.hid hok
    have HNE := Lib.hid hne
    clear hok hne hbad
    go_enter Tryz.func10, Tryz.ntmps10
    go_wp2_with fail
    refine HCH.out.mono ?_
    rintro e w3 ⟨rfl, o3, _⟩
    have hb3 := Only.below HB2.out o3 (by rw [HS2.out]; omega) (by omega)
    have hx3 := HBX2.out.keep o3.kept (by show w.heap.size ≠ w.heap.size + 1; omega)
    have HX3 := Lib.hid hx3
    obtain ⟨W4, hW4⟩ : ∃ W4, W4 = w3.alloc (.cells #[.pointer none, .slice none 0 0, .int .i64 0, .int .i64 0] 71) := ⟨_, rfl⟩
    have hb4 : Below w.heap.size w W4 := by rw [hW4]; exact hb3.alloc hb3.size _
    have hwb : WrB W4 w3.heap.size (.pointer none) (.slice none 0 0) 0 0 := by rw [hW4]; exact heap_alloc_new w3 _
    have hWr : Wr W4 w3.heap.size [] (0 : Nat) (0 : Nat) := ⟨_, _, hwb, .inl rfl, World.ownsRow_nil _ _ _ _⟩
    have hF4 : FAt W4 (Oth W4 w3.heap.size) t.args p := by
      have h1 := HFK.out.keep (w' := W4) (by rw [hW4]; exact (Kept.of_below (ok := (· < w.heap.size)) (Below.refl _ _)).trans ((o3.kept.mono (fun g hg => by show g ≠ w.heap.size + 1; omega)).trans (Kept.alloc w3 _)))
      exact FAt.mono (fun g _ hg => Oth.low hWr (by have := hb3.size; omega)) _ _ h1
    have hx4 := hx3.keep (Kept.alloc (ok := fun _ => True) w3 (.cells #[.pointer none, .slice none 0 0, .int .i64 0, .int .i64 0] 71)) trivial
    have p0 := hx4.c0
    have p1 := hx4.c1
    have p2 := hx4.c2
    have p3 := hx4.c3
    have hcall := (tree_all w w3.heap.size ⟨HTAB.out, HC.out, hb3.size⟩ t.row HFI.out HOK.out).1 [] 0 0 p c W4 (by show 0 + t.tx.open_ ≤ 100000; omega) (by show 0 + t.tx.text.length ≤ 1000000000; omega) (Nat.le_refl _) hWr hb4 hF4
    have HCALL := Lib.hid (show Calls Tryz.prog 22 #[.pointer (some ⟨w3.heap.size, 0, none⟩), .agg #[.int .i64 t.op, .int .i64 t.num, .string (S t.text), .slice p t.args.len c]] W4 (fun e w' => e = .returned (.tuple #[]) ∧ Wr w' w3.heap.size t.tx.text (0 : Nat) ((t.tx.open_ : Nat) : Int) ∧ Wk w3.heap.size W4 w') from by
      refine hcall.mono ?_
      rintro e w' ⟨h1, h2, h3⟩
      have e1 : max 0 (0 + t.tx.open_) = t.tx.open_ := by omega
      have h2' : Wr w' w3.heap.size t.tx.text (0 : Nat) ((max 0 (0 + t.tx.open_) : Nat) : Int) := h2
      rw [e1] at h2'
      exact ⟨h1, h2', h3⟩)
    have HB4 := Lib.hid hb4
    have HW4 := Lib.hid hW4
    have hb3s := hb3.size
    rw [← hW4] at p0 p1 p2 p3
    clear hb3 hx3 hb4 hwb hWr hF4 hx4 hcall o3
    rw [hW4] at p0 p1 p2 p3 HCALL HB4
    clear hW4 HW4
    go_wp2_with fail
    refine HCALL.out.mono ?_
    rintro e w5 ⟨rfl, hw5, k5⟩
    have c3 := hw5.c3
    have HW5 := Lib.hid hw5
    have HB5 := Lib.hid (HB4.out.trans (k5.below.mono hb3s))
    clear hw5 k5
    by_cases h20 : 20 < t.tx.open_
    · have HR := Lib.hid (show printM t = ([], 26) by rw [HPM.out, if_pos h20])
      have h20i : (20 : Int) < (t.tx.open_ : Int) := by omega
      go_wp2_with fail
      go_ret2
      rw [HR.out]
      exact ⟨rfl, HB5.out⟩
    · have HR := Lib.hid (show printM t = (t.tx.text, 0) by rw [HPM.out, if_neg h20])
      have h20i : ¬ (20 : Int) < (t.tx.open_ : Int) := by omega
      have HST := Lib.hid (wstring_any w3.heap.size t.tx.text (0 : Nat) ((t.tx.open_ : Nat) : Int) w5 HW5.out HNE.out)
      go_wp2_with fail
      refine HST.out.mono ?_
      rintro e w6 ⟨rfl, b6⟩
      have HB6 := Lib.hid (HB5.out.trans (b6.mono hb3s))
      clear b6
      go_wp2_with fail
      go_ret2
      rw [HR.out]
      exact ⟨rfl, HB6.out⟩
  · have hpm : printM t = ([], (t.chk 0).1) := by unfold printM; rw [if_pos hbad]
    rw [hpm]
    simp only
    generalize hcd : (t.chk 0).1 = cd at *
    have hce2 : ((cd : Int) == 0) = false := by rw [beq_eq_false_iff_ne]; omega
    have hce3 : ((cd : Int) != 0) = true := by simp; exact hbad
    go_enter Tryz.func10, Tryz.ntmps10
    go_wp2_with fail
    refine HCH.out.mono ?_
    rintro e w3 ⟨rfl, o3, _⟩
    have HB3 := Lib.hid (Only.below HB2.out o3 (by rw [HS2.out]; omega) (by omega))
    clear o3
    go_wp2_with fail
    try simp only [Exit.inBlock, Exit.then]
    go_ret2
    exact ⟨rfl, HB3.out⟩
end Go.Proofs.YtlmmfhbdebfgkaaGreatDoor.Ex
