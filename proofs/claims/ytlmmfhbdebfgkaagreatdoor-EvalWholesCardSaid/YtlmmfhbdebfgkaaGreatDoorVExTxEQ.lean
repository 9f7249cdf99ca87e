/-
  ExTxE, EvRnH.
-/
import Derived.Test.YtlmmfhbdebfgkaaGreatDoorVExTxDQ
import Derived.Test.YtlmmfhbdebfgkaaGreatDoorVEvRnG
import Derived.Test.YtlmmfhbdebfgkaaGreatDoorVEvRnDQ
set_option linter.unusedVariables false
set_option linter.unusedSimpArgs false
set_option maxRecDepth 100000
set_option maxHeartbeats 4000000
namespace Go.Proofs.YtlmmfhbdebfgkaaGreatDoor.Ex
open Go.RowKit
open Lx Va
theorem rtext_any (op num : Int) (tx : List UInt8) (A : F) (hA : RtxAll A) (hlen : A.len ≤ 281474976710656) (hf : formedB op num tx A.len = true) (hn : namedB op tx = true) (hnum : num ≤ 9223372036854775807) (hk : okF A) (hno : A.nodes ≤ 200) : RtxC ⟨op, num, tx, A⟩ := by
  have hc := formed_cnt hf
  obtain ⟨s1, s2⟩ := txF_len A hk
  have hcm := commas_len (txF A)
  rw [txF_length] at hcm
  have hl : (commas (txF A)).length ≤ 100000000 := by omega
  have ho : most (txF A) ≤ 100000 := by omega
  unfold cntB at hc
  by_cases h5 : op = 5
  · subst h5
    exact rtext_5 num tx A hA hlen hl ho
  rw [if_neg h5] at hc
  by_cases h7 : 1 ≤ op ∧ op ≤ 7
  · have h : op = 1 ∨ op = 2 ∨ op = 3 ∨ op = 4 ∨ op = 6 ∨ op = 7 := by omega
    rcases h with rfl | rfl | rfl | rfl | rfl | rfl
    · exact rtext_1 num tx A (by simp [formedB] at hf; omega) hnum
    · exact rtext_2 num tx A (by simp [formedB] at hf; omega)
    · exact rtext_3 num tx A (by simp [formedB] at hf; omega)
    · have h0 : nameB tx = true := by simpa [namedB] using hn
      have := nameB_len h0
      exact rtext_4 num tx A (by omega)
    · exact rtext_6 num tx A
    · have h0 : nameB tx = true := by simpa [namedB] using hn
      have := nameB_len h0
      exact rtext_7 num tx A (by omega)
  rw [if_neg h7] at hc
  by_cases h10 : 10 ≤ op ∧ op ≤ 12
  · rw [if_pos h10] at hc
    have h1 : A.len = 1 := by simpa using hc
    have h3 : op = 10 ∨ op = 11 ∨ op = 12 := by omega
    rcases h3 with rfl | rfl | rfl
    · obtain ⟨x, rfl⟩ := one_row h1
      have t1 : x.tx.text.length + 0 + 2 * 1 ≤ 310 * (F.cons x.op x.num x.text x.args .nil).nodes := s1
      have t2 : max x.tx.open_ 0 ≤ 2 * (F.cons x.op x.num x.text x.args .nil).nodes := s2
      exact rtext_10 num tx x hA.1 (by omega) (by omega)
    · obtain ⟨x, rfl⟩ := one_row h1
      have t1 : x.tx.text.length + 0 + 2 * 1 ≤ 310 * (F.cons x.op x.num x.text x.args .nil).nodes := s1
      have t2 : max x.tx.open_ 0 ≤ 2 * (F.cons x.op x.num x.text x.args .nil).nodes := s2
      exact rtext_11 num tx x hA.1 (by omega) (by omega)
    · exact rtext_12 num tx A hA hlen hl ho
  rw [if_neg h10] at hc
  by_cases h20 : 20 ≤ op ∧ op ≤ 26 ∨ 30 ≤ op ∧ op ≤ 33 ∨ op = 40 ∨ op = 41
  · rw [if_pos h20] at hc
    have h2 : A.len = 2 := by simpa using hc
    by_cases h25 : op = 25
    · subst h25
      exact rtext_25 num tx A hA hlen hl ho
    by_cases h26 : op = 26
    · subst h26
      exact rtext_26 num tx A hA hlen hl ho
    obtain ⟨x, y, rfl⟩ := two_row h2
    have t1 : x.tx.text.length + (y.tx.text.length + 0) + 2 * 2 ≤ 310 * (F.cons x.op x.num x.text x.args (.cons y.op y.num y.text y.args .nil)).nodes := s1
    have t2 : max x.tx.open_ (max y.tx.open_ 0) ≤ 2 * (F.cons x.op x.num x.text x.args (.cons y.op y.num y.text y.args .nil)).nodes := s2
    have hb : bound op ≤ 5 := by
      unfold bound
      repeat' split
      all_goals omega
    exact rtext_bin op num tx x y hA.1 hA.2.1 (bound op) rfl hb (by omega) h25 h26 (by omega) (by omega) (by omega) (by omega)
  · rw [if_neg h20] at hc
    cases hc
theorem rtext_all : ∀ l : F, l.fits → okF l → l.nodes ≤ 200 → RtxAll l
  | .nil, _, _, _ => trivial
  | .cons o n t a r, h, k, hn => by
    have e : (F.cons o n t a r).nodes = 1 + a.nodes + r.nodes := rfl
    exact ⟨rtext_any o n t a (rtext_all a h.2.2.1 k.2.2.2.1 (by omega)) h.2.1 k.1 k.2.1 k.2.2.1 k.2.2.2.1 (by omega), rtext_all r h.2.2.2 k.2.2.2.2 (by omega)⟩
theorem rprint_any (t : T) (hfit : t.row.fits) (hnums : t.row.nums) (p : Option Addr) (c : Nat) (w : World) (hfa : FAt w (fun _ => True) t.args p) :
    Calls Tryz.prog 32 #[.agg #[.int .i64 t.op, .int .i64 t.num, .string (S t.text), .slice p t.args.len c]] w fun e w' => e = .returned (.tuple #[.string (S (printM t).1), .int .i64 ((printM t).2 : Int)]) ∧ Below w.heap.size w w' := by
  have hb0 := (Below.refl w.heap.size w).alloc (Nat.le_refl _) (.cells #[.int .i64 t.op, .int .i64 t.num, .string (S t.text), .slice p t.args.len c] 24)
  have hbx := Bx.new w (.int .i64 t.op) (.int .i64 t.num) (.string (S t.text)) (.slice p t.args.len c)
  have HFA0 := Lib.hid (hfa.keep (Kept.of_below hb0))
  have HB0 := Lib.hid hb0
  have HBX := Lib.hid hbx
  have HCK := Lib.hid (rck_any t hfit 0 p c _ (by omega) HFA0.out)
  have HTX := Lib.hid (fun (h : (t.chk 0).1 = 0) => by
    obtain ⟨k, e⟩ := okF_of_chk t.row 0 hnums h
    have hcnt := chkF_count t.row 0 (by omega) h
    exact (⟨(rtext_all t.row hfit k (by omega)).1, by have := tx_len t hnums h; omega⟩ : RtxC t ∧ t.tx.open_ ≤ 400))
  have HP := Lib.hid (show printM t = if (t.chk 0).1 ≠ 0 then ([], (t.chk 0).1) else if 20 < t.tx.open_ then ([], 26) else (t.tx.text, 0) from rfl)
  obtain ⟨P, hP⟩ : ∃ P, P = printM t := ⟨_, rfl⟩
  rw [← hP] at HP ⊢
  have e00 : ((0 : Nat) : Int) = 0 := rfl
  rw [e00] at HCK
  clear hb0 hbx hfa hP e00
  generalize hbad : (t.chk 0).1 = bad at *
  generalize (t.chk 0).2 = cnt at *
  by_cases hz : bad = 0
  · obtain ⟨hT, ho⟩ := HTX.out hz
    subst hz
    have HT := Lib.hid (fun w1 (k : Below _ _ w1) => hT p c w1 (HFA0.out.keep (Kept.of_below k)))
    rw [if_neg (by simp)] at HP
    have hoi : (t.tx.open_ : Int) ≤ 400 := by omega
    clear HTX hT
    by_cases h20 : 20 < t.tx.open_
    · rw [if_pos h20] at HP
      rw [HP.out]
      have h20i : (20 : Int) < (t.tx.open_ : Int) := by omega
      clear h20
      go_enter Tryz.func32, Tryz.ntmps32
      go_wp2_with fail
      refine HCK.out.mono ?_
      rintro e w1 ⟨rfl, b1⟩
      have HB1 := Lib.hid (HB0.out.trans (b1.mono HB0.out.size))
      have hx1 := HBX.out.keep (Kept.of_below (ok := fun _ => True) b1) trivial
      have HT1 := Lib.hid (HT.out w1 b1)
      have q0 := hx1.c0
      have q1 := hx1.c1
      have q2 := hx1.c2
      have q3 := hx1.c3
      clear b1 hx1
      go_wp2_with fail
      refine HT1.out.mono ?_
      rintro e w2 ⟨rfl, b2⟩
      have HB2 := Lib.hid (HB1.out.trans (b2.mono HB1.out.size))
      clear b2
      go_wp2_with fail
      go_ret2
      exact ⟨rfl, HB2.out⟩
    · rw [if_neg h20] at HP
      rw [HP.out]
      have h20i : ¬ (20 : Int) < (t.tx.open_ : Int) := by omega
      clear h20
      go_enter Tryz.func32, Tryz.ntmps32
      go_wp2_with fail
      refine HCK.out.mono ?_
      rintro e w1 ⟨rfl, b1⟩
      have HB1 := Lib.hid (HB0.out.trans (b1.mono HB0.out.size))
      have hx1 := HBX.out.keep (Kept.of_below (ok := fun _ => True) b1) trivial
      have HT1 := Lib.hid (HT.out w1 b1)
      have q0 := hx1.c0
      have q1 := hx1.c1
      have q2 := hx1.c2
      have q3 := hx1.c3
      clear b1 hx1
      go_wp2_with fail
      refine HT1.out.mono ?_
      rintro e w2 ⟨rfl, b2⟩
      have HB2 := Lib.hid (HB1.out.trans (b2.mono HB1.out.size))
      clear b2
      go_wp2_with fail
      go_ret2
      exact ⟨rfl, HB2.out⟩
  · rw [if_pos hz] at HP
    rw [HP.out]
    have e1 : ((bad : Int) == 0) = false := by rw [beq_eq_false_iff_ne]; omega
    have e2 : ((bad : Int) != 0) = true := by simp; exact hz
    clear HTX
    go_enter Tryz.func32, Tryz.ntmps32
    go_wp2_with fail
    refine HCK.out.mono ?_
    rintro e w1 ⟨rfl, b1⟩
    have HB1 := Lib.hid (HB0.out.trans (b1.mono HB0.out.size))
    clear b1
    go_wp2_with fail
    go_ret2
    exact ⟨rfl, HB1.out⟩
end Go.Proofs.YtlmmfhbdebfgkaaGreatDoor.Ex
namespace Go.Proofs.YtlmmfhbdebfgkaaGreatDoor.Ev
open Go.RowKit
open Ex Lx Va Ty
def WA : F := .cons 6 0 [97] .nil .nil
def WB : F := .cons 6 0 [97] .nil (.cons 6 0 [98] .nil .nil)
def WX (o : Int) : T := ⟨o, 0, [], WB⟩
def WN : T := ⟨11, 0, [], WA⟩
def WV (a b : Int) : En := ⟨[⟨[97], 0, []⟩, ⟨[98], 0, []⟩], [intV a, intV b], [], []⟩
def wOps : List Int := [20, 21, 22, 23, 24, 32, 33, 30, 31]
theorem wx_print : ∀ o ∈ wOps, (printM (WX o)).2 = 0 := by
  intro o ho
  simp only [wOps, List.mem_cons, List.not_mem_nil, or_false] at ho
  rcases ho with rfl | rfl | rfl | rfl | rfl | rfl | rfl | rfl | rfl <;> kernel_rfl
theorem wn_print : (printM WN).2 = 0 := by kernel_rfl
theorem wx_fits (o : Int) : (WX o).row.fits ∧ (o ∈ wOps → (WX o).row.nums) := by
  constructor
  · simp [WX, WB, T.row, F.fits, F.len]
  · intro _
    simp [WX, WB, T.row, F.nums]
theorem wn_fits : WN.row.fits ∧ WN.row.nums := by
  constructor
  · simp [WN, WA, T.row, F.fits, F.len]
  · simp [WN, WA, T.row, F.nums]
theorem wv_a (a b : Int) : namedV (WV a b).attrs (WV a b).vals [97] = (intV a, 0) := by simp [WV, namedV, intV]
theorem wv_b (a b : Int) : namedV (WV a b).attrs (WV a b).vals [98] = (intV b, 0) := by simp [WV, namedV, intV]
theorem ev_leaf (v : En) (n : List UInt8) : evT v ⟨6, 0, n, .nil⟩ = namedV v.attrs v.vals n := by unfold evT nodeE; rw [if_pos rfl]
theorem ev_wb (a b : Int) : evL (WV a b) WB = [(intV a, 0), (intV b, 0)] := by
  show [evT (WV a b) ⟨6, 0, [97], .nil⟩, evT (WV a b) ⟨6, 0, [98], .nil⟩] = _
  rw [ev_leaf, ev_leaf, wv_a, wv_b]
theorem ev_wa (a b : Int) : evL (WV a b) WA = [(intV a, 0)] := by
  show [evT (WV a b) ⟨6, 0, [97], .nil⟩] = _
  rw [ev_leaf, wv_a]
theorem ev_wx (o a b : Int) (ho : o ∈ wOps) : evT (WV a b) (WX o) = opE o 0 [] [intV a, intV b] := by
  show nodeE (WV a b) o 0 [] (evL (WV a b) WB) = _
  rw [ev_wb]
  simp only [wOps, List.mem_cons, List.not_mem_nil, or_false] at ho
  rcases ho with rfl | rfl | rfl | rfl | rfl | rfl | rfl | rfl | rfl <;> simp [nodeE, seqE]
theorem ev_wn (a b : Int) : evT (WV a b) WN = numE (-a) := by
  show nodeE (WV a b) 11 0 [] (evL (WV a b) WA) = _
  rw [ev_wa]
  simp [nodeE, seqE, opE, allV, argV, intV]
theorem intV_ok (a : Int) (h : I64 a) : VOk (intV a) := by
  have h1 := h.lo; have h2 := h.hi
  constructor <;> simp [intV]
theorem rnode_wx (o a b : Int) (ho : o ∈ wOps) (ia : I64 a) (ib : I64 b) (g cap : Nat) (w : World) (hv : ValsAt w (some ⟨g, 0, none⟩) [intV a, intV b]) :
    Calls Tryz.prog 63 #[.int .i64 o, .slice (some ⟨g, 0, none⟩) 2 cap] w fun e w' => e = .returned (RV (evT (WV a b) (WX o)) none 0) ∧ Below w.heap.size w w' := by
  rw [ev_wx o a b ho]
  have hko : VOk (intV a) := intV_ok a ia
  have hkb : VOk (intV b) := intV_ok b ib
  have hord : ordV (intV a) (intV b) = -1 ∨ ordV (intV a) (intV b) = 0 ∨ ordV (intV a) (intV b) = 1 := by
    rw [ordV_eq, if_pos (show (intV a).kind = (intV b).kind from rfl)]
    by_cases h : (intV a).num = (intV b).num
    · rw [if_pos h, if_pos (show (intV a).text = (intV b).text from rfl)]
      exact .inr (.inl rfl)
    · rw [if_neg h]
      unfold ordI
      split
      · exact .inl rfl
      · split
        · exact .inr (.inr rfl)
        · exact .inr (.inl rfl)
  have hsame : sameV (intV a) (intV b) = (ordV (intV a) (intV b) == 0) := by
    rw [Bool.eq_iff_iff, sameV_iff, beq_iff_eq, ordV_zero]
  simp only [wOps, List.mem_cons, List.not_mem_nil, or_false] at ho
  rcases ho with rfl | rfl | rfl | rfl | rfl | rfl | rfl | rfl | rfl
  · exact rnode_20 (intV a) (intV b) rfl rfl ia ib g 0 cap w hv
  · exact rnode_21 (intV a) (intV b) rfl rfl ia ib g 0 cap w hv
  · exact rnode_22 (intV a) (intV b) rfl rfl ia ib g 0 cap w hv
  · exact rnode_23 (intV a) (intV b) rfl rfl ia ib g 0 cap w hv
  · exact rnode_24 (intV a) (intV b) rfl rfl ia ib g 0 cap w hv
  · exact rnode_32 (intV a) (intV b) rfl rfl hko hkb hord g 0 cap w hv
  · exact rnode_33 (intV a) (intV b) rfl rfl hko hkb hord g 0 cap w hv
  · have h := rnode_30 (intV a) (intV b) rfl hko hkb g 0 cap w hv
    rw [hsame] at h
    exact h
  · have h := rnode_31 (intV a) (intV b) rfl hko hkb g 0 cap w hv
    rw [hsame] at h
    exact h
theorem vs_mono {ok ok' : Nat → Prop} {w : World} {a : Option Addr} {vs : List V} (h : VsAt ok w a vs) (k : ∀ g, ok g → ok' g) : VsAt ok' w a vs := fun i hi => by
  obtain ⟨b, off, e, ⟨a, c, h0, h1, h2, h3, h4⟩, hl⟩ := h i hi
  exact ⟨b, off, e, ⟨a, c, h0, h1, h2, h3, h4.mono k⟩, hl⟩
theorem en_later {v : En} {r : Rows} {w w' : World} (hen : EnAt w r.pa r.pv r.pn r.pf v) (b : Below w.heap.size w w') : EnAt w' r.pa r.pv r.pn r.pf v :=
  ⟨hen.attrs.later b, vs_mono (hen.vals.below b) (fun g hg => Nat.lt_of_lt_of_le hg b.size), hen.names.later b, vs_mono (hen.fields.below b) (fun g hg => Nat.lt_of_lt_of_le hg b.size)⟩
theorem rof_leaf (v : En) (r : Rows) (w0 : World) (hen : EnAt w0 r.pa r.pv r.pn r.pf v) (hf : EnFit v) (n : List UInt8) : RofC v r w0 ⟨6, 0, n, .nil⟩ := by
  intro p c w b _
  refine (rof_6 v r w (en_later hen (b.mono (Nat.le_refl _))) hf 0 n p 0 c).mono ?_
  rintro e w' ⟨⟨a, c3, h, _⟩, h2⟩
  exact ⟨⟨a, c3, by rw [ev_leaf]; exact h⟩, h2⟩
theorem rof_wx (o a b : Int) (ho : o ∈ wOps) (ia : I64 a) (ib : I64 b) (r : Rows) (w0 : World) (hen : EnAt w0 r.pa r.pv r.pn r.pf (WV a b)) (hf : EnFit (WV a b)) (p : Option Addr) (c : Nat) (w : World) (hw : Below w0.heap.size w0 w) (hfa : FAt w0 (fun _ => True) WB p) :
    Calls Tryz.prog 33 #[.agg #[.int .i64 o, .int .i64 0, .string (S []), .slice p 2 c], .agg (envC (WV a b) r)] w fun e w' => e = .returned (RV (evT (WV a b) (WX o)) none 0) ∧ Below w.heap.size w w' := by
  have hoo : 10 ≤ o ∧ o < 40 := by
    simp only [wOps, List.mem_cons, List.not_mem_nil, or_false] at ho
    omega
  refine rof_num (WV a b) r w0 o 0 [] WB (by decide) (by intro e; cases e) ⟨rof_leaf _ r w0 hen hf [97], rof_leaf _ r w0 hen hf [98], trivial⟩ ?_ hoo _ ?_ p c w hw hfa
  · rw [ev_wb]; intro x hx
    simp only [List.mem_cons, List.not_mem_nil, or_false] at hx
    rcases hx with rfl | rfl <;> exact ⟨rfl, rfl⟩
  · intro g cap W hv
    rw [ev_wb] at hv
    exact rnode_wx o a b ho ia ib g cap W hv
theorem rof_wn (a b : Int) (ia : I64 a) (r : Rows) (w0 : World) (hen : EnAt w0 r.pa r.pv r.pn r.pf (WV a b)) (hf : EnFit (WV a b)) (p : Option Addr) (c : Nat) (w : World) (hw : Below w0.heap.size w0 w) (hfa : FAt w0 (fun _ => True) WA p) :
    Calls Tryz.prog 33 #[.agg #[.int .i64 11, .int .i64 0, .string (S []), .slice p 1 c], .agg (envC (WV a b) r)] w fun e w' => e = .returned (RV (evT (WV a b) WN) none 0) ∧ Below w.heap.size w w' := by
  refine rof_num (WV a b) r w0 11 0 [] WA (by decide) (by intro e; cases e) ⟨rof_leaf _ r w0 hen hf [97], trivial⟩ ?_ (by omega) _ ?_ p c w hw hfa
  · rw [ev_wa]; intro x hx
    simp only [List.mem_cons, List.not_mem_nil, or_false] at hx
    rcases hx with rfl; exact ⟨rfl, rfl⟩
  · intro g cap W hv
    rw [ev_wa] at hv
    rw [ev_wn]
    exact rnode_11 (intV a) rfl ia g 0 cap W hv
theorem rOf10_any (v : En) (r : Rows) (t : T) (hfit : t.row.fits) (hnums : t.row.nums) (hpr : (printM t).2 = 0) (R : V × Nat) (p : Option Addr) (c : Nat) (w : World) (hfa : FAt w (fun _ => True) t.args p)
    (hof : ∀ W, Below w.heap.size w W → Calls Tryz.prog 33 #[.agg #[.int .i64 t.op, .int .i64 t.num, .string (S t.text), .slice p t.args.len c], .agg (envC v r)] W fun e w' => e = .returned (RV R none 0) ∧ Below W.heap.size W w') :
    Calls Tryz.prog 18 #[.agg #[.int .i64 t.op, .int .i64 t.num, .string (S t.text), .slice p t.args.len c], .agg (envC v r)] w fun e w' => e = .returned (RV R none 0) ∧ Below w.heap.size w w' := by
  obtain ⟨⟨xk, xn, xt, xl⟩, er⟩ := R
  unfold RV valC at hof
  unfold RV valC
  simp only at hof ⊢
  generalize xl.length = lx at hof ⊢
  have HP := Lib.hid (fun W (b : Below w.heap.size w W) => by have h := rprint_any t hfit hnums p c W (hfa.keep (Kept.of_below (ok := fun _ => True) b)); rw [hpr] at h; exact h)
  unfold envC at hof ⊢
  obtain ⟨op, num, tx, A⟩ := t
  simp only at hof HP ⊢
  obtain ⟨W3, hW3⟩ : ∃ W3, W3 = ((w.alloc (.cells #[.int .i64 op, .int .i64 num, .string (S tx), .slice p A.len c] 24)).alloc (.cells #[.slice r.pa v.attrs.length r.ca, .slice r.pv v.vals.length r.cv, .slice r.pn v.names.length r.cn, .slice r.pf v.fields.length r.cf] 60)).alloc (.cells #[.int .i64 0, .int .i64 0, .string ⟨#[]⟩, .slice none 0 0] 52) := ⟨_, rfl⟩
  have hb3 : Below w.heap.size w W3 := by rw [hW3]; exact (((Below.refl w.heap.size w).alloc (Nat.le_refl _) _).alloc (by simp) _).alloc (by simp; omega) _
  have hs3 : W3.heap.size = w.heap.size + 1 + 1 + 1 := by rw [hW3]; simp
  have e0 : W3.heap[w.heap.size]? = some (.cells #[.int .i64 op, .int .i64 num, .string (S tx), .slice p A.len c] 24 (0, 0)) := by rw [hW3]; exact (((Below.refl _ _).alloc (Nat.le_refl _) _).block _ (by simp; omega)).trans ((((Below.refl _ _).alloc (Nat.le_refl _) _).block _ (by simp)).trans (heap_alloc_new w _))
  have e1 : W3.heap[w.heap.size + 1]? = some (.cells #[.slice r.pa v.attrs.length r.ca, .slice r.pv v.vals.length r.cv, .slice r.pn v.names.length r.cn, .slice r.pf v.fields.length r.cf] 60 (0, 0)) := by rw [hW3]; exact (((Below.refl _ _).alloc (Nat.le_refl _) _).block _ (by simp)).trans (by have := heap_alloc_new (w.alloc (.cells #[.int .i64 op, .int .i64 num, .string (S tx), .slice p A.len c] 24)) (.cells #[.slice r.pa v.attrs.length r.ca, .slice r.pv v.vals.length r.cv, .slice r.pn v.names.length r.cn, .slice r.pf v.fields.length r.cf] 60); rwa [show (w.alloc (.cells #[.int .i64 op, .int .i64 num, .string (S tx), .slice p A.len c] 24)).heap.size = w.heap.size + 1 by simp] at this)
  have hvb : VB W3 (w.heap.size + 1 + 1) (.int .i64 0) (.int .i64 0) (.string ⟨#[]⟩) (.slice none 0 0) := by rw [hW3]; exact VB.new _ _ _ _ _ _ (by simp)
  have HW3 := Lib.hid hW3
  have HB3 := Lib.hid hb3
  have HE0 := Lib.hid e0
  have HE1 := Lib.hid e1
  have HVB := Lib.hid hvb
  have HOF := Lib.hid hof
  have HS3 := Lib.hid hs3
  have q0 : W3.cell? ⟨w.heap.size, 0, none⟩ = some (.int .i64 op) := cell_of_row W3 w.heap.size 0 _ _ (0, 0) e0
  have q1 : W3.cell? ⟨w.heap.size, 1, none⟩ = some (.int .i64 num) := cell_of_row W3 w.heap.size 1 _ _ (0, 0) e0
  have q2 : W3.cell? ⟨w.heap.size, 2, none⟩ = some (.string (S tx)) := cell_of_row W3 w.heap.size 2 _ _ (0, 0) e0
  have q3 : W3.cell? ⟨w.heap.size, 3, none⟩ = some (.slice p A.len c) := cell_of_row W3 w.heap.size 3 _ _ (0, 0) e0
  rw [hW3] at q0 q1 q2 q3
  clear hW3 hb3 e0 e1 hvb hof hs3 hfa hfit hnums hpr
  go_enter Tryz.func18, Tryz.ntmps18
  go_wp2_with fail
  rw [← HW3.out]
  clear q0 q1 q2 q3
  refine (HP.out W3 HB3.out).mono ?_
  rintro e w4 ⟨rfl, b4⟩
  have hx0 := (b4.block w.heap.size (by have := HS3.out; omega)).trans HE0.out
  have hx1 := (b4.block (w.heap.size + 1) (by have := HS3.out; omega)).trans HE1.out
  have q0 : w4.cell? ⟨w.heap.size, 0, none⟩ = some (.int .i64 op) := cell_of_row w4 w.heap.size 0 _ _ (0, 0) hx0
  have q1 : w4.cell? ⟨w.heap.size, 1, none⟩ = some (.int .i64 num) := cell_of_row w4 w.heap.size 1 _ _ (0, 0) hx0
  have q2 : w4.cell? ⟨w.heap.size, 2, none⟩ = some (.string (S tx)) := cell_of_row w4 w.heap.size 2 _ _ (0, 0) hx0
  have q3 : w4.cell? ⟨w.heap.size, 3, none⟩ = some (.slice p A.len c) := cell_of_row w4 w.heap.size 3 _ _ (0, 0) hx0
  have z0 : w4.cell? ⟨w.heap.size + 1, 0, none⟩ = some (.slice r.pa v.attrs.length r.ca) := cell_of_row w4 (w.heap.size + 1) 0 _ _ (0, 0) hx1
  have z1 : w4.cell? ⟨w.heap.size + 1, 1, none⟩ = some (.slice r.pv v.vals.length r.cv) := cell_of_row w4 (w.heap.size + 1) 1 _ _ (0, 0) hx1
  have z2 : w4.cell? ⟨w.heap.size + 1, 2, none⟩ = some (.slice r.pn v.names.length r.cn) := cell_of_row w4 (w.heap.size + 1) 2 _ _ (0, 0) hx1
  have z3 : w4.cell? ⟨w.heap.size + 1, 3, none⟩ = some (.slice r.pf v.fields.length r.cf) := cell_of_row w4 (w.heap.size + 1) 3 _ _ (0, 0) hx1
  have hb4 := HB3.out.trans (b4.mono HB3.out.size)
  have HO4 := Lib.hid (HOF.out w4 hb4)
  have HB4 := Lib.hid hb4
  have HV4 := Lib.hid (HVB.out.later b4)
  clear b4 hx0 hx1 hb4
  go_wp2_with fail
  refine HO4.out.mono ?_
  rintro e w5 ⟨rfl, b5⟩
  have hnb := HV4.out.later b5
  have fz := hnb.fz
  have k0 := hnb.c0
  have k1 := hnb.c1
  have k2 := hnb.c2
  have k3 := hnb.c3
  have HPT := Lib.hid (hnb.put (.int .i64 xk) (.int .i64 xn) (.string (S xt)) (.slice none lx 0))
  have HBF := Lib.hid (below4 (HB4.out.trans (b5.mono HB4.out.size)) (w.heap.size + 1 + 1) (by omega) (.int .i64 xk) (.int .i64 xn) (.string (S xt)) (.slice none lx 0))
  clear b5 hnb q0 q1 q2 q3 z0 z1 z2 z3
  go_wp2_with fail
  refine bodyPost_ret (res_val2 rfl _ _ (w.heap.size + 1 + 1) _ _ _ _ (.int .i64 (er : Int)) rfl HPT.out rfl) rfl ?_
  exact ⟨rfl, HBF.out⟩
end Go.Proofs.YtlmmfhbdebfgkaaGreatDoor.Ev
