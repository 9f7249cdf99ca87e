/-
  EvWhW.
-/
import Derived.Test.YtlmmfhbdebfgkaaGreatDoorVExTxEQ
import Derived.Test.YtlmmfhbdebfgkaaGreatDoorVLxRScanWQ
import Derived.Test.YtlmmfhbdebfgkaaGreatDoorVEvJuncHQ
set_option linter.unusedVariables false
set_option linter.unusedSimpArgs false
set_option maxRecDepth 100000
set_option maxHeartbeats 16000000
namespace Go.Proofs.YtlmmfhbdebfgkaaGreatDoor.Ev
open Go.RowKit
open Ex Lx Va Ty
theorem mod_u (op : Int) (N : Nat) (h0 : 0 < N) (h : N < 1000) : ∃ n : Nat, n < N ∧ RowKit.wrap64 ((IntKind.u64.wrap op).tmod (N : Int)) = (n : Int) := by
  have h0 : 0 ≤ IntKind.u64.wrap op := by simp [IntKind.wrap, IntKind.signed, IntKind.bits]; omega
  obtain ⟨n, hn⟩ : ∃ n : Nat, IntKind.u64.wrap op = (n : Int) := ⟨(IntKind.u64.wrap op).toNat, by omega⟩
  have e : (IntKind.u64.wrap op).tmod (N : Int) = ((n % N : Nat) : Int) := by rw [hn]; rfl
  have hlt : n % N < N := Nat.mod_lt _ (by omega)
  refine ⟨n % N, hlt, ?_⟩
  rw [e]
  unfold RowKit.wrap64
  omega
theorem consB {w w' : World} (h : ConsAt w) (b : Below w.heap.size w w') : ConsAt w' := h.keep (Kept.of_below (ok := fun _ => True) b) trivial
theorem wh_list (o a b : Int) (ho : o ∈ wOps) : (evT (WV a b) (WX o)).1.list = [] := by
  rw [ev_wx o a b ho]
  simp only [wOps, List.mem_cons, List.not_mem_nil, or_false] at ho
  have hn : ∀ n, (numE n).1.list = [] := fun n => by unfold numE; split <;> rfl
  have ha : ∀ n, (arithE n a b).1.list = [] := fun n => by unfold arithE; repeat' split
                                                           all_goals first | exact hn _ | rfl
  rcases ho with rfl | rfl | rfl | rfl | rfl | rfl | rfl | rfl | rfl
  all_goals simp only [opE, allV, argV, intV, List.all_cons, List.all_nil, List.getD_cons_zero, List.getD_cons_succ]
  all_goals first | exact ha _ | (simp [boolV, ha])
theorem wn_list (a b : Int) : (evT (WV a b) WN).1.list = [] := by
  rw [ev_wn]; unfold numE; split <;> rfl
theorem wv_fit (a b : Int) (ia : I64 a) (ib : I64 b) : EnFit (WV a b) := by
  have g : ∀ n, I64 n → Good (intV n) := fun n hn => good_int (by have := hn.lo; have := hn.hi; unfold B64; omega)
  refine ⟨by simp [WV], by simp [WV], by simp [WV], by simp [WV], ?_, fun x hx => by cases hx⟩
  intro x hx
  simp only [WV, List.mem_cons, List.not_mem_nil, or_false] at hx
  rcases hx with rfl | rfl
  · exact g a ia
  · exact g b ib
theorem up {w : World} {o : Obj} {H : Nat} {x} (h : w.heap[H]? = some x) : (w.alloc o).heap[H]? = some x :=
  (((Below.refl w.heap.size w).alloc (Nat.le_refl _) o).block H (Array.getElem?_eq_some_iff.1 h).1).trans h
theorem nil_nums (w : World) (a : Option Addr) : NumsAt w a [] := fun i hi => absurd hi (Nat.not_lt_zero _)
theorem tbl_get (n : Nat) (hn : n < 9) : ∃ o, o ∈ wOps ∧ #[Value.int .i64 20, .int .i64 21, .int .i64 22, .int .i64 23, .int .i64 24, .int .i64 32, .int .i64 33, .int .i64 30, .int .i64 31][n]? = some (.int .i64 o) := by
  have : n = 0 ∨ n = 1 ∨ n = 2 ∨ n = 3 ∨ n = 4 ∨ n = 5 ∨ n = 6 ∨ n = 7 ∨ n = 8 := by omega
  rcases this with rfl | rfl | rfl | rfl | rfl | rfl | rfl | rfl | rfl
  all_goals exact ⟨_, by simp [wOps]; try omega, rfl⟩
structure WhAt (W : World) (H : Nat) (o a b : Int) : Prop where
  row : W.heap[H + 1]? = some (.cells #[.int .i64 6, .int .i64 0, .string ⟨#[97]⟩, .slice none 0 0, .int .i64 6, .int .i64 0, .string ⟨#[98]⟩, .slice none 0 0] 24 (0, 0))
  attrs : W.heap[H + 1 + 1 + 1]? = some (.cells #[.string ⟨#[97]⟩, .int .i64 0, .string ⟨#[]⟩, .string ⟨#[98]⟩, .int .i64 0, .string ⟨#[]⟩] 49 (0, 0))
  vals : W.heap[H + 1 + 1 + 1 + 1]? = some (.cells #[.int .i64 1, .int .i64 a, .string ⟨#[]⟩, .slice none 0 0, .int .i64 1, .int .i64 b, .string ⟨#[]⟩, .slice none 0 0] 52 (0, 0))
  tree : W.heap[H + 1 + 1]? = some (.cells #[.int .i64 o, .int .i64 0, .string ⟨#[]⟩, .slice (some ⟨H + 1, 0, none⟩) 2 2] 24 (0, 0))
  env : W.heap[H + 1 + 1 + 1 + 1 + 1]? = some (.cells #[.slice (some ⟨H + 1 + 1 + 1, 0, none⟩) 2 2, .slice (some ⟨H + 1 + 1 + 1 + 1, 0, none⟩) 2 2, .slice none 0 0, .slice none 0 0] 55 (0, 0))
theorem WhAt.later {W W' : World} {H : Nat} {o a b : Int} (h : WhAt W H o a b) (k : Below W.heap.size W W') : WhAt W' H o a b :=
  ⟨(k.block _ (Array.getElem?_eq_some_iff.1 h.row).1).trans h.row, (k.block _ (Array.getElem?_eq_some_iff.1 h.attrs).1).trans h.attrs, (k.block _ (Array.getElem?_eq_some_iff.1 h.vals).1).trans h.vals, (k.block _ (Array.getElem?_eq_some_iff.1 h.tree).1).trans h.tree, (k.block _ (Array.getElem?_eq_some_iff.1 h.env).1).trans h.env⟩
def whR (H : Nat) : Rows := ⟨some ⟨H + 1 + 1 + 1, 0, none⟩, some ⟨H + 1 + 1 + 1 + 1, 0, none⟩, none, none, 2, 2, 0, 0⟩
theorem WhAt.en {W : World} {H : Nat} {o a b : Int} (h : WhAt W H o a b) : EnAt W (whR H).pa (whR H).pv (whR H).pn (whR H).pf (WV a b) := by
  have la := (Array.getElem?_eq_some_iff.1 h.attrs).1
  have lv := (Array.getElem?_eq_some_iff.1 h.vals).1
  refine ⟨fun i hi => ?_, fun i hi => ?_, fun i hi => absurd hi (Nat.not_lt_zero _), fun i hi => absurd hi (Nat.not_lt_zero _)⟩
  · have hi2 : i = 0 ∨ i = 1 := by have : i < 2 := hi; omega
    rcases hi2 with rfl | rfl
    · exact ⟨_, 0, rfl, la, cell_of_row W _ 0 _ _ (0, 0) h.attrs, cell_of_row W _ 1 _ _ (0, 0) h.attrs, cell_of_row W _ 2 _ _ (0, 0) h.attrs⟩
    · exact ⟨_, 0, rfl, la, cell_of_row W _ 3 _ _ (0, 0) h.attrs, cell_of_row W _ 4 _ _ (0, 0) h.attrs, cell_of_row W _ 5 _ _ (0, 0) h.attrs⟩
  · have hi2 : i = 0 ∨ i = 1 := by have : i < 2 := hi; omega
    rcases hi2 with rfl | rfl
    · exact ⟨_, 0, rfl, ⟨none, 0, cell_of_row W _ 0 _ _ (0, 0) h.vals, cell_of_row W _ 1 _ _ (0, 0) h.vals, cell_of_row W _ 2 _ _ (0, 0) h.vals, cell_of_row W _ 3 _ _ (0, 0) h.vals, fun j hj => absurd hj (Nat.not_lt_zero _), Nat.le_refl _, fun g off e => by cases e⟩, lv⟩
    · exact ⟨_, 0, rfl, ⟨none, 0, cell_of_row W _ 4 _ _ (0, 0) h.vals, cell_of_row W _ 5 _ _ (0, 0) h.vals, cell_of_row W _ 6 _ _ (0, 0) h.vals, cell_of_row W _ 7 _ _ (0, 0) h.vals, fun j hj => absurd hj (Nat.not_lt_zero _), Nat.le_refl _, fun g off e => by cases e⟩, lv⟩
theorem WhAt.fb {W : World} {H : Nat} {o a b : Int} (h : WhAt W H o a b) : FAt W (fun _ => True) WB (some ⟨H + 1, 0, none⟩) := by
  have lr := (Array.getElem?_eq_some_iff.1 h.row).1
  exact ⟨H + 1, 0, none, 0, rfl, trivial, lr, cell_of_row W _ 0 _ _ (0, 0) h.row, cell_of_row W _ 1 _ _ (0, 0) h.row, cell_of_row W _ 2 _ _ (0, 0) h.row, cell_of_row W _ 3 _ _ (0, 0) h.row, trivial,
    H + 1, 4, none, 0, rfl, trivial, lr, cell_of_row W _ 4 _ _ (0, 0) h.row, cell_of_row W _ 5 _ _ (0, 0) h.row, cell_of_row W _ 6 _ _ (0, 0) h.row, cell_of_row W _ 7 _ _ (0, 0) h.row, trivial, trivial⟩
theorem WhAt.fa {W : World} {H : Nat} {o a b : Int} (h : WhAt W H o a b) : FAt W (fun _ => True) WA (some ⟨H + 1, 0, none⟩) := by
  have lr := (Array.getElem?_eq_some_iff.1 h.row).1
  exact ⟨H + 1, 0, none, 0, rfl, trivial, lr, cell_of_row W _ 0 _ _ (0, 0) h.row, cell_of_row W _ 1 _ _ (0, 0) h.row, cell_of_row W _ 2 _ _ (0, 0) h.row, cell_of_row W _ 3 _ _ (0, 0) h.row, trivial, trivial⟩
theorem whole_walk (a b op : Int) (w : World) (ia : I64 a) (ib : I64 b) (_ : (Lit.int .i64 op).wf = true) (htab : Va.Tab w) (hC : ConsAt w) :
    Calls Tryz.prog 8 #[.int .i64 a, .int .i64 b, .int .i64 op] w fun e w' => e = .returned (.bool true) ∧ Below w.heap.size w w' := by
  obtain ⟨n, hn, hnw⟩ := mod_u op 9 (by omega) (by omega)
  have hnw : RowKit.wrap64 ((IntKind.u64.wrap op).tmod 9) = (n : Int) := hnw
  obtain ⟨o, ho, htb⟩ := tbl_get n hn
  have hni : (n : Int) < 9 := by omega
  obtain ⟨X, hX⟩ : ∃ X, evT (WV a b) (WX o) = X := ⟨_, rfl⟩
  obtain ⟨Y, hY⟩ : ∃ Y, evT (WV a b) WN = Y := ⟨_, rfl⟩
  have hxl := wh_list o a b ho
  have hyl := wn_list a b
  have hEX : evM (WV a b) (WX o) = X := by unfold evM; rw [if_pos (wx_print o ho), hX]
  have hEY : evM (WV a b) WN = Y := by unfold evM; rw [if_pos wn_print, hY]
  have hgx := evM_good (WV a b) (wv_fit a b ia ib) (WX o) ((wx_fits o).2 ho)
  have hgy := evM_good (WV a b) (wv_fit a b ia ib) WN wn_fits.2
  rw [hX] at hxl
  rw [hY] at hyl
  rw [hEX] at hgx
  rw [hEY] at hgy
  obtain ⟨⟨xk, xn, xt, xl⟩, xe⟩ := X
  obtain ⟨⟨yk, yn, yt, yl⟩, ye⟩ := Y
  simp only at hxl hyl
  subst hxl hyl
  have okx : VOk ⟨xk, xn, xt, []⟩ := ⟨by have := hgx.text; simp only at this ⊢; omega, by simp⟩
  have oky : VOk ⟨yk, yn, yt, []⟩ := ⟨by have := hgy.text; simp only at this ⊢; omega, by simp⟩
  have SX := Lib.hid (fun (W : World) (p' : Option Addr) (c' : Nat) => show Calls Tryz.prog 19 #[.agg #[.int .i64 xk, .int .i64 xn, .string (S xt), .slice p' 0 c'], .agg #[.int .i64 xk, .int .i64 xn, .string (S xt), .slice none 0 0]] W fun e w' => e = .returned (.bool true) ∧ Below W.heap.size W w' from
    (refSame_any ⟨xk, xn, xt, []⟩ ⟨xk, xn, xt, []⟩ okx okx p' none c' 0 W (nil_nums _ _) (nil_nums _ _)).mono (fun e w' ⟨he, k'⟩ => ⟨by rw [(sameV_iff _ _).2 rfl] at he; exact he, k'⟩))
  have SY := Lib.hid (fun (W : World) (p' : Option Addr) (c' : Nat) => show Calls Tryz.prog 19 #[.agg #[.int .i64 yk, .int .i64 yn, .string (S yt), .slice p' 0 c'], .agg #[.int .i64 yk, .int .i64 yn, .string (S yt), .slice none 0 0]] W fun e w' => e = .returned (.bool true) ∧ Below W.heap.size W w' from
    (refSame_any ⟨yk, yn, yt, []⟩ ⟨yk, yn, yt, []⟩ oky oky p' none c' 0 W (nil_nums _ _) (nil_nums _ _)).mono (fun e w' ⟨he, k'⟩ => ⟨by rw [(sameV_iff _ _).2 rfl] at he; exact he, k'⟩))
  have AW := Lib.hid (fun W (k : Below w.heap.size w W) => awake_any W (htab.below k) (consB hC k))
  have OX := Lib.hid (fun (W : World) (k : Below w.heap.size w W) (H : Nat) (hw : WhAt W H o a b) => show Calls Tryz.prog 17 #[.agg #[.int .i64 o, .int .i64 0, .string ⟨#[]⟩, .slice (some ⟨H + 1, 0, none⟩) 2 2], .agg #[.slice (some ⟨H + 1 + 1 + 1, 0, none⟩) 2 2, .slice (some ⟨H + 1 + 1 + 1 + 1, 0, none⟩) 2 2, .slice none 0 0, .slice none 0 0]] W fun e w' => (∃ p' c', e = .returned (.tuple #[.agg #[.int .i64 xk, .int .i64 xn, .string (S xt), .slice p' 0 c'], .int .i64 (xe : Int)])) ∧ Below W.heap.size W w' from
    (evOf_any (WV a b) (whR H) (wv_fit a b ia ib) (WX o) (wx_fits o).1 ((wx_fits o).2 ho) (some ⟨H + 1, 0, none⟩) 2 W hw.en hw.fb (htab.below k) (consB hC k)).mono (fun e w' ⟨⟨p', c', he, _⟩, k'⟩ => ⟨⟨p', c', by rw [hEX] at he; exact he⟩, k'⟩))
  have RX := Lib.hid (fun (W : World) (k : Below w.heap.size w W) (H : Nat) (hw : WhAt W H o a b) => show Calls Tryz.prog 18 #[.agg #[.int .i64 o, .int .i64 0, .string ⟨#[]⟩, .slice (some ⟨H + 1, 0, none⟩) 2 2], .agg #[.slice (some ⟨H + 1 + 1 + 1, 0, none⟩) 2 2, .slice (some ⟨H + 1 + 1 + 1 + 1, 0, none⟩) 2 2, .slice none 0 0, .slice none 0 0]] W fun e w' => e = .returned (.tuple #[.agg #[.int .i64 xk, .int .i64 xn, .string (S xt), .slice none 0 0], .int .i64 (xe : Int)]) ∧ Below W.heap.size W w' from
    (rOf10_any (WV a b) (whR H) (WX o) (wx_fits o).1 ((wx_fits o).2 ho) (wx_print o ho) _ (some ⟨H + 1, 0, none⟩) 2 W hw.fb (fun W' k' => rof_wx o a b ho ia ib (whR H) W hw.en (wv_fit a b ia ib) (some ⟨H + 1, 0, none⟩) 2 W' k' hw.fb)).mono (fun e w' ⟨he, k'⟩ => ⟨by rw [hX] at he; exact he, k'⟩))
  have OY := Lib.hid (fun (W : World) (k : Below w.heap.size w W) (H : Nat) (hw : WhAt W H o a b) => show Calls Tryz.prog 17 #[.agg #[.int .i64 11, .int .i64 0, .string ⟨#[]⟩, .slice (some ⟨H + 1, 0, none⟩) 1 2], .agg #[.slice (some ⟨H + 1 + 1 + 1, 0, none⟩) 2 2, .slice (some ⟨H + 1 + 1 + 1 + 1, 0, none⟩) 2 2, .slice none 0 0, .slice none 0 0]] W fun e w' => (∃ p' c', e = .returned (.tuple #[.agg #[.int .i64 yk, .int .i64 yn, .string (S yt), .slice p' 0 c'], .int .i64 (ye : Int)])) ∧ Below W.heap.size W w' from
    (evOf_any (WV a b) (whR H) (wv_fit a b ia ib) WN wn_fits.1 wn_fits.2 (some ⟨H + 1, 0, none⟩) 2 W hw.en hw.fa (htab.below k) (consB hC k)).mono (fun e w' ⟨⟨p', c', he, _⟩, k'⟩ => ⟨⟨p', c', by rw [hEY] at he; exact he⟩, k'⟩))
  have RY := Lib.hid (fun (W : World) (k : Below w.heap.size w W) (H : Nat) (hw : WhAt W H o a b) => show Calls Tryz.prog 18 #[.agg #[.int .i64 11, .int .i64 0, .string ⟨#[]⟩, .slice (some ⟨H + 1, 0, none⟩) 1 2], .agg #[.slice (some ⟨H + 1 + 1 + 1, 0, none⟩) 2 2, .slice (some ⟨H + 1 + 1 + 1 + 1, 0, none⟩) 2 2, .slice none 0 0, .slice none 0 0]] W fun e w' => e = .returned (.tuple #[.agg #[.int .i64 yk, .int .i64 yn, .string (S yt), .slice none 0 0], .int .i64 (ye : Int)]) ∧ Below W.heap.size W w' from
    (rOf10_any (WV a b) (whR H) WN wn_fits.1 wn_fits.2 wn_print _ (some ⟨H + 1, 0, none⟩) 2 W hw.fa (fun W' k' => rof_wn a b ia (whR H) W hw.en (wv_fit a b ia ib) (some ⟨H + 1, 0, none⟩) 2 W' k' hw.fa)).mono (fun e w' ⟨he, k'⟩ => ⟨by rw [hY] at he; exact he, k'⟩))
  have HTB := Lib.hid htb
  clear hX hY hEX hEY hgx hgy okx oky ho htb hn hC htab ia ib
  have HR := Lib.hid (Below.refl w.heap.size w)
  go_enter Tryz.func8, Tryz.ntmps8
  go_wp2_with fail
  refine (AW.out w HR.out).mono ?_
  rintro e w1 ⟨rfl, b1⟩
  have ct1 : (w1.alloc (.cells #[.int .i64 20, .int .i64 21, .int .i64 22, .int .i64 23, .int .i64 24, .int .i64 32, .int .i64 33, .int .i64 30, .int .i64 31] 3)).cell? ⟨w1.heap.size, n, none⟩ = some (.int .i64 o) := (cell_of_row (w1.alloc (.cells #[.int .i64 20, .int .i64 21, .int .i64 22, .int .i64 23, .int .i64 24, .int .i64 32, .int .i64 33, .int .i64 30, .int .i64 31] 3)) w1.heap.size n _ _ (0, 0) (heap_alloc_new w1 _)).trans HTB.out
  have ct2 : [Value.int IntKind.i64 20, Value.int IntKind.i64 21, Value.int IntKind.i64 22, Value.int IntKind.i64 23, Value.int IntKind.i64 24, Value.int IntKind.i64 32, Value.int IntKind.i64 33, Value.int IntKind.i64 30, Value.int IntKind.i64 31][n]? = some (.int .i64 o) := by have := HTB.out; simpa using this
  have ct3 := HTB.out
  obtain ⟨W7, hW7⟩ : ∃ W7, W7 = (((((w1.alloc (.cells #[.int .i64 20, .int .i64 21, .int .i64 22, .int .i64 23, .int .i64 24, .int .i64 32, .int .i64 33, .int .i64 30, .int .i64 31] 3)).alloc (.cells #[.int .i64 6, .int .i64 0, .string ⟨#[97]⟩, .slice none 0 0, .int .i64 6, .int .i64 0, .string ⟨#[98]⟩, .slice none 0 0] 24)).alloc (.cells #[.int .i64 o, .int .i64 0, .string ⟨#[]⟩, .slice (some ⟨w1.heap.size + 1, 0, none⟩) 2 2] 24)).alloc (.cells #[.string ⟨#[97]⟩, .int .i64 0, .string ⟨#[]⟩, .string ⟨#[98]⟩, .int .i64 0, .string ⟨#[]⟩] 49)).alloc (.cells #[.int .i64 1, .int .i64 a, .string ⟨#[]⟩, .slice none 0 0, .int .i64 1, .int .i64 b, .string ⟨#[]⟩, .slice none 0 0] 52)).alloc (.cells #[.slice (some ⟨w1.heap.size + 1 + 1 + 1, 0, none⟩) 2 2, .slice (some ⟨w1.heap.size + 1 + 1 + 1 + 1, 0, none⟩) 2 2, .slice none 0 0, .slice none 0 0] 55) := ⟨_, rfl⟩
  have hb7 : Below w.heap.size w W7 := by rw [hW7]; exact b1.trans (((((((Below.refl w1.heap.size w1).alloc (Nat.le_refl _) _).alloc (by simp) _).alloc (by simp; omega) _).alloc (by simp; omega) _).alloc (by simp; omega) _).alloc (by simp; omega) _ |>.mono b1.size)
  have hwh : WhAt W7 w1.heap.size o a b := by rw [hW7]; exact ⟨up (up (up (up (new_box _ _ _ _ (by simp))))), up (up (new_box _ _ _ _ (by simp))), up (new_box _ _ _ _ (by simp)), up (up (up (new_box _ _ _ _ (by simp)))), new_box _ _ _ _ (by simp)⟩
  have p0 : W7.cell? ⟨w1.heap.size + 1 + 1, 0, none⟩ = some (.int .i64 o) := cell_of_row W7 _ 0 _ _ (0, 0) hwh.tree
  have p1 : W7.cell? ⟨w1.heap.size + 1 + 1, 1, none⟩ = some (.int .i64 0) := cell_of_row W7 _ 1 _ _ (0, 0) hwh.tree
  have p2 : W7.cell? ⟨w1.heap.size + 1 + 1, 2, none⟩ = some (.string ⟨#[]⟩) := cell_of_row W7 _ 2 _ _ (0, 0) hwh.tree
  have p3 : W7.cell? ⟨w1.heap.size + 1 + 1, 3, none⟩ = some (.slice (some ⟨w1.heap.size + 1, 0, none⟩) 2 2) := cell_of_row W7 _ 3 _ _ (0, 0) hwh.tree
  have z0 : W7.cell? ⟨w1.heap.size + 1 + 1 + 1 + 1 + 1, 0, none⟩ = some (.slice (some ⟨w1.heap.size + 1 + 1 + 1, 0, none⟩) 2 2) := cell_of_row W7 _ 0 _ _ (0, 0) hwh.env
  have z1 : W7.cell? ⟨w1.heap.size + 1 + 1 + 1 + 1 + 1, 1, none⟩ = some (.slice (some ⟨w1.heap.size + 1 + 1 + 1 + 1, 0, none⟩) 2 2) := cell_of_row W7 _ 1 _ _ (0, 0) hwh.env
  have z2 : W7.cell? ⟨w1.heap.size + 1 + 1 + 1 + 1 + 1, 2, none⟩ = some (.slice none 0 0) := cell_of_row W7 _ 2 _ _ (0, 0) hwh.env
  have z3 : W7.cell? ⟨w1.heap.size + 1 + 1 + 1 + 1 + 1, 3, none⟩ = some (.slice none 0 0) := cell_of_row W7 _ 3 _ _ (0, 0) hwh.env
  rw [hW7] at p0 p1 p2 p3 z0 z1 z2 z3
  have HW7 := Lib.hid hW7
  have HWH := Lib.hid (fun W (k : Below W7.heap.size W7 W) => hwh.later k)
  have UP := Lib.hid (fun W (k : Below W7.heap.size W7 W) => hb7.trans (k.mono hb7.size))
  have O7 := Lib.hid (OX.out W7 hb7 _ hwh)
  have R7 := Lib.hid (Below.refl W7.heap.size W7)
  clear hW7 hb7 hwh b1
  go_wp2_with fail
  rw [← HW7.out]
  clear ct1 ct2 ct3 p0 p1 p2 p3 z0 z1 z2 z3
  refine O7.out.mono ?_
  rintro e w8 ⟨⟨px, cx, rfl⟩, b8⟩
  obtain ⟨W9, hW9⟩ : ∃ W9, W9 = w8.alloc (.cells #[.int .i64 xk, .int .i64 xn, .string (S xt), .slice px 0 cx] 52) := ⟨_, rfl⟩
  have hb9 : Below W7.heap.size W7 W9 := by rw [hW9]; exact b8.alloc b8.size _
  have hvx : VB W9 w8.heap.size (.int .i64 xk) (.int .i64 xn) (.string (S xt)) (.slice px 0 cx) := by rw [hW9]; exact VB.new w8 _ _ _ _ _ rfl
  have hwh := HWH.out W9 hb9
  have p0 : W9.cell? ⟨w1.heap.size + 1 + 1, 0, none⟩ = some (.int .i64 o) := cell_of_row W9 _ 0 _ _ (0, 0) hwh.tree
  have p1 : W9.cell? ⟨w1.heap.size + 1 + 1, 1, none⟩ = some (.int .i64 0) := cell_of_row W9 _ 1 _ _ (0, 0) hwh.tree
  have p2 : W9.cell? ⟨w1.heap.size + 1 + 1, 2, none⟩ = some (.string ⟨#[]⟩) := cell_of_row W9 _ 2 _ _ (0, 0) hwh.tree
  have p3 : W9.cell? ⟨w1.heap.size + 1 + 1, 3, none⟩ = some (.slice (some ⟨w1.heap.size + 1, 0, none⟩) 2 2) := cell_of_row W9 _ 3 _ _ (0, 0) hwh.tree
  have z0 : W9.cell? ⟨w1.heap.size + 1 + 1 + 1 + 1 + 1, 0, none⟩ = some (.slice (some ⟨w1.heap.size + 1 + 1 + 1, 0, none⟩) 2 2) := cell_of_row W9 _ 0 _ _ (0, 0) hwh.env
  have z1 : W9.cell? ⟨w1.heap.size + 1 + 1 + 1 + 1 + 1, 1, none⟩ = some (.slice (some ⟨w1.heap.size + 1 + 1 + 1 + 1, 0, none⟩) 2 2) := cell_of_row W9 _ 1 _ _ (0, 0) hwh.env
  have z2 : W9.cell? ⟨w1.heap.size + 1 + 1 + 1 + 1 + 1, 2, none⟩ = some (.slice none 0 0) := cell_of_row W9 _ 2 _ _ (0, 0) hwh.env
  have z3 : W9.cell? ⟨w1.heap.size + 1 + 1 + 1 + 1 + 1, 3, none⟩ = some (.slice none 0 0) := cell_of_row W9 _ 3 _ _ (0, 0) hwh.env
  rw [hW9] at p0 p1 p2 p3 z0 z1 z2 z3
  have HW9 := Lib.hid hW9
  have R9 := Lib.hid (RX.out W9 (UP.out _ hb9) _ hwh)
  have BX := Lib.hid (fun W (k : Below W9.heap.size W9 W) => hvx.later k)
  have B9 := Lib.hid hb9
  clear b8 hW9 hb9 hvx hwh
  go_wp2_with fail
  rw [← HW9.out]
  clear p0 p1 p2 p3 z0 z1 z2 z3
  refine R9.out.mono ?_
  rintro e w10 ⟨rfl, b10⟩
  obtain ⟨W11, hW11⟩ : ∃ W11, W11 = w10.alloc (.cells #[.int .i64 xk, .int .i64 xn, .string (S xt), .slice none 0 0] 52) := ⟨_, rfl⟩
  have hb11 : Below W9.heap.size W9 W11 := by rw [hW11]; exact b10.alloc b10.size _
  have hvy : VB W11 w10.heap.size (.int .i64 xk) (.int .i64 xn) (.string (S xt)) (.slice none 0 0) := by rw [hW11]; exact VB.new w10 _ _ _ _ _ rfl
  have hvx := BX.out W11 hb11
  have hb11 := B9.out.trans (hb11.mono B9.out.size)
  have hwh := HWH.out W11 hb11
  have HW11 := Lib.hid hW11
  have BXY := Lib.hid (fun W (k : Below W11.heap.size W11 W) => And.intro (hvx.later k) (hvy.later k))
  have WH11 := Lib.hid (fun W (k : Below W11.heap.size W11 W) => hwh.later k)
  have UP11 := Lib.hid (fun W (k : Below W11.heap.size W11 W) => UP.out W (hb11.trans (k.mono hb11.size)))
  clear b10 hW11 hb11 hvx hvy hwh
  go_upto_region 8 with fail
  rw [← HW11.out]
  have hwh := WH11.out W11.drew (Below.refl _ _).drew
  have HS0 := Lib.hid (show W11.drew.cell? ⟨w1.heap.size + 1 + 1, 3, none⟩ = some (.slice (some ⟨w1.heap.size + 1, 0, none⟩) 2 2) ∧ W11.drew.cell? ⟨w1.heap.size + 1 + 1 + 1 + 1 + 1, 0, none⟩ = some (.slice (some ⟨w1.heap.size + 1 + 1 + 1, 0, none⟩) 2 2) ∧ W11.drew.cell? ⟨w1.heap.size + 1 + 1 + 1 + 1 + 1, 1, none⟩ = some (.slice (some ⟨w1.heap.size + 1 + 1 + 1 + 1, 0, none⟩) 2 2) ∧ W11.drew.cell? ⟨w1.heap.size + 1 + 1 + 1 + 1 + 1, 2, none⟩ = some (.slice none 0 0) ∧ W11.drew.cell? ⟨w1.heap.size + 1 + 1 + 1 + 1 + 1, 3, none⟩ = some (.slice none 0 0) from ⟨cell_of_row _ _ 3 _ _ (0, 0) hwh.tree, cell_of_row _ _ 0 _ _ (0, 0) hwh.env, cell_of_row _ _ 1 _ _ (0, 0) hwh.env, cell_of_row _ _ 2 _ _ (0, 0) hwh.env, cell_of_row _ _ 3 _ _ (0, 0) hwh.env⟩)
  clear hwh
  refine Cd.until_start 5 (fun w7 => w7.cell? ⟨w1.heap.size + 1 + 1, 3, none⟩ = some (.slice (some ⟨w1.heap.size + 1, 0, none⟩) 2 2) ∧ w7.cell? ⟨w1.heap.size + 1 + 1 + 1 + 1 + 1, 0, none⟩ = some (.slice (some ⟨w1.heap.size + 1 + 1 + 1, 0, none⟩) 2 2) ∧ w7.cell? ⟨w1.heap.size + 1 + 1 + 1 + 1 + 1, 1, none⟩ = some (.slice (some ⟨w1.heap.size + 1 + 1 + 1 + 1, 0, none⟩) 2 2) ∧ w7.cell? ⟨w1.heap.size + 1 + 1 + 1 + 1 + 1, 2, none⟩ = some (.slice none 0 0) ∧ w7.cell? ⟨w1.heap.size + 1 + 1 + 1 + 1 + 1, 3, none⟩ = some (.slice none 0 0)) (by kernel_rfl) ?_
  refine Cd.untilT (v := ?_) 0 (by decide +kernel) (by decide +kernel) (by decide +kernel) (by kernel_rfl) (by simp only [List.getElem?_toArray, List.getElem?_cons_succ, List.getElem?_cons_zero]; rfl) (by rfl) (by exact fun _ _ _ h => h) (by first | exact fun _ => HS0.out | exact fun h => absurd h (by decide +kernel)) ?_ ?_
  rotate_left 1
  focus (intro w8; go_simp; (try with_reducible rfl); done)
  try simp only [Act.put, List.setIfInBounds_toArray, List.set_cons_zero, List.set_cons_succ]
  refine Cd.untilW (v := ?_) 1 [2, 3, 5] (by decide) (by decide +kernel) (by decide +kernel) (by decide +kernel) (by decide +kernel) (by kernel_rfl) (by simp only [List.getElem?_toArray, List.getElem?_cons_succ, List.getElem?_cons_zero]; rfl) (by rfl) (by exact fun _ _ _ h => h) (by exact HS0.out) ?_ ?_
  rotate_left 1
  focus (intro w8 hSw; (try dsimp only at hSw); obtain ⟨s3, y0, y1, y2, y3⟩ := hSw; go_simp; (try with_reducible rfl); done)
  try simp only [Act.put, List.setIfInBounds_toArray, List.set_cons_zero, List.set_cons_succ]
  refine Cd.untilT (v := ?_) 2 (by decide +kernel) (by decide +kernel) (by decide +kernel) (by kernel_rfl) (by simp only [List.getElem?_toArray, List.getElem?_cons_succ, List.getElem?_cons_zero]; rfl) (by rfl) (by exact fun _ _ _ h => h) (by first | exact fun _ => HS0.out | exact fun h => absurd h (by decide +kernel)) ?_ ?_
  rotate_left 1
  focus (intro w8; go_simp; (try with_reducible rfl); done)
  try simp only [Act.put, List.setIfInBounds_toArray, List.set_cons_zero, List.set_cons_succ]
  refine Cd.untilT (v := ?_) 3 (by decide +kernel) (by decide +kernel) (by decide +kernel) (by kernel_rfl) (by simp only [List.getElem?_toArray, List.getElem?_cons_succ, List.getElem?_cons_zero]; rfl) (by rfl) (by exact fun _ _ _ h => h) (by first | exact fun _ => HS0.out | exact fun h => absurd h (by decide +kernel)) ?_ ?_
  rotate_left 1
  focus (intro w8; go_simp; (try with_reducible rfl); done)
  try simp only [Act.put, List.setIfInBounds_toArray, List.set_cons_zero, List.set_cons_succ]
  refine Cd.untilW (v := ?_) 4 [5] (by decide) (by decide +kernel) (by decide +kernel) (by decide +kernel) (by decide +kernel) (by kernel_rfl) (by simp only [List.getElem?_toArray, List.getElem?_cons_succ, List.getElem?_cons_zero]; rfl) (by rfl) (by exact fun _ _ _ h => h) (by exact HS0.out) ?_ ?_
  rotate_left 1
  focus (intro w8 hSw; (try dsimp only at hSw); obtain ⟨s3, y0, y1, y2, y3⟩ := hSw; go_simp; (try with_reducible rfl); done)
  try simp only [Act.put, List.setIfInBounds_toArray, List.set_cons_zero, List.set_cons_succ]
  refine Cd.until_two (i := 5) (j := 9) (by decide +kernel) (by simp only [List.getElem?_toArray, List.getElem?_cons_succ, List.getElem?_cons_zero]; rfl) (by simp only [List.getElem?_toArray, List.getElem?_cons_succ, List.getElem?_cons_zero]; rfl) ?_ ?_
  rotate_left 1
  focus
    intro K hK
    go_simp
    have hba := ((Below.refl W11.heap.size W11).alloc (Nat.le_refl _) (.cells #[.int .i64 0, .int .i64 0, .string ⟨#[]⟩, .slice none 0 0] 52)).drew
    have HVA := Lib.hid (show VB ((W11.alloc (.cells #[.int .i64 0, .int .i64 0, .string ⟨#[]⟩, .slice none 0 0] 52)).drew) W11.heap.size (.int .i64 0) (.int .i64 0) (.string ⟨#[]⟩) (.slice none 0 0) from VB.new W11 _ _ _ _ _ rfl)
    have hwh := WH11.out _ hba
    have HS1 := Lib.hid (show (W11.alloc (.cells #[.int .i64 0, .int .i64 0, .string ⟨#[]⟩, .slice none 0 0] 52)).drew.cell? ⟨w1.heap.size + 1 + 1, 3, none⟩ = some (.slice (some ⟨w1.heap.size + 1, 0, none⟩) 2 2) ∧ (W11.alloc (.cells #[.int .i64 0, .int .i64 0, .string ⟨#[]⟩, .slice none 0 0] 52)).drew.cell? ⟨w1.heap.size + 1 + 1 + 1 + 1 + 1, 0, none⟩ = some (.slice (some ⟨w1.heap.size + 1 + 1 + 1, 0, none⟩) 2 2) ∧ (W11.alloc (.cells #[.int .i64 0, .int .i64 0, .string ⟨#[]⟩, .slice none 0 0] 52)).drew.cell? ⟨w1.heap.size + 1 + 1 + 1 + 1 + 1, 1, none⟩ = some (.slice (some ⟨w1.heap.size + 1 + 1 + 1 + 1, 0, none⟩) 2 2) ∧ (W11.alloc (.cells #[.int .i64 0, .int .i64 0, .string ⟨#[]⟩, .slice none 0 0] 52)).drew.cell? ⟨w1.heap.size + 1 + 1 + 1 + 1 + 1, 2, none⟩ = some (.slice none 0 0) ∧ (W11.alloc (.cells #[.int .i64 0, .int .i64 0, .string ⟨#[]⟩, .slice none 0 0] 52)).drew.cell? ⟨w1.heap.size + 1 + 1 + 1 + 1 + 1, 3, none⟩ = some (.slice none 0 0) from ⟨cell_of_row _ _ 3 _ _ (0, 0) hwh.tree, cell_of_row _ _ 0 _ _ (0, 0) hwh.env, cell_of_row _ _ 1 _ _ (0, 0) hwh.env, cell_of_row _ _ 2 _ _ (0, 0) hwh.env, cell_of_row _ _ 3 _ _ (0, 0) hwh.env⟩)
    have HO := Lib.hid (OY.out _ (UP11.out _ hba) _ hwh)
    have HBA := Lib.hid hba
    clear hba hwh
    refine hK.out _ _ (fun _ => HS1.out) ?_
    clear hK K
    try simp only [Act.put, List.setIfInBounds_toArray, List.set_cons_zero, List.set_cons_succ]
    refine Cd.until_one (i := 5) (by decide +kernel) (by simp only [List.getElem?_toArray, List.getElem?_cons_succ, List.getElem?_cons_zero]; rfl) ?_
    intro K hK
    go_simp
    go_at_call 17
    with_reducible refine HO.out.mono ?_
    rintro e wc ⟨⟨pn, cpn, rfl⟩, bc⟩
    have hbc := HBA.out.trans (bc.mono HBA.out.size)
    have HVC := Lib.hid (HVA.out.later bc)
    have HBC := Lib.hid hbc
    clear bc hbc HO
    go_wp2_with fail
    refine hK.out _ _ (fun h => absurd h (by decide +kernel)) ?_
    clear hK K
    try simp only [Act.put, List.setIfInBounds_toArray, List.set_cons_zero, List.set_cons_succ]
    refine Cd.untilT (v := ?_) 6 (by decide +kernel) (by decide +kernel) (by decide +kernel) (by kernel_rfl) (by simp only [List.getElem?_toArray, List.getElem?_cons_succ, List.getElem?_cons_zero]; rfl) (by rfl) (by exact fun _ _ _ h => h) (fun h => absurd h (by decide +kernel)) ?_ ?_
    rotate_left 1
    focus (intro w8; go_simp; (try with_reducible rfl); done)
    try simp only [Act.put, List.setIfInBounds_toArray, List.set_cons_zero, List.set_cons_succ]
    refine Cd.untilT (v := ?_) 7 (by decide +kernel) (by decide +kernel) (by decide +kernel) (by kernel_rfl) (by simp only [List.getElem?_toArray, List.getElem?_cons_succ, List.getElem?_cons_zero]; rfl) (by rfl) (by exact fun _ _ _ h => h) (fun h => absurd h (by decide +kernel)) ?_ ?_
    rotate_left 1
    focus (intro w8; go_simp; (try with_reducible rfl); done)
    try simp only [Act.put, List.setIfInBounds_toArray, List.set_cons_zero, List.set_cons_succ]
    refine Cd.untilT (v := ?_) 8 (by decide +kernel) (by decide +kernel) (by decide +kernel) (by kernel_rfl) (by simp only [List.getElem?_toArray, List.getElem?_cons_succ, List.getElem?_cons_zero]; rfl) (by rfl) (by exact fun _ _ _ h => h) (fun h => absurd h (by decide +kernel)) ?_ ?_
    rotate_left 1
    focus (intro w8; go_simp; (try with_reducible rfl); done)
    try simp only [Act.put, List.setIfInBounds_toArray, List.set_cons_zero, List.set_cons_succ]
    have hnb := HVC.out
    have fz := hnb.fz
    have fz0 := fz 0
    have k0x := hnb.c0
    have k1x := hnb.c1
    have k2x := hnb.c2
    have k3x := hnb.c3
    clear hnb
    refine Cd.until_one (i := 10) (by decide +kernel) (by simp only [List.getElem?_toArray, List.getElem?_cons_succ, List.getElem?_cons_zero]; rfl) ?_
    intro K hK
    go_simp
    go_wp2_with fail
    refine hK.out _ _ (fun h => absurd h (by decide +kernel)) ?_
    clear hK K
    try simp only [Act.put, List.setIfInBounds_toArray, List.set_cons_zero, List.set_cons_succ]
    refine Cd.until_one (i := 11) (by decide +kernel) (by simp only [List.getElem?_toArray, List.getElem?_cons_succ, List.getElem?_cons_zero]; rfl) ?_
    intro K hK
    go_simp
    go_wp2_with fail
    refine hK.out _ _ (fun h => absurd h (by decide +kernel)) ?_
    clear hK K
    try simp only [Act.put, List.setIfInBounds_toArray, List.set_cons_zero, List.set_cons_succ]
    refine Cd.until_done (by decide +kernel) ?_ _
    clear fz fz0 k0x k1x k2x k3x
    have hv := HVC.out.put (.int .i64 yk) (.int .i64 yn) (.string (S yt)) (.slice pn 0 cpn)
    have hk := below4 HBC.out W11.heap.size (Nat.le_refl _) (.int .i64 yk) (.int .i64 yn) (.string (S yt)) (.slice pn 0 cpn)
    unfold Ex.put4 at hv hk
    generalize (((wc.setCell ⟨W11.heap.size, 0, none⟩ (.int .i64 yk)).setCell ⟨W11.heap.size, 1, none⟩ (.int .i64 yn)).setCell ⟨W11.heap.size, 2, none⟩ (.string (S yt))).setCell ⟨W11.heap.size, 3, none⟩ (.slice pn 0 cpn) = W13 at hv hk ⊢
    have HV := Lib.hid hv
    have HK := Lib.hid hk
    clear hv hk
    generalize W11.heap.size = H13 at HV ⊢
  rotate_left 1
  focus
    intro K hK
    go_simp
    go_at_call 17
    with_reducible refine (OY.out W11.drew (UP11.out _ (Below.refl _ _).drew) _ (WH11.out _ (Below.refl _ _).drew)).mono ?_
    rintro e wc ⟨⟨pn, cpn, rfl⟩, bc⟩
    have HBC := Lib.hid (((Below.refl W11.heap.size W11).drew).trans (bc.mono (Nat.le_refl _)))
    clear bc
    go_wp2_with fail
    refine hK.out _ _ (fun h => absurd h (by decide +kernel)) ?_
    clear hK K
    try simp only [Act.put, List.setIfInBounds_toArray, List.set_cons_zero, List.set_cons_succ]
    refine Cd.untilT (v := ?_) 6 (by decide +kernel) (by decide +kernel) (by decide +kernel) (by kernel_rfl) (by simp only [List.getElem?_toArray, List.getElem?_cons_succ, List.getElem?_cons_zero]; rfl) (by rfl) (by exact fun _ _ _ h => h) (fun h => absurd h (by decide +kernel)) ?_ ?_
    rotate_left 1
    focus (intro w8; go_simp; (try with_reducible rfl); done)
    try simp only [Act.put, List.setIfInBounds_toArray, List.set_cons_zero, List.set_cons_succ]
    refine Cd.untilT (v := ?_) 7 (by decide +kernel) (by decide +kernel) (by decide +kernel) (by kernel_rfl) (by simp only [List.getElem?_toArray, List.getElem?_cons_succ, List.getElem?_cons_zero]; rfl) (by rfl) (by exact fun _ _ _ h => h) (fun h => absurd h (by decide +kernel)) ?_ ?_
    rotate_left 1
    focus (intro w8; go_simp; (try with_reducible rfl); done)
    try simp only [Act.put, List.setIfInBounds_toArray, List.set_cons_zero, List.set_cons_succ]
    refine Cd.untilT (v := ?_) 8 (by decide +kernel) (by decide +kernel) (by decide +kernel) (by kernel_rfl) (by simp only [List.getElem?_toArray, List.getElem?_cons_succ, List.getElem?_cons_zero]; rfl) (by rfl) (by exact fun _ _ _ h => h) (fun h => absurd h (by decide +kernel)) ?_ ?_
    rotate_left 1
    focus (intro w8; go_simp; (try with_reducible rfl); done)
    try simp only [Act.put, List.setIfInBounds_toArray, List.set_cons_zero, List.set_cons_succ]
    refine Cd.until_one (i := 9) (by decide +kernel) (by simp only [List.getElem?_toArray, List.getElem?_cons_succ, List.getElem?_cons_zero]; rfl) ?_
    intro K hK
    go_simp
    skip
    refine hK.out _ _ (fun h => absurd h (by decide +kernel)) ?_
    clear hK K
    try simp only [Act.put, List.setIfInBounds_toArray, List.set_cons_zero, List.set_cons_succ]
    refine Cd.until_one (i := 10) (by decide +kernel) (by simp only [List.getElem?_toArray, List.getElem?_cons_succ, List.getElem?_cons_zero]; rfl) ?_
    intro K hK
    go_simp
    go_wp2_with fail
    refine hK.out _ _ (fun h => absurd h (by decide +kernel)) ?_
    clear hK K
    try simp only [Act.put, List.setIfInBounds_toArray, List.set_cons_zero, List.set_cons_succ]
    refine Cd.until_one (i := 11) (by decide +kernel) (by simp only [List.getElem?_toArray, List.getElem?_cons_succ, List.getElem?_cons_zero]; rfl) ?_
    intro K hK
    go_simp
    go_wp2_with fail
    refine hK.out _ _ (fun h => absurd h (by decide +kernel)) ?_
    clear hK K
    try simp only [Act.put, List.setIfInBounds_toArray, List.set_cons_zero, List.set_cons_succ]
    refine Cd.until_done (by decide +kernel) ?_ _
    have hv : VB (wc.alloc (.cells #[.int .i64 yk, .int .i64 yn, .string (S yt), .slice pn 0 cpn] 52)) wc.heap.size (.int .i64 yk) (.int .i64 yn) (.string (S yt)) (.slice pn 0 cpn) := VB.new wc _ _ _ _ _ rfl
    have hk := HBC.out.alloc HBC.out.size (.cells #[.int .i64 yk, .int .i64 yn, .string (S yt), .slice pn 0 cpn] 52)
    generalize wc.alloc (.cells #[.int .i64 yk, .int .i64 yn, .string (S yt), .slice pn 0 cpn] 52) = W13 at hv hk ⊢
    generalize wc.heap.size = H13 at hv ⊢
    have HV := Lib.hid hv
    have HK := Lib.hid hk
    clear hv hk
  all_goals
    clear HS0
    have WH13 := Lib.hid (fun W (k : Below W13.heap.size W13 W) => WH11.out W (HK.out.trans (k.mono HK.out.size)))
    have UP13 := Lib.hid (fun W (k : Below W13.heap.size W13 W) => UP11.out W (HK.out.trans (k.mono HK.out.size)))
    have BXY13 := Lib.hid (fun W (k : Below W13.heap.size W13 W) => BXY.out W (HK.out.trans (k.mono HK.out.size)))
    have BN := Lib.hid (fun W (k : Below W13.heap.size W13 W) => HV.out.later k)
    clear HV HK
    go_upto_region 9 with fail
    have hwh := WH13.out W13.drew (Below.refl _ _).drew
    have HS0 := Lib.hid (show W13.drew.cell? ⟨w1.heap.size + 1 + 1, 3, none⟩ = some (.slice (some ⟨w1.heap.size + 1, 0, none⟩) 2 2) ∧ W13.drew.cell? ⟨w1.heap.size + 1 + 1 + 1 + 1 + 1, 0, none⟩ = some (.slice (some ⟨w1.heap.size + 1 + 1 + 1, 0, none⟩) 2 2) ∧ W13.drew.cell? ⟨w1.heap.size + 1 + 1 + 1 + 1 + 1, 1, none⟩ = some (.slice (some ⟨w1.heap.size + 1 + 1 + 1 + 1, 0, none⟩) 2 2) ∧ W13.drew.cell? ⟨w1.heap.size + 1 + 1 + 1 + 1 + 1, 2, none⟩ = some (.slice none 0 0) ∧ W13.drew.cell? ⟨w1.heap.size + 1 + 1 + 1 + 1 + 1, 3, none⟩ = some (.slice none 0 0) from ⟨cell_of_row _ _ 3 _ _ (0, 0) hwh.tree, cell_of_row _ _ 0 _ _ (0, 0) hwh.env, cell_of_row _ _ 1 _ _ (0, 0) hwh.env, cell_of_row _ _ 2 _ _ (0, 0) hwh.env, cell_of_row _ _ 3 _ _ (0, 0) hwh.env⟩)
    clear hwh
    refine Cd.until_start 5 (fun w7 => w7.cell? ⟨w1.heap.size + 1 + 1, 3, none⟩ = some (.slice (some ⟨w1.heap.size + 1, 0, none⟩) 2 2) ∧ w7.cell? ⟨w1.heap.size + 1 + 1 + 1 + 1 + 1, 0, none⟩ = some (.slice (some ⟨w1.heap.size + 1 + 1 + 1, 0, none⟩) 2 2) ∧ w7.cell? ⟨w1.heap.size + 1 + 1 + 1 + 1 + 1, 1, none⟩ = some (.slice (some ⟨w1.heap.size + 1 + 1 + 1 + 1, 0, none⟩) 2 2) ∧ w7.cell? ⟨w1.heap.size + 1 + 1 + 1 + 1 + 1, 2, none⟩ = some (.slice none 0 0) ∧ w7.cell? ⟨w1.heap.size + 1 + 1 + 1 + 1 + 1, 3, none⟩ = some (.slice none 0 0)) (by kernel_rfl) ?_
    refine Cd.untilT (v := ?_) 0 (by decide +kernel) (by decide +kernel) (by decide +kernel) (by kernel_rfl) (by simp only [List.getElem?_toArray, List.getElem?_cons_succ, List.getElem?_cons_zero]; rfl) (by rfl) (by exact fun _ _ _ h => h) (by first | exact fun _ => HS0.out | exact fun h => absurd h (by decide +kernel)) ?_ ?_
    rotate_left 1
    focus (intro w8; go_simp; (try with_reducible rfl); done)
    try simp only [Act.put, List.setIfInBounds_toArray, List.set_cons_zero, List.set_cons_succ]
    refine Cd.untilW (v := ?_) 1 [2, 3, 5] (by decide) (by decide +kernel) (by decide +kernel) (by decide +kernel) (by decide +kernel) (by kernel_rfl) (by simp only [List.getElem?_toArray, List.getElem?_cons_succ, List.getElem?_cons_zero]; rfl) (by rfl) (by exact fun _ _ _ h => h) (by exact HS0.out) ?_ ?_
    rotate_left 1
    focus (intro w8 hSw; (try dsimp only at hSw); obtain ⟨s3, y0, y1, y2, y3⟩ := hSw; go_simp; (try with_reducible rfl); done)
    try simp only [Act.put, List.setIfInBounds_toArray, List.set_cons_zero, List.set_cons_succ]
    refine Cd.untilT (v := ?_) 2 (by decide +kernel) (by decide +kernel) (by decide +kernel) (by kernel_rfl) (by simp only [List.getElem?_toArray, List.getElem?_cons_succ, List.getElem?_cons_zero]; rfl) (by rfl) (by exact fun _ _ _ h => h) (by first | exact fun _ => HS0.out | exact fun h => absurd h (by decide +kernel)) ?_ ?_
    rotate_left 1
    focus (intro w8; go_simp; (try with_reducible rfl); done)
    try simp only [Act.put, List.setIfInBounds_toArray, List.set_cons_zero, List.set_cons_succ]
    refine Cd.untilT (v := ?_) 3 (by decide +kernel) (by decide +kernel) (by decide +kernel) (by kernel_rfl) (by simp only [List.getElem?_toArray, List.getElem?_cons_succ, List.getElem?_cons_zero]; rfl) (by rfl) (by exact fun _ _ _ h => h) (by first | exact fun _ => HS0.out | exact fun h => absurd h (by decide +kernel)) ?_ ?_
    rotate_left 1
    focus (intro w8; go_simp; (try with_reducible rfl); done)
    try simp only [Act.put, List.setIfInBounds_toArray, List.set_cons_zero, List.set_cons_succ]
    refine Cd.untilW (v := ?_) 4 [5] (by decide) (by decide +kernel) (by decide +kernel) (by decide +kernel) (by decide +kernel) (by kernel_rfl) (by simp only [List.getElem?_toArray, List.getElem?_cons_succ, List.getElem?_cons_zero]; rfl) (by rfl) (by exact fun _ _ _ h => h) (by exact HS0.out) ?_ ?_
    rotate_left 1
    focus (intro w8 hSw; (try dsimp only at hSw); obtain ⟨s3, y0, y1, y2, y3⟩ := hSw; go_simp; (try with_reducible rfl); done)
    try simp only [Act.put, List.setIfInBounds_toArray, List.set_cons_zero, List.set_cons_succ]
    refine Cd.until_two (i := 5) (j := 9) (by decide +kernel) (by simp only [List.getElem?_toArray, List.getElem?_cons_succ, List.getElem?_cons_zero]; rfl) (by simp only [List.getElem?_toArray, List.getElem?_cons_succ, List.getElem?_cons_zero]; rfl) ?_ ?_
    rotate_left 1
    focus
      intro K hK
      go_simp
      have hba := ((Below.refl W13.heap.size W13).alloc (Nat.le_refl _) (.cells #[.int .i64 0, .int .i64 0, .string ⟨#[]⟩, .slice none 0 0] 52)).drew
      have HVA := Lib.hid (show VB ((W13.alloc (.cells #[.int .i64 0, .int .i64 0, .string ⟨#[]⟩, .slice none 0 0] 52)).drew) W13.heap.size (.int .i64 0) (.int .i64 0) (.string ⟨#[]⟩) (.slice none 0 0) from VB.new W13 _ _ _ _ _ rfl)
      have hwh := WH13.out _ hba
      have HS1 := Lib.hid (show (W13.alloc (.cells #[.int .i64 0, .int .i64 0, .string ⟨#[]⟩, .slice none 0 0] 52)).drew.cell? ⟨w1.heap.size + 1 + 1, 3, none⟩ = some (.slice (some ⟨w1.heap.size + 1, 0, none⟩) 2 2) ∧ (W13.alloc (.cells #[.int .i64 0, .int .i64 0, .string ⟨#[]⟩, .slice none 0 0] 52)).drew.cell? ⟨w1.heap.size + 1 + 1 + 1 + 1 + 1, 0, none⟩ = some (.slice (some ⟨w1.heap.size + 1 + 1 + 1, 0, none⟩) 2 2) ∧ (W13.alloc (.cells #[.int .i64 0, .int .i64 0, .string ⟨#[]⟩, .slice none 0 0] 52)).drew.cell? ⟨w1.heap.size + 1 + 1 + 1 + 1 + 1, 1, none⟩ = some (.slice (some ⟨w1.heap.size + 1 + 1 + 1 + 1, 0, none⟩) 2 2) ∧ (W13.alloc (.cells #[.int .i64 0, .int .i64 0, .string ⟨#[]⟩, .slice none 0 0] 52)).drew.cell? ⟨w1.heap.size + 1 + 1 + 1 + 1 + 1, 2, none⟩ = some (.slice none 0 0) ∧ (W13.alloc (.cells #[.int .i64 0, .int .i64 0, .string ⟨#[]⟩, .slice none 0 0] 52)).drew.cell? ⟨w1.heap.size + 1 + 1 + 1 + 1 + 1, 3, none⟩ = some (.slice none 0 0) from ⟨cell_of_row _ _ 3 _ _ (0, 0) hwh.tree, cell_of_row _ _ 0 _ _ (0, 0) hwh.env, cell_of_row _ _ 1 _ _ (0, 0) hwh.env, cell_of_row _ _ 2 _ _ (0, 0) hwh.env, cell_of_row _ _ 3 _ _ (0, 0) hwh.env⟩)
      have HO := Lib.hid (RY.out _ (UP13.out _ hba) _ hwh)
      have HBA := Lib.hid hba
      clear hba hwh
      refine hK.out _ _ (fun _ => HS1.out) ?_
      clear hK K
      try simp only [Act.put, List.setIfInBounds_toArray, List.set_cons_zero, List.set_cons_succ]
      refine Cd.until_one (i := 5) (by decide +kernel) (by simp only [List.getElem?_toArray, List.getElem?_cons_succ, List.getElem?_cons_zero]; rfl) ?_
      intro K hK
      go_simp
      go_at_call 18
      with_reducible refine HO.out.mono ?_
      rintro e wc ⟨rfl, bc⟩
      have hbc := HBA.out.trans (bc.mono HBA.out.size)
      have HVC := Lib.hid (HVA.out.later bc)
      have HBC := Lib.hid hbc
      clear bc hbc HO
      go_wp2_with fail
      refine hK.out _ _ (fun h => absurd h (by decide +kernel)) ?_
      clear hK K
      try simp only [Act.put, List.setIfInBounds_toArray, List.set_cons_zero, List.set_cons_succ]
      refine Cd.untilT (v := ?_) 6 (by decide +kernel) (by decide +kernel) (by decide +kernel) (by kernel_rfl) (by simp only [List.getElem?_toArray, List.getElem?_cons_succ, List.getElem?_cons_zero]; rfl) (by rfl) (by exact fun _ _ _ h => h) (fun h => absurd h (by decide +kernel)) ?_ ?_
      rotate_left 1
      focus (intro w8; go_simp; (try with_reducible rfl); done)
      try simp only [Act.put, List.setIfInBounds_toArray, List.set_cons_zero, List.set_cons_succ]
      refine Cd.untilT (v := ?_) 7 (by decide +kernel) (by decide +kernel) (by decide +kernel) (by kernel_rfl) (by simp only [List.getElem?_toArray, List.getElem?_cons_succ, List.getElem?_cons_zero]; rfl) (by rfl) (by exact fun _ _ _ h => h) (fun h => absurd h (by decide +kernel)) ?_ ?_
      rotate_left 1
      focus (intro w8; go_simp; (try with_reducible rfl); done)
      try simp only [Act.put, List.setIfInBounds_toArray, List.set_cons_zero, List.set_cons_succ]
      refine Cd.untilT (v := ?_) 8 (by decide +kernel) (by decide +kernel) (by decide +kernel) (by kernel_rfl) (by simp only [List.getElem?_toArray, List.getElem?_cons_succ, List.getElem?_cons_zero]; rfl) (by rfl) (by exact fun _ _ _ h => h) (fun h => absurd h (by decide +kernel)) ?_ ?_
      rotate_left 1
      focus (intro w8; go_simp; (try with_reducible rfl); done)
      try simp only [Act.put, List.setIfInBounds_toArray, List.set_cons_zero, List.set_cons_succ]
      have hnb := HVC.out
      have fz := hnb.fz
      have fz0 := fz 0
      have k0x := hnb.c0
      have k1x := hnb.c1
      have k2x := hnb.c2
      have k3x := hnb.c3
      clear hnb
      refine Cd.until_one (i := 10) (by decide +kernel) (by simp only [List.getElem?_toArray, List.getElem?_cons_succ, List.getElem?_cons_zero]; rfl) ?_
      intro K hK
      go_simp
      go_wp2_with fail
      refine hK.out _ _ (fun h => absurd h (by decide +kernel)) ?_
      clear hK K
      try simp only [Act.put, List.setIfInBounds_toArray, List.set_cons_zero, List.set_cons_succ]
      refine Cd.until_one (i := 11) (by decide +kernel) (by simp only [List.getElem?_toArray, List.getElem?_cons_succ, List.getElem?_cons_zero]; rfl) ?_
      intro K hK
      go_simp
      go_wp2_with fail
      refine hK.out _ _ (fun h => absurd h (by decide +kernel)) ?_
      clear hK K
      try simp only [Act.put, List.setIfInBounds_toArray, List.set_cons_zero, List.set_cons_succ]
      refine Cd.until_done (by decide +kernel) ?_ _
      clear fz fz0 k0x k1x k2x k3x
      have hv := HVC.out.put (.int .i64 yk) (.int .i64 yn) (.string (S yt)) (.slice none 0 0)
      have hk := below4 HBC.out W13.heap.size (Nat.le_refl _) (.int .i64 yk) (.int .i64 yn) (.string (S yt)) (.slice none 0 0)
      unfold Ex.put4 at hv hk
      generalize (((wc.setCell ⟨W13.heap.size, 0, none⟩ (.int .i64 yk)).setCell ⟨W13.heap.size, 1, none⟩ (.int .i64 yn)).setCell ⟨W13.heap.size, 2, none⟩ (.string (S yt))).setCell ⟨W13.heap.size, 3, none⟩ (.slice none 0 0) = W15 at hv hk ⊢
      have HV := Lib.hid hv
      have HK := Lib.hid hk
      clear hv hk
      generalize W13.heap.size = H15 at HV ⊢
    rotate_left 1
    focus
      intro K hK
      go_simp
      go_at_call 18
      with_reducible refine (RY.out W13.drew (UP13.out _ (Below.refl _ _).drew) _ (WH13.out _ (Below.refl _ _).drew)).mono ?_
      rintro e wc ⟨rfl, bc⟩
      have HBC := Lib.hid (((Below.refl W13.heap.size W13).drew).trans (bc.mono (Nat.le_refl _)))
      clear bc
      go_wp2_with fail
      refine hK.out _ _ (fun h => absurd h (by decide +kernel)) ?_
      clear hK K
      try simp only [Act.put, List.setIfInBounds_toArray, List.set_cons_zero, List.set_cons_succ]
      refine Cd.untilT (v := ?_) 6 (by decide +kernel) (by decide +kernel) (by decide +kernel) (by kernel_rfl) (by simp only [List.getElem?_toArray, List.getElem?_cons_succ, List.getElem?_cons_zero]; rfl) (by rfl) (by exact fun _ _ _ h => h) (fun h => absurd h (by decide +kernel)) ?_ ?_
      rotate_left 1
      focus (intro w8; go_simp; (try with_reducible rfl); done)
      try simp only [Act.put, List.setIfInBounds_toArray, List.set_cons_zero, List.set_cons_succ]
      refine Cd.untilT (v := ?_) 7 (by decide +kernel) (by decide +kernel) (by decide +kernel) (by kernel_rfl) (by simp only [List.getElem?_toArray, List.getElem?_cons_succ, List.getElem?_cons_zero]; rfl) (by rfl) (by exact fun _ _ _ h => h) (fun h => absurd h (by decide +kernel)) ?_ ?_
      rotate_left 1
      focus (intro w8; go_simp; (try with_reducible rfl); done)
      try simp only [Act.put, List.setIfInBounds_toArray, List.set_cons_zero, List.set_cons_succ]
      refine Cd.untilT (v := ?_) 8 (by decide +kernel) (by decide +kernel) (by decide +kernel) (by kernel_rfl) (by simp only [List.getElem?_toArray, List.getElem?_cons_succ, List.getElem?_cons_zero]; rfl) (by rfl) (by exact fun _ _ _ h => h) (fun h => absurd h (by decide +kernel)) ?_ ?_
      rotate_left 1
      focus (intro w8; go_simp; (try with_reducible rfl); done)
      try simp only [Act.put, List.setIfInBounds_toArray, List.set_cons_zero, List.set_cons_succ]
      refine Cd.until_one (i := 9) (by decide +kernel) (by simp only [List.getElem?_toArray, List.getElem?_cons_succ, List.getElem?_cons_zero]; rfl) ?_
      intro K hK
      go_simp
      skip
      refine hK.out _ _ (fun h => absurd h (by decide +kernel)) ?_
      clear hK K
      try simp only [Act.put, List.setIfInBounds_toArray, List.set_cons_zero, List.set_cons_succ]
      refine Cd.until_one (i := 10) (by decide +kernel) (by simp only [List.getElem?_toArray, List.getElem?_cons_succ, List.getElem?_cons_zero]; rfl) ?_
      intro K hK
      go_simp
      go_wp2_with fail
      refine hK.out _ _ (fun h => absurd h (by decide +kernel)) ?_
      clear hK K
      try simp only [Act.put, List.setIfInBounds_toArray, List.set_cons_zero, List.set_cons_succ]
      refine Cd.until_one (i := 11) (by decide +kernel) (by simp only [List.getElem?_toArray, List.getElem?_cons_succ, List.getElem?_cons_zero]; rfl) ?_
      intro K hK
      go_simp
      go_wp2_with fail
      refine hK.out _ _ (fun h => absurd h (by decide +kernel)) ?_
      clear hK K
      try simp only [Act.put, List.setIfInBounds_toArray, List.set_cons_zero, List.set_cons_succ]
      refine Cd.until_done (by decide +kernel) ?_ _
      have hv : VB (wc.alloc (.cells #[.int .i64 yk, .int .i64 yn, .string (S yt), .slice none 0 0] 52)) wc.heap.size (.int .i64 yk) (.int .i64 yn) (.string (S yt)) (.slice none 0 0) := VB.new wc _ _ _ _ _ rfl
      have hk := HBC.out.alloc HBC.out.size (.cells #[.int .i64 yk, .int .i64 yn, .string (S yt), .slice none 0 0] 52)
      generalize wc.alloc (.cells #[.int .i64 yk, .int .i64 yn, .string (S yt), .slice none 0 0] 52) = W15 at hv hk ⊢
      generalize wc.heap.size = H15 at hv ⊢
      have HV := Lib.hid hv
      have HK := Lib.hid hk
      clear hv hk
    all_goals
      clear HS0
      have UP15 := Lib.hid (fun W (k : Below W15.heap.size W15 W) => UP13.out W (HK.out.trans (k.mono HK.out.size)))
      have BV15 := Lib.hid (fun W (k : Below W15.heap.size W15 W) => And.intro (BXY13.out W (HK.out.trans (k.mono HK.out.size))) (And.intro (BN.out W (HK.out.trans (k.mono HK.out.size))) (HV.out.later k)))
      have A15 := Lib.hid (AW.out W15 (UP15.out _ (Below.refl _ _)))
      clear HV HK
      go_wp2_with fail
      refine A15.out.mono ?_
      rintro e w16 ⟨rfl, b16⟩
      obtain ⟨⟨hx, hy⟩, hn, hm⟩ := BV15.out w16 b16
      have x0 := hx.c0
      have x1 := hx.c1
      have x2 := hx.c2
      have x3 := hx.c3
      have y0 := hy.c0
      have y1 := hy.c1
      have y2 := hy.c2
      have y3 := hy.c3
      have B16 := Lib.hid b16
      have S16 := Lib.hid (SX.out w16 px cx)
      clear b16 hx hy hn hm
      go_wp2_with fail
      refine S16.out.mono ?_
      rintro e w17 ⟨rfl, b17⟩
      clear x0 x1 x2 x3 y0 y1 y2 y3
      have hb17 := B16.out.trans (b17.mono B16.out.size)
      obtain ⟨⟨hx, hy⟩, hn, hm⟩ := BV15.out w17 hb17
      have x0 := hn.c0
      have x1 := hn.c1
      have x2 := hn.c2
      have x3 := hn.c3
      have y0 := hm.c0
      have y1 := hm.c1
      have y2 := hm.c2
      have y3 := hm.c3
      have B17 := Lib.hid hb17
      have S17 := Lib.hid (SY.out w17 pn cpn)
      clear b17 hb17 hx hy hn hm
      go_wp2_with fail
      refine S17.out.mono ?_
      rintro e w18 ⟨rfl, b18⟩
      have B18 := Lib.hid (B17.out.trans (b18.mono B17.out.size))
      clear b18 x0 x1 x2 x3 y0 y1 y2 y3
      go_wp2_with fail
      go_ret
      exact ⟨rfl, UP15.out _ B18.out⟩
end Go.Proofs.YtlmmfhbdebfgkaaGreatDoor.Ev
