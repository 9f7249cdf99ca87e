/-
  Several texts in one: EvShP, EvShV.
-/
import Derived.Test.YtabbdkdpmpjchaaGreatDoorZTzX
import Derived.Test.YtabbdkdpmpjchaaGreatDoorZTzY
import Derived.Test.YtabbdkdpmpjchaaGreatDoorZExTxE
import Derived.Test.YtabbdkdpmpjchaaGreatDoorZExRefL
namespace Go.Proofs.YtabbdkdpmpjchaaGreatDoor.Ev
open Go.RowKit
open Ex Lx Va Ty
set_option linter.unusedVariables false
set_option linter.unusedSimpArgs false
theorem chkF_less : ∀ (l : F) (n m : Nat), m ≤ n → (chkF l n).1 = 0 → (chkF l m).1 = 0 ∧ (chkF l m).2 + n = (chkF l n).2 + m
  | .nil, n, m, h, _ => ⟨rfl, by show m + n = n + m; omega⟩
  | .cons o nm t a r, n, m, hm, h => by
    rw [chkF_c] at h ⊢
    by_cases h1 : 200 ≤ n
    · rw [if_pos h1] at h; cases h
    rw [if_neg h1] at h
    rw [if_neg (by omega)]
    by_cases h2 : formedB o nm t a.len = false
    · rw [if_pos h2] at h; cases h
    rw [if_neg h2] at h ⊢
    by_cases h3 : namedB o t = false
    · rw [if_pos h3] at h; cases h
    rw [if_neg h3] at h ⊢
    by_cases h4 : (chkF a (n + 1)).1 = 0
    · rw [if_pos h4] at h
      obtain ⟨k1, e1⟩ := chkF_less a (n + 1) (m + 1) (by omega) h4
      rw [if_pos k1]
      obtain ⟨k2, e2⟩ := chkF_less r (chkF a (n + 1)).2 (chkF a (m + 1)).2 (by omega) h
      refine ⟨k2, ?_⟩
      rw [chkF_c, if_neg h1, if_neg h2, if_neg h3, if_pos h4]
      omega
    · rw [if_neg h4] at h
      exact absurd h h4
theorem within_open (x : Tx) (n : Nat) : x.open_ ≤ (x.within n).2 := by
  unfold Tx.within
  split
  · show x.open_ ≤ x.open_ + 1; omega
  · exact Nat.le_refl _
theorem two_chk (a b : T) (n : Nat) (h : (chkF (Ex.two a b) n).1 = 0) : (a.chk 0).1 = 0 ∧ (b.chk 0).1 = 0 := by
  have h : (chkF (.cons a.op a.num a.text a.args b.row) n).1 = 0 := h
  rw [chkF_cons] at h
  have e : (⟨a.op, a.num, a.text, a.args⟩ : T) = a := rfl
  rw [e] at h
  by_cases h1 : (a.chk n).1 = 0
  · rw [if_pos h1] at h
    exact ⟨(chkF_less a.row n 0 (Nat.zero_le _) h1).1, (chkF_less b.row _ 0 (Nat.zero_le _) h).1⟩
  · rw [if_neg h1] at h
    exact absurd h h1
theorem junc_parts (o : Int) (ho : o = 40 ∨ o = 41) (a b : T) (h : (printM ⟨o, 0, [], Ex.two a b⟩).2 = 0) : (printM a).2 = 0 ∧ (printM b).2 = 0 := by
  have key : ∀ t : T, (t.chk 0).1 = 0 → t.tx.open_ ≤ 20 → (printM t).2 = 0 := fun t h1 h2 => by
    unfold printM
    rw [if_neg (by omega), if_neg (by omega)]
  unfold printM at h
  by_cases hc : (T.chk ⟨o, 0, [], Ex.two a b⟩ 0).1 = 0
  · rw [if_neg (by omega)] at h
    by_cases h20 : 20 < (T.tx ⟨o, 0, [], Ex.two a b⟩).open_
    · rw [if_pos h20] at h; cases h
    · have hw : (T.tx ⟨o, 0, [], Ex.two a b⟩).open_ = max (a.tx.within (if bound o = 2 then 3 else bound o)).2 (b.tx.within (bound o + 1)).2 := by
        rcases ho with rfl | rfl <;> rfl
      rw [hw] at h20
      have w1 := within_open a.tx (if bound o = 2 then 3 else bound o)
      have w2 := within_open b.tx (bound o + 1)
      rw [chk_one] at hc
      rw [if_neg (by omega)] at hc
      by_cases h2 : formedB o 0 [] (Ex.two a b).len = false
      · rw [if_pos h2] at hc; cases hc
      rw [if_neg h2] at hc
      by_cases h3 : namedB o [] = false
      · rw [if_pos h3] at hc; cases hc
      rw [if_neg h3] at hc
      obtain ⟨c1, c2⟩ := two_chk a b _ hc
      exact ⟨key a c1 (by omega), key b c2 (by omega)⟩
  · rw [if_pos hc] at h
    exact absurd h hc
theorem ev_junc (v : En) (o : Int) (ho : o = 40 ∨ o = 41) (a b : T) (h : (printM ⟨o, 0, [], Ex.two a b⟩).2 = 0) : evM v ⟨o, 0, [], Ex.two a b⟩ = juncE o [evM v a, evM v b] := by
  obtain ⟨h1, h2⟩ := junc_parts o ho a b h
  unfold evM
  rw [if_pos h, if_pos h1, if_pos h2]
  show nodeE v o 0 [] [evT v a, evT v b] = _
  unfold nodeE
  rcases ho with rfl | rfl
  · rw [if_neg (by omega), if_neg (by omega), if_pos (by omega)]
  · rw [if_neg (by omega), if_neg (by omega), if_pos (by omega)]
def tailE (y : V × Nat) : V × Nat := if y.2 ≠ 0 then (zeroV, y.2) else if y.1.kind ≠ 2 then (zeroV, 23) else (y.1, 0)
theorem junc2 (o : Int) (x y : V × Nat) : juncE o [x, y] = if x.2 ≠ 0 then (zeroV, x.2) else if x.1.kind ≠ 2 then (zeroV, 23)
    else if x.1.num = (if o = 41 then 1 else 0) then (x.1, 0)
    else if y.2 ≠ 0 then (zeroV, y.2) else if y.1.kind ≠ 2 then (zeroV, 23) else (y.1, 0) := rfl
theorem junc_err (o : Int) (x y : V × Nat) (h : x.2 ≠ 0) : juncE o [x, y] = (zeroV, x.2) := by
  rw [junc2]
  rw [if_pos h]
theorem junc_kind (o : Int) (x y : V × Nat) (h : x.2 = 0) (k : x.1.kind ≠ 2) : juncE o [x, y] = (zeroV, 23) := by
  rw [junc2]
  rw [if_neg (not_not_intro h), if_pos k]
theorem junc_no (x y : V × Nat) (h : x.2 = 0) (k : x.1.kind = 2) (hn : x.1.num = 0) : juncE 40 [x, y] = (x.1, 0) ∧ juncE 41 [x, y] = tailE y := by
  rw [junc2, junc2]; unfold tailE
  constructor
  · rw [if_neg (not_not_intro h), if_neg (not_not_intro k), if_pos (by simp [hn])]
  · rw [if_neg (not_not_intro h), if_neg (not_not_intro k), if_neg (by simp [hn])]
theorem junc_yes (x y : V × Nat) (h : x.2 = 0) (k : x.1.kind = 2) (hn : x.1.num = 1) : juncE 41 [x, y] = (x.1, 0) ∧ juncE 40 [x, y] = tailE y := by
  rw [junc2, junc2]; unfold tailE
  constructor
  · rw [if_neg (not_not_intro h), if_neg (not_not_intro k), if_pos (by simp [hn])]
  · rw [if_neg (not_not_intro h), if_neg (not_not_intro k), if_neg (by simp [hn])]
theorem good_bit {x : V} (h : Good x) (k : x.kind = 2) : x.num = 0 ∨ x.num = 1 := by
  have e := h.bool k
  rw [e]
  cases x.num == 1
  · exact .inl rfl
  · exact .inr rfl
theorem ev_err (v : En) (t : T) (h : (evM v t).2 ≠ 0) : (evM v t).1 = zeroV := by
  unfold evM at h ⊢
  by_cases hp : (printM t).2 = 0
  · rw [if_pos hp] at h ⊢; exact evT_err v t h
  · rw [if_neg hp]
theorem short_says (v : En) (a b : T) (h1 : (printM ⟨40, 0, [], Ex.two a b⟩).2 = 0) (h2 : (printM ⟨41, 0, [], Ex.two a b⟩).2 = 0) (hg : Good (evM v a).1) :
    let A := evM v a; let C := evM v ⟨40, 0, [], Ex.two a b⟩; let D := evM v ⟨41, 0, [], Ex.two a b⟩; let B := evM v b
    (A.2 ≠ 0 → C = (zeroV, A.2) ∧ D = (zeroV, A.2)) ∧ (A.2 = 0 → A.1.kind ≠ 2 → C = (zeroV, 23) ∧ D = (zeroV, 23)) ∧
    (A.2 = 0 → A.1.kind = 2 → (A.1.num = 0 ∧ C = (A.1, 0) ∧ D = tailE B) ∨ (A.1.num = 1 ∧ D = (A.1, 0) ∧ C = tailE B)) ∧ (B.2 ≠ 0 → B.1 = zeroV) := by
  intro A C D B
  have hC : C = juncE 40 [A, B] := ev_junc v 40 (.inl rfl) a b h1
  have hD : D = juncE 41 [A, B] := ev_junc v 41 (.inr rfl) a b h2
  refine ⟨fun h => ?_, fun h k => ?_, fun h k => ?_, ev_err v b⟩
  · rw [hC, hD, junc_err _ _ _ h, junc_err _ _ _ h]; exact ⟨rfl, rfl⟩
  · rw [hC, hD, junc_kind _ _ _ h k, junc_kind _ _ _ h k]; exact ⟨rfl, rfl⟩
  · rcases good_bit hg k with hn | hn
    · obtain ⟨e1, e2⟩ := junc_no A B h k hn
      exact .inl ⟨hn, by rw [hC, e1], by rw [hD, e2]⟩
    · obtain ⟨e1, e2⟩ := junc_yes A B h k hn
      exact .inr ⟨hn, by rw [hD, e1], by rw [hC, e2]⟩
end Go.Proofs.YtabbdkdpmpjchaaGreatDoor.Ev

namespace Go.Proofs.YtabbdkdpmpjchaaGreatDoor.Ev
open Go.RowKit
open Ex Lx Va Ty
set_option linter.unusedVariables false
set_option linter.unusedSimpArgs false
def EC (w : World) (H : Nat) (a b c d : Value) : Prop := w.heap[H]? = some (.cells #[a, b, c, d] 55 (0, 0))
section
variable {w w' : World} {H B : Nat} {a b c d : Value}
theorem EC.c0 (h : EC w H a b c d) : w.cell? ⟨H, 0, none⟩ = some a := cell_of_row w H 0 _ _ (0, 0) h
theorem EC.c1 (h : EC w H a b c d) : w.cell? ⟨H, 1, none⟩ = some b := cell_of_row w H 1 _ _ (0, 0) h
theorem EC.c2 (h : EC w H a b c d) : w.cell? ⟨H, 2, none⟩ = some c := cell_of_row w H 2 _ _ (0, 0) h
theorem EC.c3 (h : EC w H a b c d) : w.cell? ⟨H, 3, none⟩ = some d := cell_of_row w H 3 _ _ (0, 0) h
theorem EC.lt (h : EC w H a b c d) : H < w.heap.size := World.block_lt_of_cell? w _ h.c0
theorem EC.at_ (h : EC w H a b c d) (k : Below B w w') (hl : H < B) : EC w' H a b c d := (k.block H hl).trans h
end
structure ShV (a b : T) (pa pb : Option Addr) (ca cb : Nat) (v : En) (r : Rows) (H : Nat) (W : World) : Prop where
  a : Bx W H (.int .i64 a.op) (.int .i64 a.num) (.string (S a.text)) (.slice pa a.args.len ca)
  b : Bx W (H + 1) (.int .i64 b.op) (.int .i64 b.num) (.string (S b.text)) (.slice pb b.args.len cb)
  v : EC W (H + 1 + 1) (.slice r.pa v.attrs.length r.ca) (.slice r.pv v.vals.length r.cv) (.slice r.pn v.names.length r.cn) (.slice r.pf v.fields.length r.cf)
section
variable {a b : T} {pa pb : Option Addr} {ca cb : Nat} {v : En} {r : Rows} {H : Nat} {W W' : World}
theorem ShV.later (h : ShV a b pa pb ca cb v r H W) (k : Below W.heap.size W W') : ShV a b pa pb ca cb v r H W' :=
  ⟨laterE h.a k, laterE h.b k, h.v.at_ k h.v.lt⟩
theorem ShV.keep {ok : Nat → Prop} (h : ShV a b pa pb ca cb v r H W) (k : Kept ok W W') (h0 : ok H) (h1 : ok (H + 1)) (h2 : ok (H + 1 + 1)) : ShV a b pa pb ca cb v r H W' :=
  ⟨h.a.keep k h0, h.b.keep k h1, (k.block _ h2 h.v.lt).trans h.v⟩
end
theorem vbk {ok : Nat → Prop} {w w' : World} {H : Nat} {a b c d : Value} (h : VB w H a b c d) (k : Kept ok w w') (hH : ok H) : VB w' H a b c d := (k.block H hH h.lt).trans h
theorem numsk {ok : Nat → Prop} {w w' : World} {a : Option Addr} {l : List Int} (h : NumsAt w a l) (k : Kept ok w w') (hok : ∀ g off, a = some ⟨g, off, none⟩ → l ≠ [] → ok g) : NumsAt w' a l :=
  (LAt.keep (ok := ok) (c := l.length) ⟨h, Nat.le_refl _, hok⟩ k).1
theorem below4 {B : Nat} {w w' : World} (h : Below B w w') (H : Nat) (hH : B ≤ H) (x y z u : Value) : Below B w (put4 w' H x y z u) :=
  (((h.setCell (p := ⟨H, 0, none⟩) hH x).setCell (p := ⟨H, 1, none⟩) hH y).setCell (p := ⟨H, 2, none⟩) hH z).setCell (p := ⟨H, 3, none⟩) hH u
theorem junc_fits {a b : T} (o : Int) (ha : a.row.fits) (hb : b.row.fits) : (T.row ⟨o, 0, [], Ex.two a b⟩).fits :=
  ⟨by simp, by show 1 + 1 ≤ 281474976710656; omega, ⟨ha.1, ha.2.1, ha.2.2.1, hb⟩, trivial⟩
theorem junc_nums {a b : T} (o : Int) (ha : a.row.nums) (hb : b.row.nums) : (T.row ⟨o, 0, [], Ex.two a b⟩).nums :=
  ⟨(by omega : (0 : Int) ≤ 9223372036854775807), ⟨ha.1, ha.2.1, hb⟩, trivial⟩
def ab8 (a b : T) (pa pb : Option Addr) (ca cb : Nat) : Obj :=
  .cells #[.int .i64 a.op, .int .i64 a.num, .string (S a.text), .slice pa a.args.len ca, .int .i64 b.op, .int .i64 b.num, .string (S b.text), .slice pb b.args.len cb] 24
theorem ab_at {a b : T} {pa pb : Option Addr} {ca cb : Nat} {w W : World} (hfa : FAt w (fun _ => True) a.args pa) (hfb : FAt w (fun _ => True) b.args pb) (k : Below w.heap.size w W) :
    FAt (W.alloc (ab8 a b pa pb ca cb)) (fun _ => True) (Ex.two a b) (some ⟨W.heap.size, 0, none⟩) :=
  have k2 := k.alloc k.size (ab8 a b pa pb ca cb)
  FAt.two (heap_alloc_new W (ab8 a b pa pb ca cb)) trivial (hfa.keep (Kept.of_below k2)) (hfb.keep (Kept.of_below k2))
theorem en_later {v : En} {r : Rows} {w W : World} (hen : EnAt w r.pa r.pv r.pn r.pf v) (k : Below w.heap.size w W) : EnAt W r.pa r.pv r.pn r.pf v :=
  ⟨hen.attrs.later k, fun i hi => by
    obtain ⟨b, off, e, hv, hl⟩ := (hen.vals.below k) i hi
    obtain ⟨q, c, h0, h1, h2, h3, h4⟩ := hv
    exact ⟨b, off, e, ⟨q, c, h0, h1, h2, h3, h4.mono fun g hg => Nat.lt_of_lt_of_le hg k.size⟩, hl⟩, hen.names.later k, fun i hi => by
    obtain ⟨b, off, e, hv, hl⟩ := (hen.fields.below k) i hi
    obtain ⟨q, c, h0, h1, h2, h3, h4⟩ := hv
    exact ⟨b, off, e, ⟨q, c, h0, h1, h2, h3, h4.mono fun g hg => Nat.lt_of_lt_of_le hg k.size⟩, hl⟩⟩
end Go.Proofs.YtabbdkdpmpjchaaGreatDoor.Ev
