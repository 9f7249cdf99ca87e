/-
  EvOfP, EvOfW, EvOfA, EvOfB, EvOfC, EvOf, ExRefU.
-/
import Derived.Test.YtlmmfhbdebfgkaaGreatDoorVEvJuncQ
import Derived.Test.YtlmmfhbdebfgkaaGreatDoorVExResQ
set_option linter.unusedVariables false
set_option linter.unusedSimpArgs false
set_option maxRecDepth 100000
set_option maxHeartbeats 2000000
namespace Go.Proofs.YtlmmfhbdebfgkaaGreatDoor.Ev
open Go.RowKit
open Ex Lx Va Ty
theorem print_okF (t : T) (hn : t.row.nums) (h : (printM t).2 = 0) : okF t.row := by
  unfold printM at h
  by_cases h1 : (t.chk 0).1 = 0
  · exact (tx_len t hn h1).1
  · rw [if_pos h1] at h; exact absurd h h1
theorem okE_of : ∀ l : F, okF l → okE l
  | .nil, _ => trivial
  | .cons o n t a r, h => ⟨h.1, h.2.1, h.2.2.1, okE_of a h.2.2.2.1, okE_of r h.2.2.2.2⟩
theorem namedV_err : ∀ (l : List AttrP) (vs : List V) (n : List UInt8), (namedV l vs n).2 ≠ 0 → (namedV l vs n).1 = zeroV
  | [], _, _, _ => rfl
  | a :: r, vs, n, h => by
    unfold namedV at h ⊢
    by_cases ha : a.name = n
    · rw [if_pos ha] at h ⊢
      cases vs with
      | nil => rfl
      | cons v s =>
        simp only at h ⊢
        by_cases h0 : v.kind = 0
        · rw [if_pos h0]
        · rw [if_neg h0] at h; exact absurd rfl h
    · rw [if_neg ha] at h ⊢
      exact namedV_err r vs.tail n h
theorem numE_err (n : Int) (h : (numE n).2 ≠ 0) : (numE n).1 = zeroV := by
  unfold numE at h ⊢
  split
  · rename_i h1; rw [if_pos h1] at h; exact absurd rfl h
  · rfl
theorem arithE_err (o a b : Int) (h : (arithE o a b).2 ≠ 0) : (arithE o a b).1 = zeroV := by
  unfold arithE at h ⊢
  repeat' split at h
  all_goals simp_all
  all_goals first | exact numE_err _ h | skip
theorem juncE_err (o : Int) (l : List (V × Nat)) (h : (juncE o l).2 ≠ 0) : (juncE o l).1 = zeroV := by
  unfold juncE at h ⊢
  repeat' split at h
  all_goals simp_all
def ErrZ (x : V × Nat) : Prop := x.2 ≠ 0 → x.1 = zeroV
theorem errZ_ite {c : Prop} [Decidable c] {x y : V × Nat} (hx : ErrZ x) (hy : ErrZ y) : ErrZ (if c then x else y) := by
  by_cases h : c
  · rw [if_pos h]; exact hx
  · rw [if_neg h]; exact hy
theorem errZ_ok (x : V) : ErrZ (x, 0) := fun h => absurd rfl h
theorem errZ_z (k : Nat) : ErrZ (zeroV, k) := fun _ => rfl
theorem opE_err (o n : Int) (t : List UInt8) (l : List V) : ErrZ (opE o n t l) := by
  unfold opE
  repeat' apply errZ_ite
  all_goals first | exact errZ_ok _ | exact errZ_z _ | exact numE_err _ | exact arithE_err _ _ _
theorem evT_err (v : En) (t : T) (h : (evT v t).2 ≠ 0) : (evT v t).1 = zeroV := by
  unfold evT nodeE at h ⊢
  split
  · rename_i h1; rw [if_pos h1] at h; exact namedV_err _ _ _ h
  · rename_i h1
    rw [if_neg h1] at h
    split
    · rename_i h2; rw [if_pos h2] at h; exact namedV_err _ _ _ h
    · rename_i h2
      rw [if_neg h2] at h
      split
      · rename_i h3; rw [if_pos h3] at h; exact juncE_err _ _ h
      · rename_i h3
        rw [if_neg h3] at h
        split
        · rename_i h4; rw [if_pos h4] at h; exact opE_err _ _ _ _ h
        · rfl
theorem twp_nums {lo G : Nat} {x : V} {w : World} (h : TwP lo G [x] 1 w) : ∃ a c, w.cell? ⟨G, 0, none⟩ = some (.int .i64 x.kind) ∧ w.cell? ⟨G, 1, none⟩ = some (.int .i64 x.num) ∧ w.cell? ⟨G, 2, none⟩ = some (.string (S x.text)) ∧ w.cell? ⟨G, 3, none⟩ = some (.slice a x.list.length c) ∧ Fresh lo w a x.list ∧ G < w.heap.size := by
  obtain ⟨a, c, h0, h1, h2, h3, h4⟩ := h.cells 0 x rfl
  exact ⟨a, c, by simpa using h0, by simpa using h1, by simpa using h2, by simpa using h3, h4 (by omega), h.blk.lt⟩
theorem Good.vin {x : V} (h : Good x) : VIn x := ⟨h.num, by have := h.text; omega, by have := h.list; omega, h.nums⟩
def OwnN (B : Nat) (w : World) (a : Option Addr) (l : List Int) : Prop := NumsAt w a l ∧ ∀ g off, a = some ⟨g, off, none⟩ → l ≠ [] → B ≤ g
theorem OwnN.nil (B : Nat) (w : World) (a : Option Addr) : OwnN B w a [] := ⟨fun i hi => absurd hi (by simp), fun _ _ _ h => absurd rfl h⟩
theorem OwnN.below {B : Nat} {w w' : World} {a : Option Addr} {l : List Int} (h : OwnN B w a l) (k : Below w.heap.size w w') : OwnN B w' a l := ⟨h.1.below k, h.2⟩
theorem OwnN.mono {B B' : Nat} {w : World} {a : Option Addr} {l : List Int} (h : OwnN B w a l) (k : B' ≤ B) : OwnN B' w a l := ⟨h.1, fun g off e hl => Nat.le_trans k (h.2 g off e hl)⟩
theorem OwnN.keep {B : Nat} {w w' : World} {a : Option Addr} {l : List Int} (h : OwnN B w a l) (k : Kept (B ≤ ·) w w') : OwnN B w' a l := ⟨(LAt.keep (ok := (B ≤ ·)) (c := l.length) ⟨h.1, Nat.le_refl _, h.2⟩ k).1, h.2⟩
def OfR (B : Nat) (x : V × Nat) (e : Ending) (w : World) : Prop := ∃ a c, e = .returned (.tuple #[valC x.1 a c, .int .i64 (x.2 : Int)]) ∧ OwnN B w a x.1.list
end Go.Proofs.YtlmmfhbdebfgkaaGreatDoor.Ev
namespace Go.Proofs.YtlmmfhbdebfgkaaGreatDoor.Ev
open Go.RowKit
open Ex Lx Va Ty
def KB (w : World) (H : Nat) (a : Value) : Prop := w.heap[H]? = some (.cells #[a] 26 (0, 0))
section
variable {w w' : World} {H : Nat} {a : Value}
theorem KB.c0 (h : KB w H a) : w.cell? ⟨H, 0, none⟩ = some a := cell_of_row w H 0 _ _ (0, 0) h
theorem KB.fz (h : KB w H a) (j : Nat) : w.frozen? ⟨H, j, none⟩ = false := frozen_of_row w H j _ _ h
theorem KB.lt (h : KB w H a) : H < w.heap.size := World.block_lt_of_cell? w _ h.c0
theorem KB.later (h : KB w H a) (k : Below w.heap.size w w') : KB w' H a := (k.block H h.lt).trans h
end
structure OfW (v : En) (r : Rows) (t : T) (p : Option Addr) (c : Nat) (H : Nat) (W : World) : Prop where
  e : Bx W H (.int .i64 t.op) (.int .i64 t.num) (.string (S t.text)) (.slice p t.args.len c)
  v : EB W (H + 1) v r
  o : VB W (H + 1 + 1) (.int .i64 0) (.int .i64 0) (.string ⟨#[]⟩) (.slice none 0 0)
  k : KB W (H + 1 + 1 + 1) (.int .i64 0)
theorem OfW.later {v : En} {r : Rows} {t : T} {p : Option Addr} {c H : Nat} {W W' : World} (h : OfW v r t p c H W) (k : Below W.heap.size W W') : OfW v r t p c H W' := ⟨laterE h.e k, h.v.later k, h.o.later k, h.k.later k⟩
theorem OfW.new (v : En) (r : Rows) (t : T) (p : Option Addr) (c : Nat) (w : World) : OfW v r t p c w.heap.size ((((w.alloc (.cells #[.int .i64 t.op, .int .i64 t.num, .string (S t.text), .slice p t.args.len c] 24)).alloc (.cells #[.slice r.pa v.attrs.length r.ca, .slice r.pv v.vals.length r.cv, .slice r.pn v.names.length r.cn, .slice r.pf v.fields.length r.cf] 55)).alloc (.cells #[.int .i64 0, .int .i64 0, .string ⟨#[]⟩, .slice none 0 0] 52)).alloc (.cells #[.int .i64 0] 26)) := by
  refine ⟨?_, ?_, ?_, ?_⟩
  · exact laterE (laterE (laterE (Bx.new w _ _ _ _) ((Below.refl _ _).alloc (Nat.le_refl _) _)) ((Below.refl _ _).alloc (Nat.le_refl _) _)) ((Below.refl _ _).alloc (Nat.le_refl _) _)
  · exact EB.later (EB.later (new_box (w.alloc (.cells #[.int .i64 t.op, .int .i64 t.num, .string (S t.text), .slice p t.args.len c] 24)) _ _ _ (by simp)) ((Below.refl _ _).alloc (Nat.le_refl _) _)) ((Below.refl _ _).alloc (Nat.le_refl _) _)
  · exact VB.later (VB.new _ _ _ _ _ _ (by simp)) ((Below.refl _ _).alloc (Nat.le_refl _) _)
  · exact new_box _ _ _ _ (by simp)
def fin (w : World) (H : Nat) (a b c d k : Value) : World := (put4 w (H + 1 + 1) a b c d).setCell ⟨H + 1 + 1 + 1, 0, none⟩ k
theorem fin_c {v : En} {r : Rows} {t : T} {p : Option Addr} {c H : Nat} {w : World} (h : OfW v r t p c H w) (x y z u k : Value) :
    VB (fin w H x y z u k) (H + 1 + 1) x y z u ∧ KB (fin w H x y z u k) (H + 1 + 1 + 1) k := by
  have h1 := h.o.put x y z u
  have h2 : KB (put4 w (H + 1 + 1) x y z u) (H + 1 + 1 + 1) (.int .i64 0) := by
    have e : ∀ (w : World) (j : Nat) (v : Value), (w.setCell ⟨H + 1 + 1, j, none⟩ v).heap[H + 1 + 1 + 1]? = w.heap[H + 1 + 1 + 1]? := fun w j v => heap_setCell_other w ⟨H + 1 + 1, j, none⟩ _ v (by simp)
    unfold KB put4
    rw [e, e, e, e]
    exact h.k
  refine ⟨?_, ?_⟩
  · unfold VB fin
    rw [heap_setCell_other _ ⟨H + 1 + 1 + 1, 0, none⟩ _ k (by simp)]
    exact h1
  · exact heap_setCell_same _ (H + 1 + 1 + 1) 0 _ _ _ h2
theorem fin_below {B H : Nat} {w0 w : World} (h : Below B w0 w) (hB : B ≤ H) (x y z u k : Value) : Below B w0 (fin w H x y z u k) :=
  (below_put h (H + 1 + 1) (by omega) x y z u).setCell (p := ⟨H + 1 + 1 + 1, 0, none⟩) (by show B ≤ H + 1 + 1 + 1; omega) k
theorem fresh_fin {lo H : Nat} {w : World} {a : Option Addr} {l : List Int} (h : Fresh lo w a l) (hlo : H + 1 + 1 + 1 < lo) (x y z u k : Value) : OwnN lo (fin w H x y z u k) a l := by
  have h1 : LAt (lo ≤ ·) w a l l.length := ⟨h.nums, Nat.le_refl _, fun g off e hl => by
    obtain ⟨b, e2, _, _, hb⟩ := h 0 (List.length_pos_iff.2 hl)
    rw [e2] at e
    injection e with e
    injection e with e _ _
    omega⟩
  exact OwnN.keep ⟨h1.1, h1.2.2⟩ ((Kept.put w (H + 1 + 1) x y z u (by show ¬ lo ≤ H + 1 + 1; omega)).trans (Kept.set _ (H + 1 + 1 + 1) 0 k (by show ¬ lo ≤ H + 1 + 1 + 1; omega)))
end Go.Proofs.YtlmmfhbdebfgkaaGreatDoor.Ev
namespace Go.Proofs.YtlmmfhbdebfgkaaGreatDoor.Ev
open Go.RowKit
open Ex Lx Va Ty
theorem of_bad (v : En) (r : Rows) (t : T) (p : Option Addr) (c : Nat) (w : World) (ps : List UInt8) (pb : Nat) (hP : ∀ W : World, Below w.heap.size w W → Calls Tryz.prog 10 #[.agg #[.int .i64 t.op, .int .i64 t.num, .string (S t.text), .slice p t.args.len c]] W fun e w' => e = .returned (.tuple #[.string (S ps), .int .i64 (pb : Int)]) ∧ Below W.heap.size W w') (hpb : pb ≠ 0) : Calls Tryz.prog 17 #[.agg #[.int .i64 t.op, .int .i64 t.num, .string (S t.text), .slice p t.args.len c], .agg (envC v r)] w fun e w' => e = .returned (.tuple #[valC zeroV none 0, .int .i64 (pb : Int)]) ∧ Below w.heap.size w w' := by
  have e0 : ((pb : Int) != 0) = true := by simp; exact hpb
  have hb := ((((Below.refl w.heap.size w).alloc (Nat.le_refl _) (.cells #[.int .i64 t.op, .int .i64 t.num, .string (S t.text), .slice p t.args.len c] 24)).alloc (by simp) (.cells #[.slice r.pa v.attrs.length r.ca, .slice r.pv v.vals.length r.cv, .slice r.pn v.names.length r.cn, .slice r.pf v.fields.length r.cf] 55)).alloc (by simp; omega) (.cells #[.int .i64 0, .int .i64 0, .string ⟨#[]⟩, .slice none 0 0] 52)).alloc (by simp; omega) (.cells #[.int .i64 0] 26)
  have HW := Lib.hid (OfW.new v r t p c w)
  obtain ⟨W4, hW4⟩ : ∃ W4, W4 = ((((w.alloc (.cells #[.int .i64 t.op, .int .i64 t.num, .string (S t.text), .slice p t.args.len c] 24)).alloc (.cells #[.slice r.pa v.attrs.length r.ca, .slice r.pv v.vals.length r.cv, .slice r.pn v.names.length r.cn, .slice r.pf v.fields.length r.cf] 55)).alloc (.cells #[.int .i64 0, .int .i64 0, .string ⟨#[]⟩, .slice none 0 0] 52)).alloc (.cells #[.int .i64 0] 26)) := ⟨_, rfl⟩
  rw [← hW4] at hb HW
  have HP := Lib.hid (hP W4 hb)
  have HB := Lib.hid hb
  have HE := Lib.hid hW4
  have p0 := HW.out.e.c0
  have p1 := HW.out.e.c1
  have p2 := HW.out.e.c2
  have p3 := HW.out.e.c3
  rw [hW4] at p0 p1 p2 p3
  clear hb hP hW4
  unfold envC
  go_enter_defers Tryz.func17, Tryz.ntmps17
  go_wp2_with fail
  rw [← HE.out]
  refine HP.out.mono ?_
  rintro e w5 ⟨rfl, b5⟩
  have hw5 := HW.out.later b5
  have HB5 := Lib.hid (HB.out.trans (b5.mono HB.out.size))
  have fz := hw5.o.fz
  have k0 := hw5.o.c0
  have k1 := hw5.o.c1
  have k2 := hw5.o.c2
  have k3 := hw5.o.c3
  have fz2 := hw5.k.fz
  have j0 := hw5.k.c0
  have hc := fin_c hw5 (.int .i64 0) (.int .i64 0) (.string ⟨#[]⟩) (.slice none 0 0) (.int .i64 (pb : Int))
  have HC := Lib.hid hc
  have HF := Lib.hid (fin_below HB5.out (Nat.le_refl w.heap.size) (.int .i64 0) (.int .i64 0) (.string ⟨#[]⟩) (.slice none 0 0) (.int .i64 (pb : Int)))
  clear b5 hw5 p0 p1 p2 p3 hc
  go_wp2_with fail
  have d0 := HC.out.1.c0
  have d1 := HC.out.1.c1
  have d2 := HC.out.1.c2
  have d3 := HC.out.1.c3
  have d4 := HC.out.2.c0
  unfold fin put4 at d0 d1 d2 d3 d4
  simp only [bodyPostD, Leaves]
  refine ⟨.tuple #[.agg #[.int .i64 0, .int .i64 0, .string ⟨#[]⟩, .slice none 0 0], .int .i64 (pb : Int)], ?_, rfl, HF.out⟩
  simp [results, Tryz.results17, d0, d1, d2, d3, d4, go_sem]
end Go.Proofs.YtlmmfhbdebfgkaaGreatDoor.Ev
namespace Go.Proofs.YtlmmfhbdebfgkaaGreatDoor.Ev
open Go.RowKit
open Ex Lx Va Ty
theorem of_ok (v : En) (r : Rows) (t : T) (p : Option Addr) (c : Nat) (w : World) (ps : List UInt8) (pb : Nat) (hP : ∀ W : World, Below w.heap.size w W → Calls Tryz.prog 10 #[.agg #[.int .i64 t.op, .int .i64 t.num, .string (S t.text), .slice p t.args.len c]] W fun e w' => e = .returned (.tuple #[.string (S ps), .int .i64 (pb : Int)]) ∧ Below W.heap.size W w') (hpb : pb = 0) (X : V) (hX : Good X) (hT : ∀ W : World, Below w.heap.size w W → Calls Tryz.prog 31 #[.agg (envC v r), .agg #[.int .i64 t.op, .int .i64 t.num, .string (S t.text), .slice p t.args.len c]] W fun e w' => (∃ a c, e = .returned (valC X a c) ∧ NumsAt w' a X.list) ∧ Below W.heap.size W w') : Calls Tryz.prog 17 #[.agg #[.int .i64 t.op, .int .i64 t.num, .string (S t.text), .slice p t.args.len c], .agg (envC v r)] w fun e w' => (∃ a c, e = .returned (.tuple #[valC X a c, .int .i64 0]) ∧ OwnN w.heap.size w' a X.list) ∧ Below w.heap.size w w' := by
  subst hpb
  have HT := Lib.hid hT
  have HX := Lib.hid hX
  clear hT hX
  have hb := ((((Below.refl w.heap.size w).alloc (Nat.le_refl _) (.cells #[.int .i64 t.op, .int .i64 t.num, .string (S t.text), .slice p t.args.len c] 24)).alloc (by simp) (.cells #[.slice r.pa v.attrs.length r.ca, .slice r.pv v.vals.length r.cv, .slice r.pn v.names.length r.cn, .slice r.pf v.fields.length r.cf] 55)).alloc (by simp; omega) (.cells #[.int .i64 0, .int .i64 0, .string ⟨#[]⟩, .slice none 0 0] 52)).alloc (by simp; omega) (.cells #[.int .i64 0] 26)
  have HW := Lib.hid (OfW.new v r t p c w)
  obtain ⟨W4, hW4⟩ : ∃ W4, W4 = ((((w.alloc (.cells #[.int .i64 t.op, .int .i64 t.num, .string (S t.text), .slice p t.args.len c] 24)).alloc (.cells #[.slice r.pa v.attrs.length r.ca, .slice r.pv v.vals.length r.cv, .slice r.pn v.names.length r.cn, .slice r.pf v.fields.length r.cf] 55)).alloc (.cells #[.int .i64 0, .int .i64 0, .string ⟨#[]⟩, .slice none 0 0] 52)).alloc (.cells #[.int .i64 0] 26)) := ⟨_, rfl⟩
  rw [← hW4] at hb HW
  have HP := Lib.hid (hP W4 hb)
  have HB := Lib.hid hb
  have HE := Lib.hid hW4
  have p0 := HW.out.e.c0
  have p1 := HW.out.e.c1
  have p2 := HW.out.e.c2
  have p3 := HW.out.e.c3
  rw [hW4] at p0 p1 p2 p3
  clear hb hP hW4
  unfold envC
  go_enter_defers Tryz.func17, Tryz.ntmps17
  go_wp2_with fail
  rw [← HE.out]
  refine HP.out.mono ?_
  rintro e w5 ⟨rfl, b5⟩
  have hw5 := HW.out.later b5
  have HB5 := Lib.hid (HB.out.trans (b5.mono HB.out.size))
  have HW5 := Lib.hid hw5
  have p0 := hw5.e.c0
  have p1 := hw5.e.c1
  have p2 := hw5.e.c2
  have p3 := hw5.e.c3
  have q0 := hw5.v.c0
  have q1 := hw5.v.c1
  have q2 := hw5.v.c2
  have q3 := hw5.v.c3
  clear b5 hw5
  have hmf : ∀ (fn : Fn) (first cap : Array Value) (w : World), (Instr.makeFunc fn first cap).run Tryz.prog w = .ok (.func fn first cap) w := fun _ _ _ _ => rfl
  go_wp2_with fail
  refine (HT.out _ HB5.out).mono ?_
  rintro e w6 ⟨⟨a6, c6, rfl, hn6⟩, b6⟩
  have hx6 : ValsAt (w6.alloc (.cells #[.int .i64 X.kind, .int .i64 X.num, .string (S X.text), .slice a6 X.list.length c6] 52)) (some ⟨w6.heap.size, 0, none⟩) [X] := fun i hi => by
    have : i = 0 := by simpa using hi
    subst this
    have hnb := VB.new w6 (.int .i64 X.kind) (.int .i64 X.num) (.string (S X.text)) (.slice a6 X.list.length c6) _ rfl
    exact ⟨w6.heap.size, 0, rfl, ⟨a6, c6, hnb.c0, hnb.c1, hnb.c2, hnb.c3, hn6.below ((Below.refl _ _).alloc (Nat.le_refl _) _)⟩, hnb.lt⟩
  have HTW := Lib.hid (Twin_any [X] (by simp) (fun v hv => by rw [List.mem_singleton.1 hv]; exact HX.out.vin) _ 1 _ hx6)
  have HB6 := Lib.hid ((HB5.out.trans (b6.mono HB5.out.size)).trans (((Below.refl w6.heap.size w6).alloc (Nat.le_refl _) (.cells #[.int .i64 X.kind, .int .i64 X.num, .string (S X.text), .slice a6 X.list.length c6] 52)).mono (Nat.le_trans HB5.out.size b6.size)))
  have HW6 := Lib.hid ((HW5.out.later b6).later ((Below.refl w6.heap.size w6).alloc (Nat.le_refl _) (.cells #[.int .i64 X.kind, .int .i64 X.num, .string (S X.text), .slice a6 X.list.length c6] 52)))
  clear b6 hn6 hx6 p0 p1 p2 p3 q0 q1 q2 q3
  unfold valC
  go_wp2_with fail
  refine HTW.out.mono ?_
  rintro e w7 ⟨⟨a7, c7, rfl, htw⟩, b7⟩
  rcases htw with h | ⟨G, rfl, htp⟩
  · cases h
  obtain ⟨a8, c8, g0, g1, g2, g3, hn8, hG⟩ := twp_nums htp
  have hw7 := HW6.out.later b7
  have HB7 := Lib.hid (HB6.out.trans (b7.mono HB6.out.size))
  have fz := hw7.o.fz
  have k0 := hw7.o.c0
  have k1 := hw7.o.c1
  have k2 := hw7.o.c2
  have k3 := hw7.o.c3
  have fz2 := hw7.k.fz
  have j0 := hw7.k.c0
  have HC := Lib.hid (fin_c hw7 (.int .i64 X.kind) (.int .i64 X.num) (.string (S X.text)) (.slice a8 X.list.length c8) (.int .i64 0))
  have HF := Lib.hid (fin_below HB7.out (Nat.le_refl w.heap.size) (.int .i64 X.kind) (.int .i64 X.num) (.string (S X.text)) (.slice a8 X.list.length c8) (.int .i64 0))
  have HN := Lib.hid (fresh_fin hn8 (HW6.out.k.lt) (.int .i64 X.kind) (.int .i64 X.num) (.string (S X.text)) (.slice a8 X.list.length c8) (.int .i64 0))
  clear b7 hw7 htp hn8
  go_wp2_with fail
  have d0 := HC.out.1.c0
  have d1 := HC.out.1.c1
  have d2 := HC.out.1.c2
  have d3 := HC.out.1.c3
  have d4 := HC.out.2.c0
  unfold fin put4 at d0 d1 d2 d3 d4
  simp only [bodyPostD]
  refine leaves_cons (f := 29) (args := #[.pointer (some ⟨w.heap.size + 1 + 1 + 1, 0, none⟩)]) (by simp) (by simp [go_sem]) ?_
  refine (catch_idle _ _).mono ?_
  rintro e u' w'' ⟨rfl, rfl, rfl⟩
  simp only [settle, Leaves]
  refine ⟨.tuple #[.agg #[.int .i64 X.kind, .int .i64 X.num, .string (S X.text), .slice a8 X.list.length c8], .int .i64 0], ?_, ⟨a8, c8, rfl, HN.out.mono HB6.out.size⟩, HF.out⟩
  simp [results, Tryz.results17, d0, d1, d2, d3, d4, go_sem]
end Go.Proofs.YtlmmfhbdebfgkaaGreatDoor.Ev
namespace Go.Proofs.YtlmmfhbdebfgkaaGreatDoor.Ev
open Go.RowKit
open Ex Lx Va Ty
theorem of_pan (v : En) (r : Rows) (t : T) (p : Option Addr) (c : Nat) (w : World) (ps : List UInt8) (pb : Nat) (hP : ∀ W : World, Below w.heap.size w W → Calls Tryz.prog 10 #[.agg #[.int .i64 t.op, .int .i64 t.num, .string (S t.text), .slice p t.args.len c]] W fun e w' => e = .returned (.tuple #[.string (S ps), .int .i64 (pb : Int)]) ∧ Below W.heap.size W w') (hpb : pb = 0) (k : Nat) (hT : ∀ W : World, Below w.heap.size w W → Calls Tryz.prog 31 #[.agg (envC v r), .agg #[.int .i64 t.op, .int .i64 t.num, .string (S t.text), .slice p t.args.len c]] W fun e w' => e = panE k ∧ Below W.heap.size W w') : Calls Tryz.prog 17 #[.agg #[.int .i64 t.op, .int .i64 t.num, .string (S t.text), .slice p t.args.len c], .agg (envC v r)] w fun e w' => e = .returned (.tuple #[valC zeroV none 0, .int .i64 (k : Int)]) ∧ Below w.heap.size w w' := by
  subst hpb
  have HT := Lib.hid hT
  clear hT
  have hb := ((((Below.refl w.heap.size w).alloc (Nat.le_refl _) (.cells #[.int .i64 t.op, .int .i64 t.num, .string (S t.text), .slice p t.args.len c] 24)).alloc (by simp) (.cells #[.slice r.pa v.attrs.length r.ca, .slice r.pv v.vals.length r.cv, .slice r.pn v.names.length r.cn, .slice r.pf v.fields.length r.cf] 55)).alloc (by simp; omega) (.cells #[.int .i64 0, .int .i64 0, .string ⟨#[]⟩, .slice none 0 0] 52)).alloc (by simp; omega) (.cells #[.int .i64 0] 26)
  have HW := Lib.hid (OfW.new v r t p c w)
  obtain ⟨W4, hW4⟩ : ∃ W4, W4 = ((((w.alloc (.cells #[.int .i64 t.op, .int .i64 t.num, .string (S t.text), .slice p t.args.len c] 24)).alloc (.cells #[.slice r.pa v.attrs.length r.ca, .slice r.pv v.vals.length r.cv, .slice r.pn v.names.length r.cn, .slice r.pf v.fields.length r.cf] 55)).alloc (.cells #[.int .i64 0, .int .i64 0, .string ⟨#[]⟩, .slice none 0 0] 52)).alloc (.cells #[.int .i64 0] 26)) := ⟨_, rfl⟩
  rw [← hW4] at hb HW
  have HP := Lib.hid (hP W4 hb)
  have HB := Lib.hid hb
  have HE := Lib.hid hW4
  have p0 := HW.out.e.c0
  have p1 := HW.out.e.c1
  have p2 := HW.out.e.c2
  have p3 := HW.out.e.c3
  rw [hW4] at p0 p1 p2 p3
  clear hb hP hW4
  unfold envC
  go_enter_defers Tryz.func17, Tryz.ntmps17
  go_wp2_with fail
  rw [← HE.out]
  refine HP.out.mono ?_
  rintro e w5 ⟨rfl, b5⟩
  have hw5 := HW.out.later b5
  have HB5 := Lib.hid (HB.out.trans (b5.mono HB.out.size))
  have HW5 := Lib.hid hw5
  have p0 := hw5.e.c0
  have p1 := hw5.e.c1
  have p2 := hw5.e.c2
  have p3 := hw5.e.c3
  have q0 := hw5.v.c0
  have q1 := hw5.v.c1
  have q2 := hw5.v.c2
  have q3 := hw5.v.c3
  clear b5 hw5
  have hmf : ∀ (fn : Fn) (first cap : Array Value) (w : World), (Instr.makeFunc fn first cap).run Tryz.prog w = .ok (.func fn first cap) w := fun _ _ _ _ => rfl
  go_wp2_with fail
  refine (HT.out _ HB5.out).mono ?_
  rintro e w6 ⟨rfl, b6⟩
  have hw6 := HW5.out.later b6
  have HB6 := Lib.hid (HB5.out.trans (b6.mono HB5.out.size))
  have d0 := hw6.o.c0
  have d1 := hw6.o.c1
  have d2 := hw6.o.c2
  have d3 := hw6.o.c3
  have d4 := hw6.k.c0
  have fz := hw6.k.fz 0
  have hk := hw6.k
  have hoo := hw6.o
  have HF := Lib.hid (HB6.out.setCell (p := ⟨w.heap.size + 1 + 1 + 1, 0, none⟩) (by show w.heap.size ≤ w.heap.size + 1 + 1 + 1; omega) (.int .i64 (k : Int)))
  have hV : VB (w6.setCell ⟨w.heap.size + 1 + 1 + 1, 0, none⟩ (.int .i64 (k : Int))) (w.heap.size + 1 + 1) (.int .i64 0) (.int .i64 0) (.string ⟨#[]⟩) (.slice none 0 0) := by
    unfold VB
    rw [heap_setCell_other _ ⟨w.heap.size + 1 + 1 + 1, 0, none⟩ _ _ (by simp)]
    exact hoo
  have hK : KB (w6.setCell ⟨w.heap.size + 1 + 1 + 1, 0, none⟩ (.int .i64 (k : Int))) (w.heap.size + 1 + 1 + 1) (.int .i64 (k : Int)) := heap_setCell_same _ (w.heap.size + 1 + 1 + 1) 0 _ _ _ hk
  have HV := Lib.hid hV
  have HK := Lib.hid hK
  clear b6 hw6 p0 p1 p2 p3 q0 q1 q2 q3 hV hK hk hoo
  unfold panE
  go_wp2_with fail
  simp only [bodyPostD]
  refine leaves_cons (f := 29) (args := #[.pointer (some ⟨w.heap.size + 1 + 1 + 1, 0, none⟩)]) (by simp) (by simp [go_sem]) ?_
  refine (catch_panicking _ 0 (k : Int) [] _ d4 fz).mono ?_
  rintro e u' w'' ⟨rfl, rfl, rfl⟩
  have e0 := HV.out.c0
  have e1 := HV.out.c1
  have e2 := HV.out.c2
  have e3 := HV.out.c3
  have e4 := HK.out.c0
  simp only [settle, Leaves, List.dropWhile_nil]
  refine ⟨.tuple #[.agg #[.int .i64 0, .int .i64 0, .string ⟨#[]⟩, .slice none 0 0], .int .i64 (k : Int)], ?_, rfl, HF.out⟩
  simp [results, Tryz.results17, e0, e1, e2, e3, e4, go_sem]
end Go.Proofs.YtlmmfhbdebfgkaaGreatDoor.Ev
namespace Go.Proofs.YtlmmfhbdebfgkaaGreatDoor.Ev
open Go.RowKit
open Ex Lx Va Ty
theorem evM_good (v : En) (hf : EnFit v) (t : T) (hnums : t.row.nums) : Good (evM v t).1 := by
  unfold evM
  by_cases h : (printM t).2 = 0
  · rw [if_pos h]
    exact ev_good v hf.gvals hf.gfields t.row (okE_of _ (print_okF t hnums h)) _ (by show evT v t ∈ [evT v t]; simp)
  · rw [if_neg h]; exact good_zero
theorem evOf_any (v : En) (r : Rows) (hf : EnFit v) (t : T) (hfit : t.row.fits) (hnums : t.row.nums) (p : Option Addr) (c : Nat) (w : World) (hen : EnAt w r.pa r.pv r.pn r.pf v) (hfa : FAt w (fun _ => True) t.args p) (htab : Va.Tab w) (hC : ConsAt w) :
    Calls Tryz.prog 17 #[.agg #[.int .i64 t.op, .int .i64 t.num, .string (S t.text), .slice p t.args.len c], .agg (envC v r)] w fun e w' => OfR w.heap.size (evM v t) e w' ∧ Below w.heap.size w w' := by
  have hP : ∀ W : World, Below w.heap.size w W → Calls Tryz.prog 10 #[.agg #[.int .i64 t.op, .int .i64 t.num, .string (S t.text), .slice p t.args.len c]] W fun e w' => e = .returned (.tuple #[.string (S (printM t).1), .int .i64 ((printM t).2 : Int)]) ∧ Below W.heap.size W w' := fun W k =>
    exprPrint_any t hfit hnums p c W (htab.below k) (hC.keep (Kept.of_below (ok := fun _ => True) k) trivial) (FAt.mono (fun g hg _ => hg) _ _ (hfa.keep (Kept.of_below k)))
  by_cases hpb : (printM t).2 = 0
  · have hok := okE_of _ (print_okF t hnums hpb)
    have hall := (ev_all v r w hen hf t.row hok).1
    have hev : evM v t = evT v t := by unfold evM; rw [if_pos hpb]
    have hg : Good (evT v t).1 := ev_good v hf.gvals hf.gfields t.row hok _ (by show evT v t ∈ [evT v t]; simp)
    rw [hev]
    by_cases h0 : (evT v t).2 = 0
    · refine (of_ok v r t p c w (printM t).1 (printM t).2 hP hpb (evT v t).1 hg (fun W k => (hall p c W k hfa).mono (fun e w' h => ⟨?_, h.2⟩))).mono ?_
      · obtain ⟨a, c', he, hl⟩ := h.1.ret h0
        exact ⟨a, c', he, hl.1⟩
      · rintro e w' ⟨⟨a, c', rfl, hn⟩, b⟩
        refine ⟨⟨a, c', ?_, hn⟩, b⟩
        rw [h0]; rfl
    · refine (of_pan v r t p c w (printM t).1 (printM t).2 hP hpb (evT v t).2 (fun W k => (hall p c W k hfa).mono (fun e w' h => ⟨?_, h.2⟩))).mono ?_
      · exact h.1.pan h0
      · rintro e w' ⟨rfl, b⟩
        have hz := evT_err v t h0
        refine ⟨⟨none, 0, ?_, ?_⟩, b⟩
        · rw [hz]
        · rw [hz]; exact OwnN.nil _ _ _
  · have hev : evM v t = (zeroV, (printM t).2) := by unfold evM; rw [if_neg hpb]
    rw [hev]
    refine (of_bad v r t p c w (printM t).1 (printM t).2 hP hpb).mono ?_
    rintro e w' ⟨rfl, b⟩
    exact ⟨⟨none, 0, rfl, OwnN.nil _ _ _⟩, b⟩
end Go.Proofs.YtlmmfhbdebfgkaaGreatDoor.Ev
namespace Go.Proofs.YtlmmfhbdebfgkaaGreatDoor.Ex
open Go.RowKit
open Lx
theorem unAt_is {ts : List TA} {a : Nat} : unAt (tk ts a) = if isS ts a [33] = true then some 10 else if isS ts a [45] = true then some 11 else none := by
  unfold unAt isS
  generalize tk ts a = t
  obtain ⟨k, x, m, q⟩ := t
  by_cases hk : k = 5
  · subst hk; simp
  · simp [hk]
theorem runary_none (b g cap : Nat) (ts : List TA) (s : St) (r : R) (w : World) (h : Rdg w b g cap ts.length s.at_ s.n s.open_ 0 0) (ht : TsAt w g ts) (hg : g ≠ b) (hs : s.at_ < ts.length) (hn : ts.length ≤ 8001) (hu : unAt (tk ts s.at_) = none)
    (HP : ∀ w1, Rdg w1 b g cap ts.length s.at_ s.n s.open_ 0 0 → TsAt w1 g ts → Calls Tryz.prog 172 #[.pointer (some ⟨b, 0, none⟩)] w1 fun e w' => ResA b g cap ts w1 r e w') :
    Calls Tryz.prog 138 #[.pointer (some ⟨b, 0, none⟩)] w fun e w' => ResA b g cap ts w r e w' := by
  rw [unAt_is] at hu
  have h33 : isS ts s.at_ [33] = false := by
    cases hx : isS ts s.at_ [33] with
    | false => rfl
    | true => rw [hx] at hu; simp at hu
  have h45 : isS ts s.at_ [45] = false := by
    cases hx : isS ts s.at_ [45] with
    | false => rfl
    | true => rw [hx, h33] at hu; simp at hu
  have H := Lib.hid h
  have HT := Lib.hid ht
  have hlt := h.lt
  have H33 := Lib.hid (fun (w1 : World) (b1 : Below w.heap.size w w1) => show Calls Tryz.prog 171 #[.pointer (some ⟨b, 0, none⟩), .string ⟨#[33]⟩] w1 fun e w' => e = .returned (.bool (isS ts s.at_ [33])) ∧ Below w1.heap.size w1 w' from ris_any b g cap s.at_ s.n s.open_ 0 0 ts ⟨#[33]⟩ w1 (h.below b1) (ht.below b1) hs hn)
  have H45 := Lib.hid (fun (w1 : World) (b1 : Below w.heap.size w w1) => show Calls Tryz.prog 171 #[.pointer (some ⟨b, 0, none⟩), .string ⟨#[45]⟩] w1 fun e w' => e = .returned (.bool (isS ts s.at_ [45])) ∧ Below w1.heap.size w1 w' from ris_any b g cap s.at_ s.n s.open_ 0 0 ts ⟨#[45]⟩ w1 (h.below b1) (ht.below b1) hs hn)
  rw [h33] at H33
  rw [h45] at H45
  have HP1 := Lib.hid HP
  have hg1 := Lib.hid hg
  have HB0 := Lib.hid ((Below.refl w.heap.size w).alloc (Nat.le_refl _) (.cells #[.int .i64 0, .int .i64 0, .string ⟨#[]⟩, .slice none 0 0] 24))
  have HX0 := Lib.hid (Bx.new w (.int .i64 0) (.int .i64 0) (.string ⟨#[]⟩) (.slice none 0 0))
  clear h ht hs hn hu HP hg h33 h45
  go_enter Tryz.func138, Tryz.ntmps138
  go_wp2_with fail
  refine (H33.out _ HB0.out).mono ?_
  rintro e w1 ⟨rfl, b1⟩
  have HB1 := Lib.hid (HB0.out.trans (b1.mono (by simp)))
  have HX1 := Lib.hid (HX0.out.keep (Kept.of_below (ok := fun _ => True) b1) trivial)
  clear b1
  go_wp2_with fail
  refine (H45.out _ HB1.out).mono ?_
  rintro e w2 ⟨rfl, b2⟩
  have HB2 := Lib.hid (HB1.out.trans (b2.mono HB1.out.size))
  have HX2 := Lib.hid (HX1.out.keep (Kept.of_below (ok := fun _ => True) b2) trivial)
  clear b2
  go_wp2_with fail
  refine (HP1.out _ (H.out.below HB2.out) (HT.out.below HB2.out)).mono ?_
  rintro e w3 ⟨o3, o, n, t, q, k, c, rfl, hp⟩
  have hx3 := HX2.out.keep o3.kept (show w.heap.size ≠ b by omega)
  have f3 := hx3.fz
  have p0 := hx3.c0
  have p1 := hx3.c1
  have p2 := hx3.c2
  have p3 := hx3.c3
  have HX3 := Lib.hid (hx3.put (.int .i64 o) (.int .i64 n) (.string (S t)) (.slice q k c))
  have hH2 := HX2.out.lt
  have HP3 := Lib.hid ((hp.keep (Kept.put w3 w.heap.size (.int .i64 o) (.int .i64 n) (.string (S t)) (.slice q k c) (by omega))).low HB2.out.size)
  have HO3 := Lib.hid (((Only.of_below HB2.out).trans o3).put w.heap.size (Nat.le_refl _) (.int .i64 o) (.int .i64 n) (.string (S t)) (.slice q k c))
  clear hx3 o3 hp hH2
  go_wp2_with fail
  refine bodyPost_ret (res_expr rfl _ _ w.heap.size _ _ _ _ rfl HX3.out) rfl ?_
  exact ⟨HO3.out, o, n, t, q, k, c, rfl, HP3.out⟩
end Go.Proofs.YtlmmfhbdebfgkaaGreatDoor.Ex
