/-
  TyParts, LxTokOk, ExPsT, ExPsA.
-/
import Derived.Test.YtlmmfhbdebfgkaaGreatDoorWVaPureQ
import Derived.Test.YtlmmfhbdebfgkaaGreatDoorWExBadQ
import Derived.Test.YtlmmfhbdebfgkaaGreatDoorWLxTokQ
import Derived.Test.YtlmmfhbdebfgkaaGreatDoorWExRefP
import Derived.Test.YtlmmfhbdebfgkaaGreatDoorWVlNameQ
import Derived.Lib.Join
import Derived.WalkLawsBesides
import Derived.Deep.DeepCutAuto
set_option linter.unusedVariables false
set_option linter.unusedSimpArgs false
set_option maxRecDepth 100000
set_option maxHeartbeats 4000000
namespace Go.Proofs.YtlmmfhbdebfgkaaGreatDoor.Ty
open Ex Lx Va
theorem allF_mono {p q : T → Prop} (h : ∀ t, p t → q t) : ∀ f : F, AllF p f → AllF q f
  | .nil, _ => trivial
  | .cons o n t a r, ⟨h1, h2⟩ => ⟨h _ h1, allF_mono h r h2⟩
theorem most_all : ∀ (f : F) (k : Nat), mostP (tpF f) ≤ k → AllF (fun a => a.tp.open_ ≤ k) f
  | .nil, _, _ => trivial
  | .cons o n t a r, k, h => by
    have h' : max (T.tp ⟨o, n, t, a⟩).open_ (mostP (tpF r)) ≤ k := h
    exact ⟨by show (T.tp ⟨o, n, t, a⟩).open_ ≤ k; omega, most_all r k (by omega)⟩
theorem within_ge (y : Tp) (k : Nat) : y.open_ ≤ (y.within k).2 := by
  unfold Tp.within
  split <;> simp
theorem kids_dep {x : T} (h : WfF x.row) : AllF (fun a => a.tp.open_ ≤ x.tp.open_) x.args := by
  obtain ⟨o, n, t, a⟩ := x
  rcases node_kinds (frm h.1) with ⟨ho, rfl⟩ | ⟨rfl, _⟩ | ⟨ho, x, rfl⟩ | ⟨rfl, x, rfl⟩ | ⟨ho, x, y, rfl⟩ | ⟨ho, x, y, rfl⟩
  · trivial
  · refine most_all _ _ ?_
    rw [tp_list]; simp only; omega
  · refine ⟨?_, trivial⟩
    rw [tp_un ho]
    have := within_ge x.tp 5
    show x.tp.open_ ≤ (x.tp.within 5).2 + 1
    omega
  · refine most_all _ _ ?_
    rw [tp_call (.inl rfl)]; simp only; omega
  · refine most_all _ _ ?_
    rw [tp_call (.inr ho)]; simp only; omega
  · rw [tp_two ho]
    have h1 := within_ge x.tp (if bound o = 2 then 3 else bound o)
    have h2 := within_ge y.tp (bound o + 1)
    refine ⟨?_, ?_, trivial⟩
    · exact Nat.le_trans h1 (Nat.le_max_left _ _)
    · exact Nat.le_trans h2 (Nat.le_max_right _ _)
theorem kids_fine : ∀ (f : F) (k : Nat), WfF f → NumF f → f.size ≤ 200 → k ≤ 20 → AllF (fun a => a.tp.open_ ≤ k) f → AllF Fine f
  | .nil, _, _, _, _, _, _ => trivial
  | .cons o n t a r, k, ⟨h1, h2, h3, h4⟩, ⟨g1, g2, g3⟩, hs, hk, ⟨d1, d2⟩ => by
    have hsz : (F.cons o n t a r).size = a.size + 1 + r.size := rfl
    refine ⟨⟨⟨h1, h2, h3, trivial⟩, ⟨g1, g2, trivial⟩, ?_, ?_⟩, kids_fine r k h4 g3 (by omega) hk d2⟩
    · show a.size + 1 ≤ 200; omega
    · exact Nat.le_trans d1 hk
theorem fine_kids {x : T} (h : Fine x) : AllF Fine x.args := by
  obtain ⟨o, n, t, a⟩ := x
  have hs := h.size
  have : T.size ⟨o, n, t, a⟩ = a.size + 1 := rfl
  exact kids_fine a 20 h.wf.2.2.1 h.num.2.1 (by show a.size ≤ 200; omega) (Nat.le_refl _) (allF_mono (fun t ht => Nat.le_trans ht h.dep) a (kids_dep h.wf))
theorem of_fine {s : Sc} {x : T} (h : Fine x) : ofM s x = tyT s x := by
  unfold ofM
  rw [h.print, if_pos rfl]
theorem tyF_all {s : Sc} : ∀ f : F, (tyF s f).2 = 0 → AllF (fun t => (tyT s t).2 = 0) f
  | .nil, _ => trivial
  | .cons o n t a r, h => by
    rw [tyF_cons] at h
    by_cases h1 : (tyT s ⟨o, n, t, a⟩).2 = 0
    · rw [if_pos h1] at h
      by_cases h2 : (tyF s r).2 = 0
      · exact ⟨h1, tyF_all r h2⟩
      · rw [if_neg h2] at h; exact absurd h h2
    · rw [if_neg h1] at h; exact absurd h h1
theorem ty_args {s : Sc} {x : T} (h : (tyT s x).2 = 0) : (tyF s x.args).2 = 0 := by
  unfold tyT nodeTy at h
  by_cases h1 : (tyF s x.args).2 = 0
  · exact h1
  · rw [if_neg h1] at h; exact absurd h h1
theorem named_err {l : List AttrP} {n : List UInt8} (h : (namedTy l n).2 ≠ 0) : (namedTy l n).1 = TT.zero := by
  induction l with
  | nil => rfl
  | cons a r ih =>
    unfold namedTy at h ⊢
    split
    · rename_i e; rw [if_pos e] at h; exact absurd rfl h
    · rename_i e; rw [if_neg e] at h; exact ih h
theorem ty_err {s : Sc} {x : T} (h : (tyT s x).2 ≠ 0) : (tyT s x).1 = TT.zero := by
  unfold tyT nodeTy at h ⊢
  by_cases h1 : (tyF s x.args).2 = 0
  · rw [if_pos h1] at h ⊢
    unfold oneTy at h ⊢
    by_cases h4 : x.op = 4
    · rw [if_pos h4] at h; exact absurd rfl h
    rw [if_neg h4] at h ⊢
    by_cases h6 : x.op = 6
    · rw [if_pos h6] at h ⊢; exact named_err h
    rw [if_neg h6] at h ⊢
    by_cases h7 : x.op = 7
    · rw [if_pos h7] at h ⊢; exact named_err h
    rw [if_neg h7] at h ⊢
    by_cases hf : fitB s.enums x.op (tyF s x.args).1 = true
    · rw [if_pos hf] at h; exact absurd rfl h
    · rw [if_neg hf]
  · rw [if_neg h1]
theorem ty_kind {s : Sc} {x : T} (h : (tyT s x).2 = 0) (h6 : x.op ≠ 6) (h7 : x.op ≠ 7) : 1 ≤ (tyT s x).1.kind ∧ (tyT s x).1.kind ≤ 5 := by
  have ha := ty_args h
  unfold tyT nodeTy at h ⊢
  rw [if_pos ha] at h ⊢
  unfold oneTy at h ⊢
  by_cases h4 : x.op = 4
  · rw [if_pos h4]; exact ⟨show (1 : Int) ≤ 4 by decide, show (4 : Int) ≤ 5 by decide⟩
  rw [if_neg h4, if_neg h6, if_neg h7] at h ⊢
  by_cases hf : fitB s.enums x.op (tyF s x.args).1 = true
  · rw [if_pos hf]
    show 1 ≤ kindOf x.op ∧ kindOf x.op ≤ 5
    unfold kindOf
    repeat' split
    all_goals exact ⟨by decide, by decide⟩
  · rw [if_neg hf] at h; cases h
def PartOk (s : Sc) (x : T) (a : T) : Prop := ((ofM s x).2 = 0 → (ofM s a).2 = 0) ∧ (x.args.len = 1 → x.op = 11 → (ofM s a).2 = 0 → ((ofM s a).1.kind = 1 ↔ (ofM s x).2 = 0))
theorem parts_ok (s : Sc) {x : T} (h : Fine x) : AllF (fun a => PartOk s x a ∧ Fine a) x.args := by
  have hk := fine_kids h
  have hx := of_fine (s := s) h
  by_cases h1 : x.args.len = 1 ∧ x.op = 11
  · obtain ⟨h1, h11⟩ := h1
    obtain ⟨y, hy⟩ := F.one_of h1
    rw [hy] at hk ⊢
    have hy1 : Fine y := hk.1
    refine ⟨⟨⟨?_, ?_⟩, hy1⟩, trivial⟩
    · intro h0
      rw [hx] at h0
      have := tyF_all _ (ty_args h0)
      rw [hy] at this
      have e : ofM s ⟨y.op, y.num, y.text, y.args⟩ = tyT s y := of_fine hy1
      rw [e]
      exact this.1
    · intro _ _ h0
      have e : ofM s ⟨y.op, y.num, y.text, y.args⟩ = tyT s y := of_fine hy1
      rw [e] at h0 ⊢
      rw [hx]
      have hf : tyF s x.args = ([(tyT s y).1], 0) := by
        rw [hy]
        show tyF s (.cons y.op y.num y.text y.args .nil) = _
        rw [tyF_cons]
        have e2 : tyT s ⟨y.op, y.num, y.text, y.args⟩ = tyT s y := rfl
        rw [e2, if_pos h0]
        rfl
      obtain ⟨Y, hY⟩ : ∃ Y, tyT s y = Y := ⟨_, rfl⟩
      rw [hY] at hf ⊢
      unfold tyT nodeTy
      rw [hf]
      simp only [if_true]
      unfold oneTy
      rw [h11]
      have hz : fitB s.enums 11 [Y.1] = (Y.1.kind == 1) := by
        unfold fitB allK
        simp
      rw [hz]
      simp only [beq_iff_eq]
      by_cases hk1 : Y.1.kind = 1
      · simp [hk1]
      · simp [hk1]
  · have key : ∀ f : F, AllF Fine f → ((ofM s x).2 = 0 → AllF (fun t => (tyT s t).2 = 0) f) → AllF (fun a => PartOk s x a ∧ Fine a) f := by
      intro f
      induction f with
      | nil => exact fun _ _ => trivial
      | cons o n t a r _ ih =>
        rintro ⟨f1, f2⟩ h2
        refine ⟨⟨⟨fun h0 => ?_, fun e1 e2 => absurd ⟨e1, e2⟩ h1⟩, f1⟩, ih f2 (fun h0 => (h2 h0).2)⟩
        rw [of_fine f1]
        exact (h2 h0).1
    refine key x.args hk ?_
    intro h0
    rw [hx] at h0
    exact tyF_all _ (ty_args h0)
end Go.Proofs.YtlmmfhbdebfgkaaGreatDoor.Ty
namespace Go.Proofs.YtlmmfhbdebfgkaaGreatDoor.Lx
open Va
structure TokOk (t : TA) : Prop where
  num : t.kind = 2 → 0 ≤ t.num ∧ t.num ≤ 9223372036854775807
  text : t.kind = 3 → t.text.length ≤ 64
  sym : t.kind = 4 → nameB t.text = true
  spell : (spellM t.kind t.text t.num).length ≤ 8000
end Go.Proofs.YtlmmfhbdebfgkaaGreatDoor.Lx
namespace Go.Proofs.YtlmmfhbdebfgkaaGreatDoor.Ex
open Lx Va
structure TokS (t : TA) : Prop where
  name : t.kind = 1 ∨ t.kind = 4 → nameB t.text = true
  num : t.kind = 2 → 0 ≤ t.num
  text : t.kind = 3 → t.text.length ≤ 64
theorem tokS_end (a : Nat) : TokS ⟨0, [], 0, a⟩ := ⟨fun e => by simp at e, fun e => by simp at e, fun e => by simp at e⟩
theorem tok_s (l : List UInt8) (x : Tok) (h : tokM l = some x) (a : Nat) : TokS ⟨x.kind, x.text, x.num, a⟩ := by
  cases l with
  | nil => simp [tokM] at h
  | cons c r =>
    rw [tokM_cons] at h
    by_cases h39 : c = 39
    · rw [if_pos h39] at h
      by_cases hn : nameB (r.takeWhile wordB) = true
      · rw [if_pos hn] at h
        obtain rfl := Option.some.inj h
        exact ⟨fun _ => hn, fun e => by simp at e, fun e => by simp at e⟩
      · rw [if_neg hn] at h; cases h
    · rw [if_neg h39] at h
      by_cases hb : letB c = true
      · rw [if_pos hb] at h
        by_cases hn : nameB ((c :: r).takeWhile wordB) = true
        · rw [if_pos hn] at h
          obtain rfl := Option.some.inj h
          exact ⟨fun _ => hn, fun e => by simp at e, fun e => by simp at e⟩
        · rw [if_neg hn] at h; cases h
      · rw [if_neg hb] at h
        by_cases hd : digB c = true
        · rw [if_pos hd] at h
          by_cases hn : digsOk ((c :: r).takeWhile digB) = true
          · rw [if_pos hn] at h
            obtain rfl := Option.some.inj h
            exact ⟨fun e => by simp at e, fun _ => by simp only; omega, fun e => by simp at e⟩
          · rw [if_neg hn] at h; cases h
        · rw [if_neg hd] at h
          by_cases h34 : c = 34
          · rw [if_pos h34] at h
            cases hq : quo (r.length + 1) r with
            | none => rw [hq] at h; cases h
            | some tn =>
              obtain ⟨t, n⟩ := tn
              rw [hq] at h
              simp only at h
              by_cases ht : t.length ≤ 64
              · rw [if_pos ht] at h
                obtain rfl := Option.some.inj h
                exact ⟨fun e => by simp at e, fun e => by simp at e, fun _ => ht⟩
              · rw [if_neg ht] at h; cases h
          · rw [if_neg h34] at h
            cases hf : signs.find? (fun s => s.isPrefixOf (c :: r)) with
            | none => rw [hf] at h; cases h
            | some s =>
              rw [hf] at h
              obtain rfl := Option.some.inj h
              exact ⟨fun e => by simp at e, fun e => by simp at e, fun e => by simp at e⟩
theorem scan_s : ∀ (n : Nat) (l : List UInt8) (a : Nat), l.length ≤ n → ∀ t ∈ (scanM l a).1, TokS t := by
  intro n
  induction n with
  | zero =>
    intro l a hl t ht
    have e : l = [] := List.eq_nil_of_length_eq_zero (by omega)
    subst e
    have : scanM [] a = ([⟨0, [], 0, a⟩], none) := rfl
    rw [this] at ht
    simp at ht
    subst ht
    exact tokS_end _
  | succ n ih =>
    intro l a hl t ht
    rw [scanM_eq] at ht
    cases hm : l.drop (blk false l) with
    | nil =>
      rw [hm] at ht
      simp at ht
      subst ht
      exact tokS_end _
    | cons c r =>
      rw [hm] at ht
      simp only at ht
      have hlen := congrArg List.length hm
      rw [List.length_drop] at hlen
      cases hk : tokM (c :: r) with
      | none => rw [hk] at ht; simp at ht
      | some x =>
        rw [hk] at ht
        simp only at ht
        have h1 := tok_len _ x hk
        have hd : ((c :: r).drop x.len).length = (c :: r).length - x.len := List.length_drop
        rcases List.mem_cons.1 ht with rfl | ht
        · exact tok_s _ x hk _
        · exact ih ((c :: r).drop x.len) _ (by omega) t ht
end Go.Proofs.YtlmmfhbdebfgkaaGreatDoor.Ex
namespace Go.Proofs.YtlmmfhbdebfgkaaGreatDoor.Ex
open Go.RowKit
open Lx Va
def Psr (w : World) (b g cap len : Nat) (a n o : Int) : Prop :=
  w.heap[b]? = some (.cells #[.slice (some ⟨g, 0, none⟩) len cap, .int .i64 a, .int .i64 n, .int .i64 o] 117 (0, 0))
section
variable {w w' : World} {b g cap len : Nat} {a n o : Int}
theorem Psr.c0 (h : Psr w b g cap len a n o) : w.cell? ⟨b, 0, none⟩ = some (.slice (some ⟨g, 0, none⟩) len cap) := cell_of_row w b 0 _ _ (0, 0) h
theorem Psr.c1 (h : Psr w b g cap len a n o) : w.cell? ⟨b, 1, none⟩ = some (.int .i64 a) := cell_of_row w b 1 _ _ (0, 0) h
theorem Psr.c2 (h : Psr w b g cap len a n o) : w.cell? ⟨b, 2, none⟩ = some (.int .i64 n) := cell_of_row w b 2 _ _ (0, 0) h
theorem Psr.c3 (h : Psr w b g cap len a n o) : w.cell? ⟨b, 3, none⟩ = some (.int .i64 o) := cell_of_row w b 3 _ _ (0, 0) h
theorem Psr.fz (h : Psr w b g cap len a n o) (j : Nat) : w.frozen? ⟨b, j, none⟩ = false := frozen_of_row w b j _ _ h
theorem Psr.lt (h : Psr w b g cap len a n o) : b < w.heap.size := World.block_lt_of_cell? w _ h.c0
theorem Psr.set1 (h : Psr w b g cap len a n o) (v : Int) : Psr (w.setCell ⟨b, 1, none⟩ (.int .i64 v)) b g cap len v n o := heap_setCell_same w b 1 _ _ _ h
theorem Psr.set2 (h : Psr w b g cap len a n o) (v : Int) : Psr (w.setCell ⟨b, 2, none⟩ (.int .i64 v)) b g cap len a v o := heap_setCell_same w b 2 _ _ _ h
theorem Psr.set3 (h : Psr w b g cap len a n o) (v : Int) : Psr (w.setCell ⟨b, 3, none⟩ (.int .i64 v)) b g cap len a n v := heap_setCell_same w b 3 _ _ _ h
theorem Psr.keep {ok : Nat → Prop} (h : Psr w b g cap len a n o) (k : Kept ok w w') (hb : ok b) : Psr w' b g cap len a n o := (k.block b hb h.lt).trans h
theorem Psr.below (h : Psr w b g cap len a n o) (k : Below w.heap.size w w') : Psr w' b g cap len a n o := (k.block b h.lt).trans h
end
def panS (a k : Int) : Ending := .panicked [{ v := .iface 114 (.agg #[.int .i64 a, .int .i64 k]), recovered := false }]
def tokC (t : TA) : Value := .agg #[.int .i64 t.kind, .string (S t.text), .int .i64 t.num, .int .i64 (t.at_ : Int)]
theorem res_tok {fn : Func} {p : Tmp} (h : fn.results = #[.cell p 79]) (tmps : Array Value) (w : World) (g : Nat) (a b c d : Value)
    (hp : tmps.getD p undef = .pointer (some ⟨g, 0, none⟩)) (hg : w.heap[g]? = some (.cells #[a, b, c, d] 79 (0, 0))) : (results fn tmps).run Tryz.prog w = .ok (.agg #[a, b, c, d]) w :=
  results_cell_row h tmps w g _ _ _ _ hp hg Tryz.underlying79 rfl (by kernel_rfl)
theorem res_stop {fn : Func} {p : Tmp} (h : fn.results = #[.cell p 114]) (tmps : Array Value) (w : World) (g : Nat) (a b : Value)
    (hp : tmps.getD p undef = .pointer (some ⟨g, 0, none⟩)) (hg : w.heap[g]? = some (.cells #[a, b] 114 (0, 0))) : (results fn tmps).run Tryz.prog w = .ok (.agg #[a, b]) w :=
  results_cell_row h tmps w g _ _ _ _ hp hg Tryz.underlying114 rfl (by kernel_rfl)
theorem nameS_len {s : List UInt8} (h : nameB s = true) : s.length ≤ 24 := by
  cases s with
  | nil => simp
  | cons c r => simp [nameB] at h; simp; omega
theorem below4 {B : Nat} {w w' : World} (h : Below B w w') (H : Nat) (hH : B ≤ H) (x y z u : Value) : Below B w (put4 w' H x y z u) :=
  (((h.setCell (p := ⟨H, 0, none⟩) hH x).setCell (p := ⟨H, 1, none⟩) hH y).setCell (p := ⟨H, 2, none⟩) hH z).setCell (p := ⟨H, 3, none⟩) hH u
theorem laterB {w w' : World} {H : Nat} {a b c d : Value} (h : Bx w H a b c d) (k : Below w.heap.size w w') : Bx w' H a b c d := (k.block H h.lt).trans h
theorem put4_row {w : World} {H : Nat} {a b c d : Value} {t : TypeId} (h : w.heap[H]? = some (.cells #[a, b, c, d] t (0, 0))) (a' b' c' d' : Value) : (put4 w H a' b' c' d').heap[H]? = some (.cells #[a', b', c', d'] t (0, 0)) :=
  heap_setCell_same _ H 3 _ _ _ (heap_setCell_same _ H 2 _ _ _ (heap_setCell_same _ H 1 _ _ _ (heap_setCell_same w H 0 _ _ _ h)))
theorem scanned_any (t : TA) (h : TokS t) (w : World) :
    Calls Tryz.prog 170 #[tokC t] w fun e w' => e = .returned (.bool true) ∧ Below w.heap.size w w' := by
  unfold tokC
  obtain ⟨k, x, m, q⟩ := t
  have hb := (Below.refl w.heap.size w).alloc (Nat.le_refl _) (.cells #[.int .i64 k, .string (S x), .int .i64 m, .int .i64 (q : Int)] 79)
  have HB := Lib.hid hb
  clear hb
  simp only
  by_cases h1 : k = 1
  · have hx := h.name (.inl h1)
    have hl : x.length ≤ 24 := nameS_len hx
    have HN := Lib.hid (fun W => Name_any (S x) (by rw [S_size]; omega) W)
    have HX := Lib.hid hx
    subst h1
    clear h hx
    go_enter Tryz.func170, Tryz.ntmps170
    go_wp2_with fail
    refine (HN.out _).mono ?_
    rintro e w1 ⟨rfl, b1⟩
    have HB1 := Lib.hid (HB.out.trans (b1.mono HB.out.size))
    have hx2 : nameB (S x).data.toList = true := HX.out
    rw [hx2]
    clear b1 hx2
    go_wp2_with fail
    go_ret
    exact ⟨rfl, HB1.out⟩
  by_cases h4 : k = 4
  · have hx := h.name (.inr h4)
    have hl : x.length ≤ 24 := nameS_len hx
    have HN := Lib.hid (fun W => Name_any (S x) (by rw [S_size]; omega) W)
    have HX := Lib.hid hx
    subst h4
    clear h hx
    go_enter Tryz.func170, Tryz.ntmps170
    go_wp2_with fail
    refine (HN.out _).mono ?_
    rintro e w1 ⟨rfl, b1⟩
    have HB1 := Lib.hid (HB.out.trans (b1.mono HB.out.size))
    have hx2 : nameB (S x).data.toList = true := HX.out
    rw [hx2]
    clear b1 hx2
    go_wp2_with fail
    go_ret
    exact ⟨rfl, HB1.out⟩
  have e1 : (k == 1) = false := by simpa using h1
  have e4 : (k == 4) = false := by simpa using h4
  by_cases h2 : k = 2
  · have hm := h.num h2
    simp only at hm
    subst h2
    clear h
    go_enter Tryz.func170, Tryz.ntmps170
    go_wp2_with fail
    go_ret
    exact ⟨rfl, HB.out⟩
  have e2 : (k == 2) = false := by simpa using h2
  by_cases h3 : k = 3
  · have hm := h.text h3
    simp only at hm
    have hs : (S x).size = x.length := S_size x
    have hsi : ((S x).size : Int) ≤ 64 := by omega
    clear hs hm
    subst h3
    clear h
    go_enter Tryz.func170, Tryz.ntmps170
    go_wp2_with fail
    go_ret
    exact ⟨rfl, HB.out⟩
  have e3 : (k == 3) = false := by simpa using h3
  clear h
  go_enter Tryz.func170, Tryz.ntmps170
  go_wp2_with fail
  go_ret
  exact ⟨rfl, HB.out⟩
theorem phere_any (b g cap a : Nat) (n o : Int) (ts : List TA) (w : World) (h : Psr w b g cap ts.length a n o) (ht : TsAt w g ts) (ha : a < ts.length) (hn : ts.length ≤ 8001) (hk : TokS (tk ts a)) :
    Calls Tryz.prog 130 #[.pointer (some ⟨b, 0, none⟩)] w fun e w' => e = .returned (tokC (tk ts a)) ∧ Below w.heap.size w w' := by
  obtain ⟨t0, t1, t2, t3⟩ := ht.tok ha
  have HSC := Lib.hid (fun W => scanned_any (tk ts a) hk W)
  have c0 := h.c0
  have c1 := h.c1
  have hlt := h.lt
  have hgl := ht.lt
  have hai : (a : Int) < (ts.length : Int) := by omega
  have hni : (ts.length : Int) ≤ 8001 := by omega
  have zb : ∀ o j, (w.alloc o).cell? ⟨b, j, none⟩ = w.cell? ⟨b, j, none⟩ := fun o j => Kept.cell (Kept.alloc (ok := fun _ => True) w o) trivial hlt
  have zg : ∀ o j, (w.alloc o).cell? ⟨g, j, none⟩ = w.cell? ⟨g, j, none⟩ := fun o j => Kept.cell (Kept.alloc (ok := fun _ => True) w o) trivial hgl
  unfold tokC at *
  clear h ht hk
  generalize tk ts a = t at *
  obtain ⟨k, x, m, q⟩ := t
  simp only at t0 t1 t2 t3 HSC ⊢
  have hb := ((Below.refl w.heap.size w).alloc (Nat.le_refl _) (.cells #[.int .i64 0, .string ⟨#[]⟩, .int .i64 0, .int .i64 0] 79)).alloc (by simp) (.cells #[.int .i64 k, .string (S x), .int .i64 m, .int .i64 (q : Int)] 79)
  have HB := Lib.hid hb
  have HR0 := Lib.hid (show ((w.alloc (.cells #[.int .i64 0, .string ⟨#[]⟩, .int .i64 0, .int .i64 0] 79)).alloc (.cells #[.int .i64 k, .string (S x), .int .i64 m, .int .i64 (q : Int)] 79)).heap[w.heap.size]? = some (.cells #[.int .i64 0, .string ⟨#[]⟩, .int .i64 0, .int .i64 0] 79 (0, 0)) from (((Below.refl _ _).alloc (Nat.le_refl _) _).block _ (by simp)).trans (heap_alloc_new w _))
  have HT0 := Lib.hid (show ((w.alloc (.cells #[.int .i64 0, .string ⟨#[]⟩, .int .i64 0, .int .i64 0] 79)).alloc (.cells #[.int .i64 k, .string (S x), .int .i64 m, .int .i64 (q : Int)] 79)).heap[w.heap.size + 1]? = some (.cells #[.int .i64 k, .string (S x), .int .i64 m, .int .i64 (q : Int)] 79 (0, 0)) from new_box _ _ _ _ (by simp))
  clear hb
  have HP := Lib.hid (show Below w.heap.size w ((w.alloc (.cells #[.int .i64 0, .string ⟨#[]⟩, .int .i64 0, .int .i64 0] 79)).alloc (.cells #[.int .i64 k, .string (S x), .int .i64 m, .int .i64 (q : Int)] 79)).drew ∧ ((w.alloc (.cells #[.int .i64 0, .string ⟨#[]⟩, .int .i64 0, .int .i64 0] 79)).alloc (.cells #[.int .i64 k, .string (S x), .int .i64 m, .int .i64 (q : Int)] 79)).drew.heap[w.heap.size]? = some (.cells #[.int .i64 0, .string ⟨#[]⟩, .int .i64 0, .int .i64 0] 79 (0, 0)) ∧ ((w.alloc (.cells #[.int .i64 0, .string ⟨#[]⟩, .int .i64 0, .int .i64 0] 79)).alloc (.cells #[.int .i64 k, .string (S x), .int .i64 m, .int .i64 (q : Int)] 79)).drew.heap[w.heap.size + 1]? = some (.cells #[.int .i64 k, .string (S x), .int .i64 m, .int .i64 (q : Int)] 79 (0, 0)) from ⟨HB.out.drew, HR0.out, HT0.out⟩)
  clear HB HR0 HT0
  go_enter Tryz.func130, Tryz.ntmps130
  go_upto_region 1 with fail
  go_cut [3] (fun x3 wx => x3 = .pointer (some ⟨w.heap.size + 1, 0, none⟩) ∧ Below w.heap.size w wx ∧ wx.heap[w.heap.size]? = some (.cells #[.int .i64 0, .string ⟨#[]⟩, .int .i64 0, .int .i64 0] 79 (0, 0)) ∧ wx.heap[w.heap.size + 1]? = some (.cells #[.int .i64 k, .string (S x), .int .i64 m, .int .i64 (q : Int)] 79 (0, 0)))
  case first =>
    go_region_with (fail)
    all_goals
      go_wp2_with fail
      go_meet
      exact ⟨rfl, HP.out⟩
  case rest =>
    obtain ⟨rfl, hbx, hr, ht⟩ := hcut
    have q0 := cell_of_row _ (w.heap.size + 1) 0 _ _ (0, 0) ht
    have q1 := cell_of_row _ (w.heap.size + 1) 1 _ _ (0, 0) ht
    have q2 := cell_of_row _ (w.heap.size + 1) 2 _ _ (0, 0) ht
    have q3 := cell_of_row _ (w.heap.size + 1) 3 _ _ (0, 0) ht
    have HR := Lib.hid hr
    have HT := Lib.hid ht
    have HBX := Lib.hid hbx
    clear hr ht hbx HP c0 c1 t0 t1 t2 t3 zb zg
    go_wp2_with fail
    refine (HSC.out _).mono ?_
    rintro e w1 ⟨rfl, b1⟩
    have hr1 := (b1.block w.heap.size (Array.getElem?_eq_some_iff.1 HR.out).1).trans HR.out
    have ht1 := (b1.block (w.heap.size + 1) (Array.getElem?_eq_some_iff.1 HT.out).1).trans HT.out
    have HB1 := Lib.hid (HBX.out.trans (b1.mono HBX.out.size))
    have p0 := cell_of_row w1 w.heap.size 0 _ _ (0, 0) hr1
    have p1 := cell_of_row w1 w.heap.size 1 _ _ (0, 0) hr1
    have p2 := cell_of_row w1 w.heap.size 2 _ _ (0, 0) hr1
    have p3 := cell_of_row w1 w.heap.size 3 _ _ (0, 0) hr1
    have fz : ∀ j, w1.frozen? ⟨w.heap.size, j, none⟩ = false := fun j => frozen_of_row w1 w.heap.size j _ _ hr1
    have k0 := cell_of_row w1 (w.heap.size + 1) 0 _ _ (0, 0) ht1
    have k1 := cell_of_row w1 (w.heap.size + 1) 1 _ _ (0, 0) ht1
    have k2 := cell_of_row w1 (w.heap.size + 1) 2 _ _ (0, 0) ht1
    have k3 := cell_of_row w1 (w.heap.size + 1) 3 _ _ (0, 0) ht1
    have HXF := Lib.hid (put4_row hr1 (.int .i64 k) (.string (S x)) (.int .i64 m) (.int .i64 (q : Int)))
    have HBF := Lib.hid (below4 HB1.out w.heap.size (Nat.le_refl _) (.int .i64 k) (.string (S x)) (.int .i64 m) (.int .i64 (q : Int)))
    clear b1 hr1 ht1 q0 q1 q2 q3
    go_wp2_with fail
    refine bodyPost_ret (res_tok rfl _ _ w.heap.size _ _ _ _ rfl HXF.out) rfl ?_
    exact ⟨rfl, HBF.out⟩
theorem pis_any (b g cap a : Nat) (n o : Int) (ts : List TA) (s : ByteArray) (w : World) (h : Psr w b g cap ts.length a n o) (ht : TsAt w g ts) (ha : a < ts.length) (hn : ts.length ≤ 8001) (hk : TokS (tk ts a)) :
    Calls Tryz.prog 167 #[.pointer (some ⟨b, 0, none⟩), .string s] w fun e w' => e = .returned (.bool (isS ts a s.data.toList)) ∧ Below w.heap.size w w' := by
  have HH := Lib.hid (phere_any b g cap a n o ts w h ht ha hn hk)
  clear h ht hk ha hn
  unfold isS
  unfold tokC at *
  generalize tk ts a = t at *
  obtain ⟨k, x, m, q⟩ := t
  simp only at HH ⊢
  have e1 : ((S x).toList == s.toList) = (x == s.data.toList) := by rw [ByteArray.toList_eq, ByteArray.toList_eq, S_toList]
  by_cases hk : k = 5
  · subst hk
    cases hx : (x == s.data.toList) with
    | true =>
      rw [hx] at e1
      clear hx
      go_enter Tryz.func167, Tryz.ntmps167
      go_wp2_with fail
      refine HH.out.mono ?_
      rintro e w1 ⟨rfl, b1⟩
      have HB := Lib.hid (b1.alloc b1.size (.cells #[.int .i64 5, .string (S x), .int .i64 m, .int .i64 (q : Int)] 79))
      clear b1
      go_wp2_with fail
      go_ret
      exact ⟨rfl, HB.out⟩
    | false =>
      rw [hx] at e1
      clear hx
      go_enter Tryz.func167, Tryz.ntmps167
      go_wp2_with fail
      refine HH.out.mono ?_
      rintro e w1 ⟨rfl, b1⟩
      have HB := Lib.hid (b1.alloc b1.size (.cells #[.int .i64 5, .string (S x), .int .i64 m, .int .i64 (q : Int)] 79))
      clear b1
      go_wp2_with fail
      go_ret
      exact ⟨rfl, HB.out⟩
  · have hk2 : (k == 5) = false := by simpa using hk
    rw [hk2, Bool.false_and]
    clear e1
    go_enter Tryz.func167, Tryz.ntmps167
    go_wp2_with fail
    refine HH.out.mono ?_
    rintro e w1 ⟨rfl, b1⟩
    have HB := Lib.hid (b1.alloc b1.size (.cells #[.int .i64 k, .string (S x), .int .i64 m, .int .i64 (q : Int)] 79))
    clear b1
    go_wp2_with fail
    go_ret
    exact ⟨rfl, HB.out⟩
theorem pwrong_any (b g cap len : Nat) (a n o k : Int) (w : World) (h : Psr w b g cap len a n o) :
    Calls Tryz.prog 132 #[.pointer (some ⟨b, 0, none⟩), .int .i64 k] w fun e w' => e = .returned (.agg #[.int .i64 a, .int .i64 k]) ∧ Below w.heap.size w w' := by
  have hb := (Below.refl w.heap.size w).alloc (Nat.le_refl _) (.cells #[.int .i64 a, .int .i64 k] 114)
  have c1 := h.c1
  have hlt := h.lt
  have zb : ∀ o j, (w.alloc o).cell? ⟨b, j, none⟩ = w.cell? ⟨b, j, none⟩ := fun o j => Kept.cell (Kept.alloc (ok := fun _ => True) w o) trivial hlt
  have HXF := Lib.hid (heap_alloc_new w (.cells #[.int .i64 a, .int .i64 k] 114))
  have HBF := Lib.hid hb
  clear hb h
  go_enter Tryz.func132, Tryz.ntmps132
  go_wp2_with fail
  refine bodyPost_ret (res_stop rfl _ _ w.heap.size _ _ rfl HXF.out) rfl ?_
  exact ⟨rfl, HBF.out⟩
end Go.Proofs.YtlmmfhbdebfgkaaGreatDoor.Ex
