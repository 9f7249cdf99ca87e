/-
  ExMem, ExSt, ExRdg.
-/
import Derived.Test.YtlmmfhbdebfgkaaGreatDoorVVaPureQ
import Derived.Maps.AppendAt
set_option linter.unusedVariables false
set_option linter.unusedSimpArgs false
namespace Go.Proofs.YtlmmfhbdebfgkaaGreatDoor.Ex
open Go.RowKit
open Lx
structure Kept (ok : Nat → Prop) (w w' : World) : Prop where
  size : w.heap.size ≤ w'.heap.size
  block : ∀ g, ok g → g < w.heap.size → w'.heap[g]? = w.heap[g]?
theorem Kept.of_below {ok : Nat → Prop} {w w' : World} (b : Below w.heap.size w w') : Kept ok w w' := ⟨b.size, fun g _ h => b.block g h⟩
theorem Kept.of_grown {ok : Nat → Prop} {w w' : World} {row : Option Nat} (b : w.grownBy w' row) (h : ∀ g, ok g → some g ≠ row) : Kept ok w w' := ⟨b.size, fun g hg hl => b.block g hl (h g hg)⟩
theorem Kept.cell {ok : Nat → Prop} {g j : Nat} {w w' : World} (k : Kept ok w w') (hl : ok g) (h : g < w.heap.size) : w'.cell? ⟨g, j, none⟩ = w.cell? ⟨g, j, none⟩ := by
  unfold World.cell?
  simp only
  rw [k.block g hl h]
theorem Kept.mono {ok ok' : Nat → Prop} {w w' : World} (k : Kept ok w w') (h : ∀ g, ok' g → ok g) : Kept ok' w w' := ⟨k.size, fun g hg hl => k.block g (h g hg) hl⟩
theorem Kept.refl (ok : Nat → Prop) (w : World) : Kept ok w w := ⟨Nat.le_refl _, fun _ _ _ => rfl⟩
theorem Kept.trans {ok : Nat → Prop} {a b c : World} (h : Kept ok a b) (k : Kept ok b c) : Kept ok a c :=
  ⟨Nat.le_trans h.size k.size, fun g hl hg => (k.block g hl (Nat.lt_of_lt_of_le hg h.size)).trans (h.block g hl hg)⟩
def FAt (w : World) (ok : Nat → Prop) : F → Option Addr → Prop
  | .nil, _ => True
  | .cons o n t a r, p => ∃ g k q c, p = some ⟨g, k, none⟩ ∧ ok g ∧ g < w.heap.size ∧ w.cell? ⟨g, k, none⟩ = some (.int .i64 o) ∧ w.cell? ⟨g, k + 1, none⟩ = some (.int .i64 n) ∧ w.cell? ⟨g, k + 2, none⟩ = some (.string (S t)) ∧
    w.cell? ⟨g, k + 3, none⟩ = some (.slice q a.len c) ∧ FAt w ok a q ∧ FAt w ok r (some ⟨g, k + 4, none⟩)
theorem FAt.keep {ok : Nat → Prop} {w w' : World} (k : Kept ok w w') : ∀ (l : F) (p : Option Addr), FAt w ok l p → FAt w' ok l p
  | .nil, _, _ => trivial
  | .cons _ _ _ a r, _, ⟨g, j, q, c, hp, hl, hg, h0, h1, h2, h3, ha, hr⟩ =>
    ⟨g, j, q, c, hp, hl, Nat.lt_of_lt_of_le hg k.size, (k.cell hl hg).trans h0, (k.cell hl hg).trans h1, (k.cell hl hg).trans h2, (k.cell hl hg).trans h3, FAt.keep k a q ha, FAt.keep k r _ hr⟩
theorem FAt.mono {ok ok' : Nat → Prop} {w : World} (h : ∀ g, g < w.heap.size → ok g → ok' g) : ∀ (l : F) (p : Option Addr), FAt w ok l p → FAt w ok' l p
  | .nil, _, _ => trivial
  | .cons _ _ _ a r, _, ⟨g, j, q, c, hp, hl, hg, h0, h1, h2, h3, ha, hr⟩ => ⟨g, j, q, c, hp, h g hg hl, hg, h0, h1, h2, h3, FAt.mono h a q ha, FAt.mono h r _ hr⟩
def exprC (t : T) (p : Option Addr) (c : Nat) : Value := .agg #[.int .i64 t.op, .int .i64 t.num, .string (S t.text), .slice p t.args.len c]
structure X where
  t : T
  p : Option Addr
  c : Nat
def X.cells (x : X) : List Value := [.int .i64 x.t.op, .int .i64 x.t.num, .string (S x.t.text), .slice x.p x.t.args.len x.c]
def xsC (xs : List X) : List Value := xs.flatMap X.cells
theorem xsC_append (a b : List X) : xsC (a ++ b) = xsC a ++ xsC b := by simp [xsC]
def rowF : List X → F
  | [] => .nil
  | x :: r => .cons x.t.op x.t.num x.t.text x.t.args (rowF r)
theorem rowF_len : ∀ xs : List X, (rowF xs).len = xs.length
  | [] => rfl
  | x :: r => by show (rowF r).len + 1 = r.length + 1; rw [rowF_len r]
theorem rowF_snoc : ∀ (xs : List X) (x : X), rowF (xs ++ [x]) = (rowF xs).snoc x.t
  | [], x => rfl
  | y :: r, x => by
    show F.cons _ _ _ _ (rowF (r ++ [x])) = F.cons _ _ _ _ ((rowF r).app x.t.row)
    rw [rowF_snoc r x]; rfl
theorem FAt.of_cells {w : World} {ok : Nat → Prop} {g : Nat} (hl : ok g) (hg : g < w.heap.size) : ∀ (xs : List X) (k : Nat), (∀ j u, (xsC xs)[j]? = some u → w.cell? ⟨g, k + j, none⟩ = some u) → (∀ x ∈ xs, FAt w ok x.t.args x.p) → FAt w ok (rowF xs) (some ⟨g, k, none⟩)
  | [], _, _, _ => trivial
  | x :: r, k, hc, ha => by
    have e : xsC (x :: r) = X.cells x ++ xsC r := rfl
    refine ⟨g, k, x.p, x.c, rfl, hl, hg, hc 0 _ (by rw [e]; rfl), hc 1 _ (by rw [e]; rfl), hc 2 _ (by rw [e]; rfl), hc 3 _ (by rw [e]; rfl), ha x (List.mem_cons_self ..), FAt.of_cells hl hg r (k + 4) (fun j u hu => ?_) (fun y hy => ha y (List.mem_cons_of_mem _ hy))⟩
    have := hc (4 + j) u (by rw [e, List.getElem?_append_right (by simp [X.cells])]; simpa [X.cells] using hu)
    rw [← Nat.add_assoc] at this
    exact this
theorem infoX : (Tryz.prog.info? 24).map (fun i => (i.zero, i.size, i.bytes)) = some (some (.agg #[.int .i64 0, .int .i64 0, .string ⟨#[]⟩, .slice none 0 0]), 4, 56) := by kernel_rfl
structure XR (w : World) (B : Nat) (v : Value) (xs : List X) : Prop where
  own : w.ownsRow B 24 4 v xs.length (xsC xs)
  args : ∀ x ∈ xs, FAt w (fun g => B ≤ g ∧ some g ≠ v.ownBlock) x.t.args x.p
theorem XR.nil (w : World) (B : Nat) : XR w B (.slice none 0 0) [] := ⟨World.ownsRow_nil w B _ _, by simp⟩
theorem XR.later {w w' : World} {B : Nat} {v : Value} {xs : List X} (h : XR w B v xs) (k : Kept (B ≤ ·) w w') : XR w' B v xs := by
  refine ⟨⟨h.own.1, ?_⟩, fun x hx => (h.args x hx).keep (k.mono fun g hg => hg.1)⟩
  rcases h.own.2 with h2 | ⟨g, cap, cur, rfl, hB, hg, r⟩
  · exact .inl h2
  · exact .inr ⟨g, cap, cur, rfl, hB, (k.block g hB (Array.getElem?_eq_some_iff.1 hg).1).trans hg, r⟩
theorem XR.row {w : World} {B : Nat} {v : Value} {xs : List X} (h : XR w B v xs) : ∃ p c, v = .slice p xs.length c ∧ FAt w (B ≤ ·) (rowF xs) p := by
  have ha : ∀ x ∈ xs, FAt w (B ≤ ·) x.t.args x.p := fun x hx => FAt.mono (fun g _ hg => hg.1) _ _ (h.args x hx)
  rcases h.own.2 with ⟨rfl, h0⟩ | ⟨g, cap, cur, rfl, hB, hg, r⟩
  · have : xs = [] := List.eq_nil_of_length_eq_zero h0
    subst this
    exact ⟨none, 0, rfl, trivial⟩
  · refine ⟨some ⟨g, 0, none⟩, cap, rfl, FAt.of_cells hB (Array.getElem?_eq_some_iff.1 hg).1 xs 0 (fun j u hu => ?_) ha⟩
    have := World.ownsRow.cells h.own (g := g) rfl j u hu
    have hadd : (⟨g, 0, none⟩ : Addr).add j = ⟨g, j, none⟩ := by unfold Addr.add; split <;> simp_all
    rw [hadd] at this
    rw [Nat.zero_add]; exact this
theorem app_x (B : Nat) (v : Value) (xs : List X) (w : World) (h : XR w B v xs) (hB : B ≤ w.heap.size) (hn : xs.length ≤ 100000) (x : X) (hx : FAt w (fun g => B ≤ g ∧ some g ≠ v.ownBlock) x.t.args x.p) (H : Nat) (hH : w.heap.size = H) :
    ∃ v' w', (Builtin.append_ #[22, 22] 22 #[v, .slice (some ⟨H, 0, none⟩) 1 1]).run Tryz.prog (w.alloc (.cells #[.int .i64 x.t.op, .int .i64 x.t.num, .string (S x.t.text), .slice x.p x.t.args.len x.c] 24)) = .ok v' w' ∧
      XR w' B v' (xs ++ [x]) ∧ Below B w w' ∧ w.heap.size < w'.heap.size ∧ Kept (fun g => some g ≠ v.ownBlock) w w' := by
  subst hH
  obtain ⟨i0, hi, hz0, hz1, hz2⟩ := info_parts infoX
  have hown := World.ownsRow.alloc h.own (.cells #[.int .i64 x.t.op, .int .i64 x.t.num, .string (S x.t.text), .slice x.p x.t.args.len x.c] 24)
  have hnews : ∀ j u, (X.cells x)[j]? = some u → (w.alloc (.cells #[.int .i64 x.t.op, .int .i64 x.t.num, .string (S x.t.text), .slice x.p x.t.args.len x.c] 24)).cell? ((⟨w.heap.size, 0, none⟩ : Addr).add j) = some u := by
    intro j u hj
    have hadd : (⟨w.heap.size, 0, none⟩ : Addr).add j = ⟨w.heap.size, j, none⟩ := by unfold Addr.add; split <;> simp_all
    rw [hadd, cell_of_row _ w.heap.size j _ _ (0, 0) (heap_alloc_new w _)]
    simpa [X.cells] using hj
  have h1 : ∀ u ∈ X.cells x, u.oneCell' = true := by
    intro u hu
    simp only [X.cells, List.mem_cons, List.not_mem_nil, or_false] at hu
    rcases hu with rfl | rfl | rfl | rfl <;> rfl
  obtain ⟨v', w', hr, h2, h3, _, h5⟩ := run_append_own_at (P := Tryz.prog) (w.alloc (.cells #[.int .i64 x.t.op, .int .i64 x.t.num, .string (S x.t.text), .slice x.p x.t.args.len x.c] 24)) B 22 22 24 i0 _ 4 56 Tryz.underlying22 hi hz0 hz1 hz2 rfl (by decide) v xs.length (xsC xs) hown ⟨w.heap.size, 0, none⟩ 1 1 (X.cells x) rfl hnews h1 (by unfold maxLen; omega) (by omega) (by simp; omega)
  have hk0 : Kept (fun g => some g ≠ v.ownBlock) w (w.alloc (.cells #[.int .i64 x.t.op, .int .i64 x.t.num, .string (S x.t.text), .slice x.p x.t.args.len x.c] 24)) := Kept.of_below ((Below.refl _ _).alloc (Nat.le_refl _) _)
  have hk1 : Kept (fun g => some g ≠ v.ownBlock) w w' := hk0.trans (Kept.of_grown h3 (fun g hg => hg))
  have hsz := h3.size
  simp at hsz
  have hne : ∀ g, g < w.heap.size → some g ≠ v.ownBlock → some g ≠ v'.ownBlock := fun g hg hn => by
    rcases h5 with h5 | h5
    · rw [h5]; exact hn
    · rw [h5]; simp; omega
  refine ⟨v', w', hr, ⟨?_, fun y hy => ?_⟩, ((Below.refl _ _).alloc hB _).grown h3 (by simp; omega) (fun k hk => (World.ownsRow.lt h.own k hk).1), by omega, hk1⟩
  · rw [xsC_append, List.length_append]
    simpa [xsC] using h2
  · have key : ∀ l p, FAt w (fun g => B ≤ g ∧ some g ≠ v.ownBlock) l p → FAt w' (fun g => B ≤ g ∧ some g ≠ v'.ownBlock) l p := fun l p hl => by
      have a1 := FAt.mono (ok' := fun g => (B ≤ g ∧ some g ≠ v.ownBlock) ∧ some g ≠ v'.ownBlock) (fun g hg hg2 => ⟨hg2, hne g hg hg2.2⟩) l p hl
      have a2 := a1.keep (hk1.mono fun g hg => hg.1.2)
      exact FAt.mono (fun g _ hg => ⟨hg.1.1, hg.2⟩) l p a2
    rcases List.mem_append.1 hy with hy | hy
    · exact key _ _ (h.args y hy)
    · obtain rfl : y = x := by simpa using hy
      exact key _ _ hx
theorem app_y (B : Nat) (v : Value) (n : Nat) (cs : List Value) (w : World) (h : w.ownsRow B 24 4 v n cs) (hB : B ≤ w.heap.size) (hn : n ≤ 100000) (o m : Int) (t : List UInt8) (q : Option Addr) (k c : Nat) (H : Nat) (hH : w.heap.size = H) :
    ∃ p c' w', (Builtin.append_ #[22, 22] 22 #[v, .slice (some ⟨H, 0, none⟩) 1 1]).run Tryz.prog (w.alloc (.cells #[.int .i64 o, .int .i64 m, .string (S t), .slice q k c] 24)) = .ok (.slice p (n + 1) c') w' ∧
      Below B w w' ∧ w.heap.size < w'.heap.size := by
  subst hH
  obtain ⟨i0, hi, hz0, hz1, hz2⟩ := info_parts infoX
  have hown := World.ownsRow.alloc h (.cells #[.int .i64 o, .int .i64 m, .string (S t), .slice q k c] 24)
  have hnews : ∀ j u, [Value.int .i64 o, .int .i64 m, .string (S t), .slice q k c][j]? = some u → (w.alloc (.cells #[.int .i64 o, .int .i64 m, .string (S t), .slice q k c] 24)).cell? ((⟨w.heap.size, 0, none⟩ : Addr).add j) = some u := by
    intro j u hj
    have hadd : (⟨w.heap.size, 0, none⟩ : Addr).add j = ⟨w.heap.size, j, none⟩ := by unfold Addr.add; split <;> simp_all
    rw [hadd, cell_of_row _ w.heap.size j _ _ (0, 0) (heap_alloc_new w _)]
    simpa using hj
  have h1 : ∀ u ∈ [Value.int .i64 o, .int .i64 m, .string (S t), .slice q k c], u.oneCell' = true := by
    intro u hu
    simp only [List.mem_cons, List.not_mem_nil, or_false] at hu
    rcases hu with rfl | rfl | rfl | rfl <;> rfl
  obtain ⟨v', w', hr, h2, h3, _, h5⟩ := run_append_own_at (P := Tryz.prog) (w.alloc (.cells #[.int .i64 o, .int .i64 m, .string (S t), .slice q k c] 24)) B 22 22 24 i0 _ 4 56 Tryz.underlying22 hi hz0 hz1 hz2 rfl (by decide) v n cs hown ⟨w.heap.size, 0, none⟩ 1 1 [.int .i64 o, .int .i64 m, .string (S t), .slice q k c] rfl hnews h1 (by unfold maxLen; omega) (by omega) (by simp; omega)
  have hsz := h3.size
  simp at hsz
  rcases h2.2 with ⟨_, h0⟩ | ⟨g, cap, cur, rfl, _⟩
  · omega
  · exact ⟨_, _, w', hr, ((Below.refl _ _).alloc hB _).grown h3 (by simp; omega) (fun k hk => (World.ownsRow.lt h k hk).1), by omega⟩
end Go.Proofs.YtlmmfhbdebfgkaaGreatDoor.Ex
namespace Go.Proofs.YtlmmfhbdebfgkaaGreatDoor.Ex
open Lx
structure Ends (ts : List TA) : Prop where
  pos : 0 < ts.length
  mid : ∀ i, i + 1 < ts.length → (tk ts i).kind ≠ 0
  last : (tk ts (ts.length - 1)).kind = 0
theorem Ends.next {ts : List TA} (h : Ends ts) {i : Nat} (hi : i < ts.length) (hk : (tk ts i).kind ≠ 0) : i + 1 < ts.length := by
  by_cases e : i + 1 < ts.length
  · exact e
  · obtain rfl : i = ts.length - 1 := by omega
    exact absurd h.last hk
structure StOk (ts : List TA) (s : St) : Prop where
  at_ : s.at_ < ts.length
  n : s.n ≤ 200
  op : s.open_ ≤ 20
structure Adv (ts : List TA) (s s' : St) (o : Nat) : Prop where
  at_ : s.at_ ≤ s'.at_
  lt : s'.at_ < ts.length
  n : s.n ≤ s'.n
  le : s'.n ≤ 200
  op : s'.open_ = o
theorem Adv.ok {ts : List TA} {s s' : St} {o : Nat} (h : Adv ts s s' o) (ho : o ≤ 20) : StOk ts s' := ⟨h.lt, h.le, by rw [h.op]; exact ho⟩
theorem Adv.from {ts : List TA} {s s1 s' : St} {o p : Nat} (h : Adv ts s s1 p) (k : Adv ts s1 s' o) : Adv ts s s' o := ⟨Nat.le_trans h.at_ k.at_, k.lt, Nat.le_trans h.n k.n, k.le, k.op⟩
theorem isS_kind {l : List TA} {i : Nat} {s : List UInt8} (h : isS l i s = true) : (tk l i).kind = 5 ∧ (tk l i).text = s := by
  simpa [isS] using h
theorem isS_ne {l : List TA} {i : Nat} {s : List UInt8} (h : isS l i s = true) : (tk l i).kind ≠ 0 := by rw [(isS_kind h).1]; decide
theorem opAt_kind {n : Nat} {t : TA} {x : Int × Bool} (h : opAt n t = some x) : t.kind = 5 := by
  unfold opAt at h
  split at h
  · assumption
  · cases h
theorem unAt_kind {t : TA} {x : Int} (h : unAt t = some x) : t.kind = 5 := by
  unfold unAt at h
  split at h
  · assumption
  · cases h
def RecOk (ts : List TA) (rec : St → R) : Prop := ∀ s t s', StOk ts s → rec s = .ok t s' → Adv ts s s' s.open_
theorem then_ok {r : R} {k : T → St → R} {t : T} {s : St} (h : r.then k = .ok t s) : ∃ x s1, r = .ok x s1 ∧ k x s1 = .ok t s := by
  cases r with
  | ok x s1 => exact ⟨x, s1, rfl, h⟩
  | bad e a => cases h
theorem leaf_st {ts : List TA} (he : Ends ts) {op num : Int} {text : List UInt8} {s s' : St} {t : T} (hs : StOk ts s) (hk : (tk ts s.at_).kind ≠ 0) (h : leafR op num text s = .ok t s') : Adv ts s s' s.open_ := by
  unfold leafR at h
  split at h
  · cases h
  · cases h
    have := he.next hs.at_ hk
    have := hs.n
    exact ⟨by simp, by simpa using by omega, by simp, by simp; omega, rfl⟩
theorem leave_st {ts : List TA} (he : Ends ts) {sign : List UInt8} {x t : T} {s s' : St} (hs : StOk ts s) (h : leaveR ts sign x s = .ok t s') : Adv ts s s' (s.open_ - 1) := by
  unfold leaveR at h
  split at h
  · rename_i hi
    cases h
    have := he.next hs.at_ (isS_ne hi)
    exact ⟨by simp, by simpa using this, Nat.le_refl _, hs.n, rfl⟩
  · cases h
theorem enter_st {ts : List TA} (he : Ends ts) {k : St → R} {t : T} {s s' : St} (hs : StOk ts s) (hk : (tk ts s.at_).kind ≠ 0) (h : enterR s k = .ok t s') :
    ∃ s1, s1 = ⟨s.at_ + 1, s.n + 1, s.open_ + 1⟩ ∧ StOk ts s1 ∧ k s1 = .ok t s' := by
  unfold enterR at h
  split at h
  · cases h
  · split at h
    · cases h
    · have := he.next hs.at_ hk
      have := hs.n
      have := hs.op
      exact ⟨_, rfl, ⟨by simpa using by omega, by simp; omega, by simp; omega⟩, h⟩
theorem loop_st {ts : List TA} (he : Ends ts) {rec : St → R} (hr : RecOk ts rec) {n : Nat} : ∀ (k : Nat) (x : T) (s : St) (t : T) (s' : St), StOk ts s → loopR rec ts n k x s = .ok t s' → Adv ts s s' s.open_
  | 0, x, s, t, s', hs, h => by
    unfold loopR at h
    cases h
    exact ⟨Nat.le_refl _, hs.at_, Nat.le_refl _, hs.n, rfl⟩
  | k + 1, x, s, t, s', hs, h => by
    unfold loopR at h
    split at h
    · cases h
      exact ⟨Nat.le_refl _, hs.at_, Nat.le_refl _, hs.n, rfl⟩
    · rename_i op turned ho
      split at h
      · cases h
      · obtain ⟨y, s2, h1, h2⟩ := then_ok h
        have hn := he.next hs.at_ (by rw [opAt_kind ho]; decide)
        have h3 := hs.n
        have ha : StOk ts ⟨s.at_ + 1, s.n + 1, s.open_⟩ := ⟨hn, by simp; omega, hs.op⟩
        have hb := hr _ _ _ ha h1
        have hb2 : Adv ts s s2 s.open_ := ⟨Nat.le_trans (Nat.le_succ _) hb.at_, hb.lt, Nat.le_trans (Nat.le_succ _) hb.n, hb.le, hb.op⟩
        split at h2
        · cases h2
          exact hb2
        · have hc := loop_st he hr k _ s2 t s' (hb2.ok hs.op) h2
          rw [hb2.op] at hc
          exact hb2.from hc
theorem args_st {ts : List TA} (he : Ends ts) {rec : St → R} (hr : RecOk ts rec) {op : Int} : ∀ (k : Nat) (acc : F) (s : St) (t : T) (s' : St), StOk ts s → argsR rec ts op k acc s = .ok t s' → Adv ts s s' (s.open_ - 1)
  | 0, acc, s, t, s', hs, h => leave_st he hs h
  | k + 1, acc, s, t, s', hs, h => by
    unfold argsR at h
    split at h
    · rename_i hi
      obtain ⟨y, s2, h1, h2⟩ := then_ok h
      have hn := he.next hs.at_ (isS_ne hi)
      have hb := hr _ _ _ (⟨hn, hs.n, hs.op⟩ : StOk ts ⟨s.at_ + 1, s.n, s.open_⟩) h1
      have hb2 : Adv ts s s2 s.open_ := ⟨Nat.le_trans (Nat.le_succ _) hb.at_, hb.lt, hb.n, hb.le, hb.op⟩
      have hc := args_st he hr k _ s2 t s' (hb2.ok hs.op) h2
      rw [hb2.op] at hc
      exact hb2.from hc
    · cases h
theorem call_st {ts : List TA} (he : Ends ts) {rec : St → R} (hr : RecOk ts rec) {op : Int} {n : Nat} {s s' : St} {t : T} (hs : StOk ts s) (hk : (tk ts s.at_).kind ≠ 0) (h : callR rec ts op n s = .ok t s') : Adv ts s s' s.open_ := by
  unfold callR at h
  split at h
  · rename_i hi
    have hn := he.next hs.at_ hk
    obtain ⟨s1, e1, ho1, h1⟩ := enter_st he (⟨hn, hs.n, hs.op⟩ : StOk ts ⟨s.at_ + 1, s.n, s.open_⟩) (isS_ne hi) h
    obtain ⟨y, s2, h2, h3⟩ := then_ok h1
    have hb := hr _ _ _ ho1 h2
    have hc := args_st he hr _ _ s2 t s' (hb.ok ho1.op) h3
    rw [hb.op] at hc
    have hd := hb.from hc
    subst e1
    exact ⟨Nat.le_trans (by simp; omega) hd.at_, hd.lt, Nat.le_trans (by simp) hd.n, hd.le, by simpa using hd.op⟩
  · cases h
theorem elems_st {ts : List TA} (he : Ends ts) {rec : St → R} (hr : RecOk ts rec) : ∀ (k : Nat) (acc : F) (s : St) (t : T) (s' : St), StOk ts s → elemsR rec ts k acc s = .ok t s' → Adv ts s s' (s.open_ - 1)
  | 0, acc, s, t, s', hs, h => by cases h
  | k + 1, acc, s, t, s', hs, h => by
    unfold elemsR at h
    split at h
    · rename_i hi
      cases h
      have := he.next hs.at_ (isS_ne hi)
      exact ⟨by simp, by simpa using this, Nat.le_refl _, hs.n, rfl⟩
    · split at h
      · obtain ⟨y, s2, h1, h2⟩ := then_ok h
        have hb := hr _ _ _ hs h1
        have hc := elems_st he hr k _ s2 t s' (hb.ok hs.op) h2
        rw [hb.op] at hc
        exact hb.from hc
      · split at h
        · rename_i hi
          split at h
          · split at h <;> cases h
          · obtain ⟨y, s2, h1, h2⟩ := then_ok h
            have hn := he.next hs.at_ (isS_ne hi)
            have hb := hr _ _ _ (⟨hn, hs.n, hs.op⟩ : StOk ts ⟨s.at_ + 1, s.n, s.open_⟩) h1
            have hb2 : Adv ts s s2 s.open_ := ⟨Nat.le_trans (Nat.le_succ _) hb.at_, hb.lt, hb.n, hb.le, hb.op⟩
            have hc := elems_st he hr k _ s2 t s' (hb2.ok hs.op) h2
            rw [hb2.op] at hc
            exact hb2.from hc
        · cases h
theorem field_st {ts : List TA} (he : Ends ts) {s s' : St} {t : T} (hs : StOk ts s) (hk : (tk ts s.at_).kind ≠ 0) (h : fieldR ts s = .ok t s') : Adv ts s s' s.open_ := by
  unfold fieldR at h
  split at h
  · rename_i hi
    have hn := he.next hs.at_ hk
    have hn2 := he.next hn (isS_ne hi)
    split at h
    · rename_i hf
      have := leaf_st he (⟨hn2, hs.n, hs.op⟩ : StOk ts ⟨s.at_ + 2, s.n, s.open_⟩) (by simp only; rw [hf]; decide) h
      exact ⟨Nat.le_trans (by simp) this.at_, this.lt, this.n, this.le, this.op⟩
    · cases h
  · cases h
theorem group_st {ts : List TA} (he : Ends ts) {rec : St → R} (hr : RecOk ts rec) {s s' : St} {t : T} (hs : StOk ts s) (hk : (tk ts s.at_).kind ≠ 0) (h : groupR rec ts s = .ok t s') : Adv ts s s' s.open_ := by
  unfold groupR at h
  split at h
  · cases h
  · rename_i ho
    obtain ⟨y, s2, h1, h2⟩ := then_ok h
    have hn := he.next hs.at_ hk
    have hop := hs.op
    have hb := hr _ _ _ (⟨hn, hs.n, by simp; omega⟩ : StOk ts ⟨s.at_ + 1, s.n, s.open_ + 1⟩) h1
    have hc := leave_st he (hb.ok (by simp; omega)) h2
    rw [hb.op] at hc
    have hd := hb.from hc
    exact ⟨Nat.le_trans (by simp) hd.at_, hd.lt, hd.n, hd.le, by simpa using hd.op⟩
theorem word_st {ts : List TA} (he : Ends ts) {rec : St → R} (hr : RecOk ts rec) {w : List UInt8} {s s' : St} {t : T} (hs : StOk ts s) (hk : (tk ts s.at_).kind ≠ 0) (h : wordR rec ts w s = .ok t s') : Adv ts s s' s.open_ := by
  unfold wordR at h
  repeat' split at h
  all_goals first | exact call_st he hr hs hk h | exact field_st he hs hk h | exact leaf_st he hs hk h
theorem prim_st {ts : List TA} (he : Ends ts) {rec : St → R} (hr : RecOk ts rec) {s s' : St} {t : T} (hs : StOk ts s) (h : primR rec ts s = .ok t s') : Adv ts s s' s.open_ := by
  unfold primR at h
  split at h
  · rename_i hk; exact word_st he hr hs (by rw [hk]; decide) h
  · split at h
    · rename_i hk; exact leaf_st he hs (by rw [hk]; decide) h
    · split at h
      · rename_i hk; exact leaf_st he hs (by rw [hk]; decide) h
      · split at h
        · rename_i hk; exact leaf_st he hs (by rw [hk]; decide) h
        · split at h
          · rename_i hk; exact group_st he hr hs (isS_ne hk) h
          · split at h
            · rename_i hk
              obtain ⟨s1, e1, ho1, h1⟩ := enter_st he hs (isS_ne hk) h
              have hd := elems_st he hr _ _ _ _ _ ho1 h1
              subst e1
              exact ⟨Nat.le_trans (by simp) hd.at_, hd.lt, Nat.le_trans (by simp) hd.n, hd.le, by simpa using hd.op⟩
            · cases h
theorem lv_st {ts : List TA} (he : Ends ts) : ∀ f n, RecOk ts (lv ts f n)
  | 0, n => fun s t s' hs h => by cases h
  | f + 1, n => fun s t s' hs h => by
    unfold lv at h
    split at h
    · split at h
      · rename_i op ho
        obtain ⟨s1, e1, ho1, h1⟩ := enter_st he hs (by rw [unAt_kind ho]; decide) h
        obtain ⟨x, s2, h2, h3⟩ := then_ok h1
        have hb := lv_st he f 5 _ _ _ ho1 h2
        cases h3
        subst e1
        exact ⟨Nat.le_trans (by simp) hb.at_, hb.lt, Nat.le_trans (by simp) hb.n, hb.le, by simp [hb.op]⟩
      · exact prim_st he (lv_st he f 0) hs h
    · obtain ⟨x, s1, h1, h2⟩ := then_ok h
      have hb := lv_st he f (n + 1) _ _ _ hs h1
      have hc := loop_st he (lv_st he f (n + 1)) _ _ _ _ _ (hb.ok hs.op) h2
      rw [hb.op] at hc
      exact hb.from hc
end Go.Proofs.YtlmmfhbdebfgkaaGreatDoor.Ex
namespace Go.Proofs.YtlmmfhbdebfgkaaGreatDoor.Ex
open Go.RowKit
open Lx
structure TsAt (w : World) (g : Nat) (ts : List TA) : Prop where
  lt : g < w.heap.size
  cells : ∀ i t, ts[i]? = some t → w.cell? ⟨g, i * 4, none⟩ = some (.int .i64 t.kind) ∧ w.cell? ⟨g, i * 4 + 1, none⟩ = some (.string (S t.text)) ∧ w.cell? ⟨g, i * 4 + 2, none⟩ = some (.int .i64 t.num) ∧ w.cell? ⟨g, i * 4 + 3, none⟩ = some (.int .i64 (t.at_ : Int))
theorem TsAt.keep {w w' : World} {g : Nat} {ts : List TA} {ok : Nat → Prop} (h : TsAt w g ts) (k : Kept ok w w') (hg : ok g) : TsAt w' g ts :=
  ⟨Nat.lt_of_lt_of_le h.lt k.size, fun i t hi => by
    obtain ⟨h0, h1, h2, h3⟩ := h.cells i t hi
    exact ⟨(k.cell hg h.lt).trans h0, (k.cell hg h.lt).trans h1, (k.cell hg h.lt).trans h2, (k.cell hg h.lt).trans h3⟩⟩
theorem TsAt.below {w w' : World} {g : Nat} {ts : List TA} (h : TsAt w g ts) (b : Below w.heap.size w w') : TsAt w' g ts := h.keep (Kept.of_below (ok := fun _ => True) b) trivial
theorem TsAt.tok {w : World} {g : Nat} {ts : List TA} (h : TsAt w g ts) {a : Nat} (ha : a < ts.length) :
    w.cell? ⟨g, a * 4, none⟩ = some (.int .i64 (tk ts a).kind) ∧ w.cell? ⟨g, a * 4 + 1, none⟩ = some (.string (S (tk ts a).text)) ∧ w.cell? ⟨g, a * 4 + 2, none⟩ = some (.int .i64 (tk ts a).num) ∧ w.cell? ⟨g, a * 4 + 3, none⟩ = some (.int .i64 ((tk ts a).at_ : Int)) := by
  have e : tk ts a = ts[a] := by simp [tk, List.getD_eq_getElem?_getD, ha]
  rw [e]
  exact h.cells a _ (List.getElem?_eq_getElem ha)
def Rdg (w : World) (b g cap len : Nat) (a n o bad fault : Int) : Prop :=
  w.heap[b]? = some (.cells #[.slice (some ⟨g, 0, none⟩) len cap, .int .i64 a, .int .i64 n, .int .i64 o, .int .i64 bad, .int .i64 fault] 149 (0, 0))
section
variable {w w' : World} {b g cap len : Nat} {a n o bad fault : Int}
theorem Rdg.c0 (h : Rdg w b g cap len a n o bad fault) : w.cell? ⟨b, 0, none⟩ = some (.slice (some ⟨g, 0, none⟩) len cap) := cell_of_row w b 0 _ _ (0, 0) h
theorem Rdg.c1 (h : Rdg w b g cap len a n o bad fault) : w.cell? ⟨b, 1, none⟩ = some (.int .i64 a) := cell_of_row w b 1 _ _ (0, 0) h
theorem Rdg.c2 (h : Rdg w b g cap len a n o bad fault) : w.cell? ⟨b, 2, none⟩ = some (.int .i64 n) := cell_of_row w b 2 _ _ (0, 0) h
theorem Rdg.c3 (h : Rdg w b g cap len a n o bad fault) : w.cell? ⟨b, 3, none⟩ = some (.int .i64 o) := cell_of_row w b 3 _ _ (0, 0) h
theorem Rdg.c4 (h : Rdg w b g cap len a n o bad fault) : w.cell? ⟨b, 4, none⟩ = some (.int .i64 bad) := cell_of_row w b 4 _ _ (0, 0) h
theorem Rdg.c5 (h : Rdg w b g cap len a n o bad fault) : w.cell? ⟨b, 5, none⟩ = some (.int .i64 fault) := cell_of_row w b 5 _ _ (0, 0) h
theorem Rdg.fz (h : Rdg w b g cap len a n o bad fault) (j : Nat) : w.frozen? ⟨b, j, none⟩ = false := frozen_of_row w b j _ _ h
theorem Rdg.lt (h : Rdg w b g cap len a n o bad fault) : b < w.heap.size := World.block_lt_of_cell? w _ h.c0
theorem Rdg.set1 (h : Rdg w b g cap len a n o bad fault) (v : Int) : Rdg (w.setCell ⟨b, 1, none⟩ (.int .i64 v)) b g cap len v n o bad fault := heap_setCell_same w b 1 _ _ _ h
theorem Rdg.set2 (h : Rdg w b g cap len a n o bad fault) (v : Int) : Rdg (w.setCell ⟨b, 2, none⟩ (.int .i64 v)) b g cap len a v o bad fault := heap_setCell_same w b 2 _ _ _ h
theorem Rdg.set3 (h : Rdg w b g cap len a n o bad fault) (v : Int) : Rdg (w.setCell ⟨b, 3, none⟩ (.int .i64 v)) b g cap len a n v bad fault := heap_setCell_same w b 3 _ _ _ h
theorem Rdg.set4 (h : Rdg w b g cap len a n o bad fault) (v : Int) : Rdg (w.setCell ⟨b, 4, none⟩ (.int .i64 v)) b g cap len a n o v fault := heap_setCell_same w b 4 _ _ _ h
theorem Rdg.set5 (h : Rdg w b g cap len a n o bad fault) (v : Int) : Rdg (w.setCell ⟨b, 5, none⟩ (.int .i64 v)) b g cap len a n o bad v := heap_setCell_same w b 5 _ _ _ h
theorem Rdg.keep {ok : Nat → Prop} (h : Rdg w b g cap len a n o bad fault) (k : Kept ok w w') (hb : ok b) : Rdg w' b g cap len a n o bad fault := (k.block b hb h.lt).trans h
theorem Rdg.below (h : Rdg w b g cap len a n o bad fault) (k : Below w.heap.size w w') : Rdg w' b g cap len a n o bad fault := (k.block b h.lt).trans h
end
def Only (b : Nat) (w w' : World) : Prop := w.grownBy w' (some b)
theorem Only.refl (b : Nat) (w : World) : Only b w w := ⟨rfl, rfl, rfl, Nat.le_refl _, fun _ _ _ => rfl⟩
theorem Only.of_below {b : Nat} {w w' : World} (h : Below w.heap.size w w') : Only b w w' := ⟨h.os, h.tape, h.output, h.size, fun k hk _ => h.block k hk⟩
theorem Only.trans {b : Nat} {x y z : World} (h : Only b x y) (k : Only b y z) : Only b x z :=
  ⟨k.os.trans h.os, k.tape.trans h.tape, k.output.trans h.output, Nat.le_trans h.size k.size, fun i hi hn => (k.block i (Nat.lt_of_lt_of_le hi h.size) hn).trans (h.block i hi hn)⟩
theorem Only.set (b : Nat) (w : World) (j : Nat) (v : Value) : Only b w (w.setCell ⟨b, j, none⟩ v) :=
  ⟨rfl, rfl, rfl, by simp, fun k _ hk => heap_setCell_other w ⟨b, j, none⟩ k v (fun e => hk (by simp [e]))⟩
theorem Only.set' {b : Nat} {w w' : World} (h : Only b w w') (j : Nat) (v : Value) : Only b w (w'.setCell ⟨b, j, none⟩ v) := h.trans (Only.set b w' j v)
theorem Only.kept {b : Nat} {w w' : World} (h : Only b w w') : Kept (· ≠ b) w w' := ⟨h.size, fun g hg hl => h.block g hl (by simpa using hg)⟩
theorem Only.below {B b : Nat} {x w w' : World} (h : Below B x w) (k : Only b w w') (hB : B ≤ w.heap.size) (hb : B ≤ b) : Below B x w' :=
  h.grown k hB (fun i hi => by simp at hi; omega)
theorem Only.ts {b g : Nat} {w w' : World} {ts : List TA} (h : Only b w w') (t : TsAt w g ts) (hne : g ≠ b) : TsAt w' g ts := t.keep h.kept hne
end Go.Proofs.YtlmmfhbdebfgkaaGreatDoor.Ex
