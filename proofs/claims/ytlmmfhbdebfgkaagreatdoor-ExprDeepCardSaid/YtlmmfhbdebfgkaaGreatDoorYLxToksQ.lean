/-
  LxToks, ExTree, ExTp, ExPrs.
-/
import Derived.Test.YtlmmfhbdebfgkaaGreatDoorYLxFirstQ
import Derived.Test.YtlmmfhbdebfgkaaGreatDoorYExPureQ
import Derived.Test.YtlmmfhbdebfgkaaGreatDoorYLxBackQ
namespace Go.Proofs.YtlmmfhbdebfgkaaGreatDoor.Lx
open Go.RowKit
open Va
structure TokAt (w : World) (g : Nat) (ts : List TA) : Prop where
  lt : g < w.heap.size
  cells : ∀ i t, ts[i]? = some t → w.cell? ⟨g, i * 4, none⟩ = some (.int .i64 t.kind) ∧ w.cell? ⟨g, i * 4 + 1, none⟩ = some (.string (S t.text)) ∧ w.cell? ⟨g, i * 4 + 2, none⟩ = some (.int .i64 t.num) ∧ w.cell? ⟨g, i * 4 + 3, none⟩ = some (.int .i64 (t.at_ : Int))
theorem TokAt.below {w w' : World} {g : Nat} {ts : List TA} (h : TokAt w g ts) (b : Below w.heap.size w w') : TokAt w' g ts :=
  ⟨Nat.lt_of_lt_of_le h.lt b.size, fun i t hi => by
    obtain ⟨h0, h1, h2, h3⟩ := h.cells i t hi
    exact ⟨(b.cell (p := ⟨g, i * 4, none⟩) h.lt).trans h0, (b.cell (p := ⟨g, i * 4 + 1, none⟩) h.lt).trans h1, (b.cell (p := ⟨g, i * 4 + 2, none⟩) h.lt).trans h2, (b.cell (p := ⟨g, i * 4 + 3, none⟩) h.lt).trans h3⟩⟩
theorem toksC_get : ∀ (ts : List TA) (i : Nat) (t : TA), ts[i]? = some t →
    (toksC ts)[i * 4]? = some (.int .i64 t.kind) ∧ (toksC ts)[i * 4 + 1]? = some (.string (S t.text)) ∧ (toksC ts)[i * 4 + 2]? = some (.int .i64 t.num) ∧ (toksC ts)[i * 4 + 3]? = some (.int .i64 (t.at_ : Int))
  | [], i, t, h => by simp at h
  | a :: ts, 0, t, h => by
    obtain rfl : a = t := by simpa using h
    exact ⟨rfl, rfl, rfl, rfl⟩
  | a :: ts, i + 1, t, h => by
    have ih := toksC_get ts i t (by simpa using h)
    have e : ∀ k, (toksC (a :: ts))[(i + 1) * 4 + k]? = (toksC ts)[i * 4 + k]? := fun k => by
      show ([Value.int .i64 a.kind, .string (S a.text), .int .i64 a.num, .int .i64 (a.at_ : Int)] ++ toksC ts)[(i + 1) * 4 + k]? = _
      rw [List.getElem?_append_right (by simp; omega)]
      congr 1
      simp; omega
    exact ⟨by rw [show (i + 1) * 4 = (i + 1) * 4 + 0 from rfl, e 0]; exact ih.1, by rw [e 1]; exact ih.2.1, by rw [e 2]; exact ih.2.2.1, by rw [e 3]; exact ih.2.2.2⟩
theorem Toks.at {w : World} {B : Nat} {v : Value} {ts : List TA} (h : Toks w B v ts) (hne : ts ≠ []) : ∃ g cap, v = .slice (some ⟨g, 0, none⟩) ts.length cap ∧ B ≤ g ∧ TokAt w g ts := by
  have hpos := List.length_pos_iff.2 hne
  rcases h.2 with ⟨_, h0⟩ | ⟨g, cap, cur, rfl, hB, hg, _⟩
  · omega
  · refine ⟨g, cap, rfl, hB, lt_of_heapV hg, fun i t hi => ?_⟩
    have hil := (List.getElem?_eq_some_iff.1 hi).1
    obtain ⟨h0, h1, h2, h3⟩ := toksC_get ts i t hi
    have c : ∀ k u, k < 4 → (toksC ts)[i * 4 + k]? = some u → w.cell? ⟨g, i * 4 + k, none⟩ = some u := fun k u hk hu => by
      have hl := toksC_length ts
      have := World.ownsRow.cells h (g := g) rfl (i * 4 + k) u hu
      have hadd : (⟨g, 0, none⟩ : Addr).add (i * 4 + k) = ⟨g, i * 4 + k, none⟩ := by unfold Addr.add; split <;> simp_all
      rw [hadd] at this
      exact this
    exact ⟨c 0 _ (by omega) h0, c 1 _ (by omega) h1, c 2 _ (by omega) h2, c 3 _ (by omega) h3⟩
set_option linter.unusedSimpArgs false
set_option maxRecDepth 100000 in
set_option maxHeartbeats 1600000 in
theorem scan_long (s : ByteArray) (hs : 8000 < s.size) (w : World) :
    Calls Tryz.prog 24 #[.string s] w fun e w' => e = .returned (.tuple #[.slice none 0 0, .int .i64 0, .int .i64 5]) ∧ Below w.heap.size w w' := by
  have hsi : (8000 : Int) < (s.size : Int) := by omega
  go_enter Tryz.func24, Tryz.ntmps24
  go_wp2_with fail
  go_ret3
  exact ⟨rfl, Below.refl _ _⟩
theorem scan_ok (s : ByteArray) (hs : s.size ≤ 8000) (w : World) (hL : Laid w) (ts : List TA) (h : scanM s.data.toList 0 = (ts, none)) :
    Calls Tryz.prog 24 #[.string s] w fun e w' => (∃ g cap, e = .returned (.tuple #[.slice (some ⟨g, 0, none⟩) ts.length cap, .int .i64 0, .int .i64 0]) ∧ w.heap.size ≤ g ∧ TokAt w' g ts) ∧ Below w.heap.size w w' := by
  refine (scan_any s hs w hL).mono ?_
  rintro e w' ⟨hr, hb⟩
  rw [h] at hr
  obtain ⟨v, rfl, ht⟩ := hr
  have hne : ts ≠ [] := by
    have := scan_ne s.data.toList 0 (by rw [h])
    rw [h] at this
    exact this
  obtain ⟨g, cap, rfl, hB, hta⟩ := ht.at hne
  exact ⟨⟨g, cap, rfl, hB, hta⟩, hb⟩
theorem scan_err (s : ByteArray) (hs : s.size ≤ 8000) (w : World) (hL : Laid w) (ts : List TA) (p : Nat) (h : scanM s.data.toList 0 = (ts, some p)) :
    Calls Tryz.prog 24 #[.string s] w fun e w' => e = .returned (.tuple #[.slice none 0 0, .int .i64 (p : Int), .int .i64 24]) ∧ Below w.heap.size w w' := by
  refine (scan_any s hs w hL).mono ?_
  rintro e w' ⟨hr, hb⟩
  rw [h] at hr
  exact ⟨hr, hb⟩
end Go.Proofs.YtlmmfhbdebfgkaaGreatDoor.Lx
namespace Go.Proofs.YtlmmfhbdebfgkaaGreatDoor.Ex
open Lx Va
def takenB (s : List UInt8) : Bool := s == wTrue || s == wFalse || s == wMsg || s == wLen || s == wAt || s == wPush
def cntB (o : Int) (len : Nat) : Bool :=
  if o = 5 then decide (len ≤ 16) else if 1 ≤ o ∧ o ≤ 7 then len == 0 else if 10 ≤ o ∧ o ≤ 12 then len == 1 else if 20 ≤ o ∧ o ≤ 26 ∨ 30 ≤ o ∧ o ≤ 33 ∨ o = 40 ∨ o = 41 then len == 2 else false
def formedB (o n : Int) (t : List UInt8) (len : Nat) : Bool :=
  cntB o len && (n == 0 || o == 1 || o == 3) && decide (0 ≤ n) && !(o == 3 && decide (1 < n)) && (t.isEmpty || o == 2 || o == 4 || o == 6 || o == 7) && !(o == 2 && decide (64 < t.length))
def namedB (o : Int) (t : List UInt8) : Bool := !(o == 4 || o == 6 || o == 7) || (nameB t && !(o == 6 && takenB t))
def chkF : F → Nat → Nat × Nat
  | .nil, n => (0, n)
  | .cons o nm t a r, n =>
    if 200 ≤ n then (27, n + 1) else if formedB o nm t a.len = false then (4, n + 1) else if namedB o t = false then (20, n + 1)
    else if (chkF a (n + 1)).1 = 0 then chkF r (chkF a (n + 1)).2 else chkF a (n + 1)
def T.chk (t : T) (n : Nat) : Nat × Nat := chkF t.row n
def bound (o : Int) : Nat :=
  if o = 41 then 0 else if o = 40 then 1 else if 30 ≤ o ∧ o ≤ 33 then 2 else if o = 23 ∨ o = 24 then 3 else if 20 ≤ o ∧ o ≤ 22 then 4 else if o = 10 ∨ o = 11 then 5 else 6
def signL (o : Int) : List UInt8 :=
  if o = 41 then [124, 124] else if o = 40 then [38, 38] else if o = 30 then [61, 61] else if o = 31 then [33, 61] else if o = 32 then [60] else if o = 33 then [60, 61]
  else if o = 23 then [43] else if o = 24 then [45] else if o = 20 then [42] else if o = 21 then [47] else [37]
structure Tx where
  op : Int
  text : List UInt8
  open_ : Nat
def Tx.within (x : Tx) (least : Nat) : List UInt8 × Nat := if bound x.op < least then ([40] ++ x.text ++ [41], x.open_ + 1) else (x.text, x.open_)
def commas : List Tx → List UInt8
  | [] => []
  | [x] => x.text
  | x :: r => x.text ++ [44, 32] ++ commas r
def most : List Tx → Nat
  | [] => 0
  | x :: r => max x.open_ (most r)
def leafL (o n : Int) (t : List UInt8) : List UInt8 :=
  if o = 1 then printV ⟨1, n, [], []⟩ else if o = 2 then printV ⟨3, 0, t, []⟩ else if o = 3 then printV ⟨2, n, [], []⟩ else if o = 4 then 39 :: t else if o = 7 then wMsg ++ [46] ++ t else t
def nodeTx (o n : Int) (t : List UInt8) (l : List Tx) : Tx :=
  if o = 10 ∨ o = 11 then (match l with
    | x :: _ => let p := x.within 5; ⟨o, (if o = 10 then [33] else [45]) ++ p.1, p.2 + 1⟩
    | [] => ⟨o, [], 0⟩)
  else if o = 5 then ⟨o, [91] ++ commas l ++ [93], most l + 1⟩
  else if o = 12 then ⟨o, wLen ++ [40] ++ commas l ++ [41], most l + 1⟩
  else if o = 25 then ⟨o, wAt ++ [40] ++ commas l ++ [41], most l + 1⟩
  else if o = 26 then ⟨o, wPush ++ [40] ++ commas l ++ [41], most l + 1⟩
  else if o < 10 then ⟨o, leafL o n t, 0⟩
  else match l with
    | x :: y :: _ => let p := x.within (if bound o = 2 then 3 else bound o); let q := y.within (bound o + 1); ⟨o, p.1 ++ [32] ++ signL o ++ [32] ++ q.1, max p.2 q.2⟩
    | _ => ⟨o, [], 0⟩
def txF : F → List Tx
  | .nil => []
  | .cons o n t a r => nodeTx o n t (txF a) :: txF r
def T.tx (t : T) : Tx := nodeTx t.op t.num t.text (txF t.args)
def printM (t : T) : List UInt8 × Nat := if (t.chk 0).1 ≠ 0 then ([], (t.chk 0).1) else if 20 < t.tx.open_ then ([], 26) else (t.tx.text, 0)
end Go.Proofs.YtlmmfhbdebfgkaaGreatDoor.Ex
namespace Go.Proofs.YtlmmfhbdebfgkaaGreatDoor.Ex
open Lx Va
set_option linter.unusedVariables false
set_option linter.unusedSimpArgs false
abbrev Bare := Int × List UInt8 × Int
abbrev Pc := Option Bare
def sg (s : List UInt8) : Bare := (5, s, 0)
def spB (t : Bare) : List UInt8 := spellM t.1 t.2.1 t.2.2
def spP : Pc → List UInt8
  | none => [32]
  | some t => spB t
def flat (l : List Pc) : List UInt8 := l.flatMap spP
def toks (l : List Pc) : List Bare := l.filterMap id
theorem flat_append (a b : List Pc) : flat (a ++ b) = flat a ++ flat b := by simp [flat]
theorem toks_append (a b : List Pc) : toks (a ++ b) = toks a ++ toks b := by simp [toks]
theorem flat_cons (p : Pc) (l : List Pc) : flat (p :: l) = spP p ++ flat l := by simp [flat]
theorem toks_some (t : Bare) (l : List Pc) : toks (some t :: l) = t :: toks l := by simp [toks]
theorem toks_none (l : List Pc) : toks (none :: l) = toks l := by simp [toks]
theorem flat_nil : flat [] = [] := rfl
theorem toks_nil : toks [] = [] := rfl
structure Tp where
  op : Int
  ps : List Pc
  open_ : Nat
def Tp.tx (y : Tp) : Tx := ⟨y.op, flat y.ps, y.open_⟩
def Tp.within (x : Tp) (least : Nat) : List Pc × Nat := if bound x.op < least then (some (sg [40]) :: (x.ps ++ [some (sg [41])]), x.open_ + 1) else (x.ps, x.open_)
def commaP : List Tp → List Pc
  | [] => []
  | [x] => x.ps
  | x :: r => x.ps ++ some (sg [44]) :: none :: commaP r
def mostP : List Tp → Nat
  | [] => 0
  | x :: r => max x.open_ (mostP r)
def leafP (o n : Int) (t : List UInt8) : List Pc :=
  if o = 1 then [some (2, decZ n, n)] else if o = 2 then [some (3, t, 0)] else if o = 3 then [some (1, if n = 1 then wTrue else wFalse, 0)] else if o = 4 then [some (4, t, 0)]
  else if o = 7 then [some (1, wMsg, 0), some (sg [46]), some (1, t, 0)] else [some (1, t, 0)]
def callP (w : List UInt8) (l : List Tp) : List Pc := some (1, w, 0) :: some (sg [40]) :: (commaP l ++ [some (sg [41])])
def nodeTp (o n : Int) (t : List UInt8) (l : List Tp) : Tp :=
  if o = 10 ∨ o = 11 then (match l with
    | x :: _ => ⟨o, some (sg (if o = 10 then [33] else [45])) :: (x.within 5).1, (x.within 5).2 + 1⟩
    | [] => ⟨o, [], 0⟩)
  else if o = 5 then ⟨o, some (sg [91]) :: (commaP l ++ [some (sg [93])]), mostP l + 1⟩
  else if o = 12 then ⟨o, callP wLen l, mostP l + 1⟩
  else if o = 25 then ⟨o, callP wAt l, mostP l + 1⟩
  else if o = 26 then ⟨o, callP wPush l, mostP l + 1⟩
  else if o < 10 then ⟨o, leafP o n t, 0⟩
  else match l with
    | x :: y :: _ => ⟨o, (x.within (if bound o = 2 then 3 else bound o)).1 ++ none :: some (sg (signL o)) :: none :: (y.within (bound o + 1)).1, max (x.within (if bound o = 2 then 3 else bound o)).2 (y.within (bound o + 1)).2⟩
    | _ => ⟨o, [], 0⟩
def tpF : F → List Tp
  | .nil => []
  | .cons o n t a r => nodeTp o n t (tpF a) :: tpF r
def T.tp (t : T) : Tp := nodeTp t.op t.num t.text (tpF t.args)
theorem spB_sign (s : List UInt8) : spB (sg s) = s := by simp [spB, sg, spellM]
theorem spB_name (s : List UInt8) : spB (1, s, 0) = s := by simp [spB, spellM]
theorem within_tx (y : Tp) (k : Nat) : y.tx.within k = (flat (y.within k).1, (y.within k).2) := by
  unfold Tx.within Tp.within Tp.tx
  simp only
  split
  · simp [flat_cons, flat_append, spP, spB_sign, flat_nil]
  · rfl
theorem commas_tx : ∀ l : List Tp, commas (l.map Tp.tx) = flat (commaP l)
  | [] => rfl
  | [x] => rfl
  | x :: y :: r => by
    have ih := commas_tx (y :: r)
    show x.tx.text ++ [44, 32] ++ commas ((y :: r).map Tp.tx) = flat (x.ps ++ some (sg [44]) :: none :: commaP (y :: r))
    rw [ih, flat_append, flat_cons, flat_cons]
    simp [spP, spB_sign, Tp.tx]
theorem most_tx : ∀ l : List Tp, most (l.map Tp.tx) = mostP l
  | [] => rfl
  | x :: r => by
    show max x.open_ (most (r.map Tp.tx)) = max x.open_ (mostP r)
    rw [most_tx r]
theorem leaf_tx (o n : Int) (t : List UInt8) : flat (leafP o n t) = leafL o n t := by
  unfold leafP leafL
  split
  · simp [flat_cons, flat_nil, spP, spB, spellM, printV]
  split
  · simp [flat_cons, flat_nil, spP, spB, spellM, printV]
  split
  · rename_i h1 h2 h3
    simp only [flat_cons, flat_nil, spP, spB_name, printV]
    by_cases h : n = 1
    · subst h; simp [wTrue]
    · simp [h, wFalse]
  split
  · simp [flat_cons, flat_nil, spP, spB, spellM]
  split
  · simp [flat_cons, flat_nil, spP, spB_name, spB_sign]
  · simp [flat_cons, flat_nil, spP, spB_name]
theorem call_tx (w : List UInt8) (l : List Tp) : flat (callP w l) = w ++ [40] ++ flat (commaP l) ++ [41] := by
  simp [callP, flat_cons, flat_append, flat_nil, spP, spB_name, spB_sign]
theorem node_tx (o n : Int) (t : List UInt8) (l : List Tp) : nodeTx o n t (l.map Tp.tx) = (nodeTp o n t l).tx := by
  unfold nodeTx nodeTp
  split
  · cases l with
    | nil => rfl
    | cons x r =>
      simp only [List.map_cons, within_tx]
      simp only [Tp.tx, flat_cons, spP, spB_sign]
  split
  · simp only [commas_tx, most_tx, Tp.tx, flat_cons, flat_append, flat_nil, spP, spB_sign, List.append_nil, List.append_assoc]
  split
  · simp only [commas_tx, most_tx, Tp.tx, call_tx]
  split
  · simp only [commas_tx, most_tx, Tp.tx, call_tx]
  split
  · simp only [commas_tx, most_tx, Tp.tx, call_tx]
  split
  · simp only [Tp.tx, leaf_tx]
  match l with
  | [] => rfl
  | [x] => rfl
  | x :: y :: r =>
    simp only [List.map_cons, within_tx]
    simp only [Tp.tx, flat_append, flat_cons, spP, spB_sign, List.append_assoc, List.singleton_append, List.cons_append, List.nil_append]
theorem txF_tp : ∀ f : F, txF f = (tpF f).map Tp.tx
  | .nil => rfl
  | .cons o n t a r => by
    show nodeTx o n t (txF a) :: txF r = (nodeTp o n t (tpF a)).tx :: (tpF r).map Tp.tx
    rw [txF_tp a, txF_tp r, node_tx]
theorem T.tx_tp (t : T) : t.tx = t.tp.tx := by
  unfold T.tx T.tp
  rw [txF_tp, node_tx]
def F.size : F → Nat
  | .nil => 0
  | .cons _ _ _ a r => a.size + 1 + r.size
def WfF : F → Prop
  | .nil => True
  | .cons o n t a r => formedB o n t a.len = true ∧ namedB o t = true ∧ WfF a ∧ WfF r
theorem wf_chk : ∀ (f : F) (n : Nat), WfF f → n + f.size ≤ 200 → (chkF f n).1 = 0 ∧ (chkF f n).2 = n + f.size
  | .nil, n, _, _ => ⟨rfl, rfl⟩
  | .cons o nm t a r, n, ⟨h2, h3, w1, w2⟩, h => by
    simp only [F.size] at h
    obtain ⟨i1, i2⟩ := wf_chk a (n + 1) w1 (by omega)
    obtain ⟨j1, j2⟩ := wf_chk r (chkF a (n + 1)).2 w2 (by rw [i2]; omega)
    unfold chkF
    rw [if_neg (by omega), h2, h3]
    simp only [Bool.true_eq_false, ↓reduceIte, i1, j1, true_and]
    rw [j2, i2]; simp only [F.size]; omega
end Go.Proofs.YtlmmfhbdebfgkaaGreatDoor.Ex
namespace Go.Proofs.YtlmmfhbdebfgkaaGreatDoor.Ex
open Lx Va
set_option linter.unusedVariables false
set_option linter.unusedSimpArgs false
def T.size (x : T) : Nat := x.args.size + 1
def Has (ts : List TA) : Nat → List Bare → Prop
  | _, [] => True
  | i, t :: r => bare (tk ts i) = t ∧ Has ts (i + 1) r
theorem Has.app {ts : List TA} : ∀ (a : List Bare) {i : Nat} {b : List Bare}, Has ts i (a ++ b) → Has ts i a ∧ Has ts (i + a.length) b
  | [], i, b, h => ⟨trivial, h⟩
  | t :: r, i, b, h => by
    obtain ⟨h1, h2⟩ := h
    obtain ⟨h3, h4⟩ := Has.app r h2
    refine ⟨⟨h1, h3⟩, ?_⟩
    rw [List.length_cons, show i + (r.length + 1) = i + 1 + r.length by omega]
    exact h4
theorem Has.mk {ts : List TA} : ∀ (a : List Bare) {i : Nat} {b : List Bare}, Has ts i a → Has ts (i + a.length) b → Has ts i (a ++ b)
  | [], i, b, _, h => h
  | t :: r, i, b, ⟨h1, h2⟩, h => ⟨h1, Has.mk r h2 (by rw [List.length_cons, show i + (r.length + 1) = i + 1 + r.length by omega] at h; exact h)⟩
def Stop (ts : List TA) (lev i : Nat) : Prop := ∀ m, lev ≤ m → opAt m (tk ts i) = none
theorem Stop.mono {ts : List TA} {a b i : Nat} (h : Stop ts a i) (hab : a ≤ b) : Stop ts b i := fun m hm => h m (by omega)
theorem bare_kind {ts : List TA} {i : Nat} {t : Bare} (h : bare (tk ts i) = t) : (tk ts i).kind = t.1 := congrArg Prod.fst h
theorem bare_text {ts : List TA} {i : Nat} {t : Bare} (h : bare (tk ts i) = t) : (tk ts i).text = t.2.1 := congrArg (fun p => p.2.1) h
theorem bare_num {ts : List TA} {i : Nat} {t : Bare} (h : bare (tk ts i) = t) : (tk ts i).num = t.2.2 := congrArg (fun p => p.2.2) h
theorem isS_sg {ts : List TA} {i : Nat} {s : List UInt8} (h : bare (tk ts i) = sg s) (s' : List UInt8) : isS ts i s' = (s == s') := by
  unfold isS
  rw [bare_kind h, bare_text h]; rfl
theorem isS_no {ts : List TA} {i : Nat} {t : Bare} (h : bare (tk ts i) = t) (hk : t.1 ≠ 5) (s' : List UInt8) : isS ts i s' = false := by
  unfold isS
  rw [bare_kind h]
  simp [hk]
theorem opAt_sg {ts : List TA} {i : Nat} {s : List UInt8} (h : bare (tk ts i) = sg s) (m : Nat) : opAt m (tk ts i) = opOf m s := by
  unfold opAt
  rw [bare_kind h, bare_text h]; rfl
theorem opAt_no {t : TA} (h : t.kind ≠ 5) (m : Nat) : opAt m t = none := by
  unfold opAt; rw [if_neg h]
theorem unAt_sg {ts : List TA} {i : Nat} {s : List UInt8} (h : bare (tk ts i) = sg s) : unAt (tk ts i) = if s = [33] then some 10 else if s = [45] then some 11 else none := by
  unfold unAt
  rw [bare_kind h, bare_text h]; rfl
theorem unAt_no {t : TA} (h : t.kind ≠ 5) : unAt t = none := by
  unfold unAt; rw [if_neg h]
theorem opOf_close {s : List UInt8} (hs : s = [93] ∨ s = [41] ∨ s = [44]) (m : Nat) : opOf m s = none := by
  rcases hs with rfl | rfl | rfl <;> (unfold opOf; split <;> simp)
theorem Stop.close {ts : List TA} {i : Nat} {s : List UInt8} (h : bare (tk ts i) = sg s) (hs : s = [93] ∨ s = [41] ∨ s = [44]) (lev : Nat) : Stop ts lev i := fun m _ => by
  rw [opAt_sg h, opOf_close hs]
theorem lv_low {ts : List TA} {f n : Nat} {s : St} (h : n ≠ 5) : lv ts (f + 1) n s = (lv ts f (n + 1) s).then fun x s1 => loopR (lv ts f (n + 1)) ts n 201 x s1 := by
  rw [lv, if_neg h]
theorem loopR_stop {rec : St → R} {l : List TA} {n k : Nat} {x : T} {s : St} (h : opAt n (tk l s.at_) = none) : loopR rec l n k x s = .ok x s := by
  cases k with
  | zero => rfl
  | succ k => unfold loopR; rw [h]
theorem lift {ts : List TA} {x : T} {s' : St} {b : Nat} (hb : b ≤ 5) : ∀ (d lev : Nat), lev + d = b → ∀ (f : Nat) (s : St), lv ts f b s = .ok x s' → Stop ts lev s'.at_ → lv ts (f + d) lev s = .ok x s'
  | 0, lev, h, f, s, h1, _ => by rw [show lev = b by omega]; exact h1
  | d + 1, lev, h, f, s, h1, hs => by
    have ih := lift hb d (lev + 1) (by omega) f s h1 (hs.mono (by omega))
    show lv ts (f + d + 1) lev s = _
    rw [lv_low (by omega), ih]
    exact loopR_stop (hs lev (Nat.le_refl _))
def Plain (x : T) (lev : Nat) : Prop := ∀ (ts : List TA) (f i n0 o0 : Nat), n0 + x.size ≤ 200 → o0 + x.tp.open_ ≤ 20 → Has ts i (toks x.tp.ps) → Stop ts lev (i + (toks x.tp.ps).length) → need lev ⟨i, n0, o0⟩ < f →
  lv ts f lev ⟨i, n0, o0⟩ = .ok x ⟨i + (toks x.tp.ps).length, n0 + x.size, o0⟩
def Main (x : T) : Prop := ∀ (lev : Nat), lev ≤ 5 → ∀ (ts : List TA) (f i n0 o0 : Nat), n0 + x.size ≤ 200 → o0 + (x.tp.within lev).2 ≤ 20 → Has ts i (toks (x.tp.within lev).1) → Stop ts lev (i + (toks (x.tp.within lev).1).length) → need lev ⟨i, n0, o0⟩ < f →
  lv ts f lev ⟨i, n0, o0⟩ = .ok x ⟨i + (toks (x.tp.within lev).1).length, n0 + x.size, o0⟩
theorem Plain.low {x : T} {b lev : Nat} (h : Plain x b) (hb : b ≤ 5) (hl : lev ≤ b) : Plain x lev := by
  intro ts f i n0 o0 hn ho hh hs hf
  unfold need at hf
  have e : f = (f - (b - lev)) + (b - lev) := by omega
  rw [e]
  exact lift hb (b - lev) lev (by omega) _ _ (h ts _ i n0 o0 hn ho hh (hs.mono hl) (by unfold need; omega)) hs
theorem within_no {y : Tp} {k : Nat} (h : ¬ bound y.op < k) : y.within k = (y.ps, y.open_) := by unfold Tp.within; rw [if_neg h]
theorem within_yes {y : Tp} {k : Nat} (h : bound y.op < k) : y.within k = (some (sg [40]) :: (y.ps ++ [some (sg [41])]), y.open_ + 1) := by unfold Tp.within; rw [if_pos h]
theorem nodeTp_op (o n : Int) (t : List UInt8) (l : List Tp) : (nodeTp o n t l).op = o := by
  unfold nodeTp
  repeat' split
  all_goals rfl
theorem T.tp_op (x : T) : x.tp.op = x.op := nodeTp_op _ _ _ _
theorem paren_toks (y : List Pc) : toks (some (sg [40]) :: (y ++ [some (sg [41])])) = sg [40] :: (toks y ++ [sg [41]]) := by
  rw [toks_some, toks_append, toks_some, toks_nil]
theorem prim_sg {rec : St → R} {l : List TA} {s : St} (h : bare (tk l s.at_) = sg [40]) : primR rec l s = groupR rec l s := by
  unfold primR
  rw [bare_kind h, isS_sg h]
  rfl
theorem lv5 {ts : List TA} {f : Nat} {s : St} (h : unAt (tk ts s.at_) = none) : lv ts (f + 1) 5 s = primR (lv ts f 0) ts s := by
  rw [lv, if_pos rfl, h]
theorem main_of {x : T} (h : Plain x (min (bound x.op) 5)) : Main x := by
  intro lev hlev ts f i n0 o0 hn ho hh hs hf
  by_cases hb : bound x.op < lev
  · have hw : x.tp.within lev = _ := within_yes (by rw [T.tp_op]; exact hb)
    rw [hw] at ho hh hs ⊢
    simp only [paren_toks, List.length_cons, List.length_append, List.length_nil] at ho hh hs ⊢
    obtain ⟨h1, h2⟩ := hh
    obtain ⟨h3, h4, _⟩ := Has.app _ h2
    have h0 : Plain x 0 := h.low (Nat.min_le_right _ _) (Nat.zero_le _)
    unfold need at hf
    simp only at hf
    have e : f = (f - 1 - (5 - lev)) + 1 + (5 - lev) := by omega
    rw [e]
    refine lift (Nat.le_refl 5) (5 - lev) lev (by omega) _ _ ?_ hs
    have hk : unAt (tk ts i) = none := by rw [unAt_sg h1]; rfl
    rw [lv5 hk, prim_sg h1]
    unfold groupR
    rw [if_neg (by show ¬ o0 = 20; omega)]
    have hr := h0 ts (f - 1 - (5 - lev)) (i + 1) n0 (o0 + 1) hn (by omega) h3 (Stop.close h4 (by simp) 0) (by unfold need; simp only; omega)
    simp only
    rw [hr]
    show leaveR ts [41] x _ = _
    unfold leaveR
    simp only
    rw [isS_sg h4, if_pos (by decide)]
    simp only [R.ok.injEq, St.mk.injEq, true_and]
    omega
  · have hw : x.tp.within lev = _ := within_no (by rw [T.tp_op]; exact hb)
    rw [hw] at ho hh hs ⊢
    exact h.low (Nat.min_le_right _ _) (by omega) ts f i n0 o0 hn ho hh hs hf
def Chain (x : T) : Prop := ∀ (m : Nat), m ≤ 4 → m ≠ 2 → ∀ (ts : List TA) (f i n0 o0 K : Nat), n0 + x.size ≤ 200 → o0 + (x.tp.within m).2 ≤ 20 → Has ts i (toks (x.tp.within m).1) → Stop ts (m + 1) (i + (toks (x.tp.within m).1).length) →
  need (m + 1) ⟨i, n0, o0⟩ < f → x.size ≤ K → ∃ K', K ≤ K' + x.size ∧ ((lv ts f (m + 1) ⟨i, n0, o0⟩).then fun y s1 => loopR (lv ts f (m + 1)) ts m K y s1) = loopR (lv ts f (m + 1)) ts m K' x ⟨i + (toks (x.tp.within m).1).length, n0 + x.size, o0⟩
theorem chain_of {x : T} (h : Main x) (m : Nat) (hm : m ≤ 4) (hb : bound x.op ≠ m) (ts : List TA) (f i n0 o0 K : Nat) (hn : n0 + x.size ≤ 200) (ho : o0 + (x.tp.within m).2 ≤ 20) (hh : Has ts i (toks (x.tp.within m).1)) (hs : Stop ts (m + 1) (i + (toks (x.tp.within m).1).length))
    (hf : need (m + 1) ⟨i, n0, o0⟩ < f) : ((lv ts f (m + 1) ⟨i, n0, o0⟩).then fun y s1 => loopR (lv ts f (m + 1)) ts m K y s1) = loopR (lv ts f (m + 1)) ts m K x ⟨i + (toks (x.tp.within m).1).length, n0 + x.size, o0⟩ := by
  have e : x.tp.within m = x.tp.within (m + 1) := by
    by_cases hlt : bound x.op < m
    · rw [within_yes (by rw [T.tp_op]; exact hlt), within_yes (by rw [T.tp_op]; omega)]
    · rw [within_no (by rw [T.tp_op]; exact hlt), within_no (by rw [T.tp_op]; omega)]
  rw [e] at ho hh hs ⊢
  rw [h (m + 1) (by omega) ts f i n0 o0 hn ho hh hs hf]
  rfl
theorem bin_sign {o : Int} (h : o = 41 ∨ o = 40 ∨ o = 30 ∨ o = 31 ∨ o = 32 ∨ o = 33 ∨ o = 23 ∨ o = 24 ∨ o = 20 ∨ o = 21 ∨ o = 22) : opOf (bound o) (signL o) = some (o, false) ∧ ∀ m, m ≠ bound o → opOf m (signL o) = none := by
  rcases h with rfl | rfl | rfl | rfl | rfl | rfl | rfl | rfl | rfl | rfl | rfl
  all_goals
    refine ⟨by rfl, fun m hm => ?_⟩
    simp only [signL, bound] at hm ⊢
    unfold opOf
    split <;> simp_all
theorem F.two_of {a : F} (h : a.len = 2) : ∃ x y : T, a = two x y := by
  match a, h with
  | .cons o n t a (.cons o' n' t' a' .nil), _ => exact ⟨⟨o, n, t, a⟩, ⟨o', n', t', a'⟩, rfl⟩
theorem F.one_of {a : F} (h : a.len = 1) : ∃ x : T, a = x.row := by
  match a, h with
  | .cons o n t a .nil, _ => exact ⟨⟨o, n, t, a⟩, rfl⟩
theorem F.none_of {a : F} (h : a.len = 0) : a = .nil := by
  match a, h with
  | .nil, _ => rfl
structure Frm (o n : Int) (t : List UInt8) (len : Nat) : Prop where
  cnt : cntB o len = true
  num : n = 0 ∨ o = 1 ∨ o = 3
  pos : 0 ≤ n
  bool : o = 3 → n ≤ 1
  text : t = [] ∨ o = 2 ∨ o = 4 ∨ o = 6 ∨ o = 7
  short : o = 2 → t.length ≤ 64
theorem frm {o n : Int} {t : List UInt8} {len : Nat} (h : formedB o n t len = true) : Frm o n t len := by
  unfold formedB at h
  simp only [Bool.and_eq_true, Bool.or_eq_true, beq_iff_eq, decide_eq_true_eq, Bool.not_eq_true', Bool.and_eq_false_iff, beq_eq_false_iff_ne, decide_eq_false_iff_not, List.isEmpty_iff] at h
  obtain ⟨⟨⟨⟨⟨h1, h2⟩, h3⟩, h4⟩, h5⟩, h6⟩ := h
  exact ⟨h1, by omega, h3, fun e => by rcases h4 with h | h <;> omega, by rcases h5 with (((h | h) | h) | h) | h <;> simp_all, fun e => by rcases h6 with h | h; exact absurd e h; omega⟩
theorem two_size (x y : T) : (two x y).size = x.size + y.size := by
  simp only [two, T.row, F.size, T.size] <;> omega
theorem tp_two {o n : Int} {t : List UInt8} {x y : T} (ho : o = 41 ∨ o = 40 ∨ o = 30 ∨ o = 31 ∨ o = 32 ∨ o = 33 ∨ o = 23 ∨ o = 24 ∨ o = 20 ∨ o = 21 ∨ o = 22) :
    T.tp ⟨o, n, t, two x y⟩ = ⟨o, (x.tp.within (if bound o = 2 then 3 else bound o)).1 ++ none :: some (sg (signL o)) :: none :: (y.tp.within (bound o + 1)).1, max (x.tp.within (if bound o = 2 then 3 else bound o)).2 (y.tp.within (bound o + 1)).2⟩ := by
  have e : tpF (two x y) = [x.tp, y.tp] := rfl
  show nodeTp o n t (tpF (two x y)) = _
  rw [e]
  unfold nodeTp
  rw [if_neg (by omega), if_neg (by omega), if_neg (by omega), if_neg (by omega), if_neg (by omega), if_neg (by omega)]
theorem bin_toks (o : Int) (p q : List Pc) : toks (p ++ none :: some (sg (signL o)) :: none :: q) = toks p ++ sg (signL o) :: toks q := by
  rw [toks_append, toks_none, toks_some, toks_none]
theorem loopR_op {rec : St → R} {l : List TA} {m k : Nat} {x y : T} {s s2 : St} {o : Int} (h : opAt m (tk l s.at_) = some (o, false)) (hn : s.n ≠ 200) (hr : rec ⟨s.at_ + 1, s.n + 1, s.open_⟩ = .ok y s2) :
    loopR rec l m (k + 1) x s = if m = 2 then .ok ⟨o, 0, [], two x y⟩ s2 else loopR rec l m k ⟨o, 0, [], two x y⟩ s2 := by
  rw [loopR, h]
  simp only
  rw [if_neg hn, hr]
  rfl
theorem bin_chain {o n : Int} {t : List UInt8} {x y : T} (hf : Frm o n t 2) (ho : o = 41 ∨ o = 40 ∨ o = 30 ∨ o = 31 ∨ o = 32 ∨ o = 33 ∨ o = 23 ∨ o = 24 ∨ o = 20 ∨ o = 21 ∨ o = 22) (hb2 : bound o ≠ 2) (hx : Chain x) (hy : Main y)
    (ts : List TA) (f i n0 o0 K : Nat) (hn : n0 + (two x y).size + 1 ≤ 200) (hop : o0 + (T.tp ⟨o, n, t, two x y⟩).open_ ≤ 20) (hh : Has ts i (toks (T.tp ⟨o, n, t, two x y⟩).ps)) (hs : Stop ts (bound o + 1) (i + (toks (T.tp ⟨o, n, t, two x y⟩).ps).length)) (hfu : need (bound o + 1) ⟨i, n0, o0⟩ < f) (hK : (two x y).size + 1 ≤ K) :
    ∃ K', K ≤ K' + ((two x y).size + 1) ∧ ((lv ts f (bound o + 1) ⟨i, n0, o0⟩).then fun z s1 => loopR (lv ts f (bound o + 1)) ts (bound o) K z s1) = loopR (lv ts f (bound o + 1)) ts (bound o) K' ⟨o, n, t, two x y⟩ ⟨i + (toks (T.tp ⟨o, n, t, two x y⟩).ps).length, n0 + ((two x y).size + 1), o0⟩ := by
  obtain ⟨hsg, hsn⟩ := bin_sign ho
  have hb : bound o ≤ 4 := by rcases ho with rfl | rfl | rfl | rfl | rfl | rfl | rfl | rfl | rfl | rfl | rfl <;> decide
  have e0 : n = 0 := by rcases hf.num with h | h | h <;> omega
  have e1 : t = [] := by rcases hf.text with h | h | h | h | h <;> first | exact h | omega
  subst e0 e1
  rw [tp_two ho] at hop hh hs ⊢
  rw [if_neg hb2] at hop hh hs ⊢
  simp only [bin_toks, List.length_append, List.length_cons] at hop hh hs ⊢
  rw [two_size] at hn hK ⊢
  obtain ⟨h1, h2, h3⟩ := Has.app _ hh
  have hstop : Stop ts (bound o + 1) (i + (toks (x.tp.within (bound o)).1).length) := fun m hm => by rw [opAt_sg h2]; exact hsn m (by omega)
  obtain ⟨K1, hK1, hc⟩ := hx (bound o) hb hb2 ts f i n0 o0 K (by omega) (by omega) h1 hstop hfu (by omega)
  rw [hc]
  have hy1 : 1 ≤ y.size := by unfold T.size; omega
  obtain ⟨K2, rfl⟩ : ∃ k, K1 = k + 1 := ⟨K1 - 1, by omega⟩
  have hr := hy (bound o + 1) (by omega) ts f (i + (toks (x.tp.within (bound o)).1).length + 1) (n0 + x.size + 1) o0 (by omega) (by omega) h3 (by rw [show i + (toks (x.tp.within (bound o)).1).length + 1 + (toks (y.tp.within (bound o + 1)).1).length = i + ((toks (x.tp.within (bound o)).1).length + ((toks (y.tp.within (bound o + 1)).1).length + 1)) by omega]; exact hs) (by unfold need at hfu ⊢; exact hfu)
  refine ⟨K2, by omega, ?_⟩
  rw [loopR_op (by rw [opAt_sg h2]; exact hsg) (by simp only; omega) hr, if_neg hb2]
  congr 2
  · omega
  · omega
theorem bin_plain {o n : Int} {t : List UInt8} {x y : T} (hf : Frm o n t 2) (ho : o = 41 ∨ o = 40 ∨ o = 30 ∨ o = 31 ∨ o = 32 ∨ o = 33 ∨ o = 23 ∨ o = 24 ∨ o = 20 ∨ o = 21 ∨ o = 22) (hx : Chain x) (hx' : Main x) (hy : Main y) : Plain ⟨o, n, t, two x y⟩ (bound o) := by
  have hb : bound o ≤ 4 := by rcases ho with rfl | rfl | rfl | rfl | rfl | rfl | rfl | rfl | rfl | rfl | rfl <;> decide
  intro ts f i n0 o0 hn hop hh hs hfu
  have hsz : T.size ⟨o, n, t, two x y⟩ = (two x y).size + 1 := rfl
  rw [hsz] at hn ⊢
  obtain ⟨f, rfl⟩ : ∃ g, f = g + 1 := ⟨f - 1, by unfold need at hfu; omega⟩
  rw [lv_low (by omega)]
  have hfu' : need (bound o + 1) ⟨i, n0, o0⟩ < f := by unfold need at hfu ⊢; simp only at hfu ⊢; omega
  by_cases hb2 : bound o = 2
  · obtain ⟨hsg, hsn⟩ := bin_sign ho
    have e0 : n = 0 := by rcases hf.num with h | h | h <;> first | exact h | (subst h; exact absurd hb2 (by decide))
    have e1 : t = [] := by rcases hf.text with h | h | h | h | h <;> first | exact h | (subst h; exact absurd hb2 (by decide))
    subst e0 e1
    rw [tp_two ho] at hop hh hs ⊢
    rw [if_pos hb2, hb2] at hop hh hs ⊢
    rw [hb2] at hfu' hsg hsn
    rw [show (2 : Nat) + 1 = 3 from rfl] at hop hh hs hfu' ⊢
    simp only [bin_toks, List.length_append, List.length_cons] at hop hh hs ⊢
    rw [two_size] at hn ⊢
    obtain ⟨h1, h2, h3⟩ := Has.app _ hh
    have hy1 : 1 ≤ y.size := by unfold T.size; omega
    have hl := hx' 3 (by omega) ts f i n0 o0 (by omega) (by omega) h1 (fun m hm => by rw [opAt_sg h2]; exact hsn m (by omega)) hfu'
    rw [hl]
    have hr := hy 3 (by omega) ts f (i + (toks (x.tp.within 3).1).length + 1) (n0 + x.size + 1) o0 (by omega) (by omega) h3 (by rw [show i + (toks (x.tp.within 3).1).length + 1 + (toks (y.tp.within 3).1).length = i + ((toks (x.tp.within 3).1).length + ((toks (y.tp.within 3).1).length + 1)) by omega]; exact hs.mono (by omega)) (by unfold need at hfu' ⊢; exact hfu')
    show loopR _ ts 2 201 x _ = _
    rw [loopR_op (by rw [opAt_sg h2]; exact hsg) (by simp only; omega) hr, if_pos rfl]
    simp only [R.ok.injEq, St.mk.injEq, true_and, two_size]
    exact ⟨by omega, by omega, trivial⟩
  · obtain ⟨K', _, hc⟩ := bin_chain hf ho hb2 hx hy ts f i n0 o0 201 (by omega) hop hh (hs.mono (by omega)) hfu' (by omega)
    rw [hc]
    exact loopR_stop (hs (bound o) (Nat.le_refl _))
end Go.Proofs.YtlmmfhbdebfgkaaGreatDoor.Ex
