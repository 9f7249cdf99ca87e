/-
  LxToks, ExTree, ExTp.
-/
import Derived.Test.YtlmmfhbdebfgkaaGreatDoorZLxFirstQ
import Derived.Test.YtlmmfhbdebfgkaaGreatDoorZExPureQ
import Derived.Test.YtlmmfhbdebfgkaaGreatDoorZLxBackQ
namespace Go.Proofs.YtlmmfhbdebfgkaaGreatDoor.Lx
open Go.RowKit
open Va
structure TokAt (w : World) (g : Nat) (ts : List TA) : Prop where
  lt : g < w.heap.size
  cells : ∀ i t, ts[i]? = some t → w.cell? ⟨g, i * 4, none⟩ = some (.int .i64 t.kind) ∧ w.cell? ⟨g, i * 4 + 1, none⟩ = some (.string (S t.text)) ∧ w.cell? ⟨g, i * 4 + 2, none⟩ = some (.int .i64 t.num) ∧ w.cell? ⟨g, i * 4 + 3, none⟩ = some (.int .i64 (t.at_ : Int))
theorem TokAt.below {w w' : World} {g : Nat} {ts : List TA} (h : TokAt w g ts) (b : Below w.heap.size w w') : TokAt w' g ts :=
  ⟨Nat.lt_of_lt_of_le h.lt b.size, fun i t hi => by
    obtain ⟨h0, h1, h2, h3⟩ := h.cells i t hi
    exact ⟨(b.cell (p := ⟨g, i * 4, none⟩) h.lt).trans h0, (b.cell (p := ⟨g, i * 4 + 1, none⟩) h.lt).trans h1, (b.cell (p := ⟨g, i * 4 + 2, none⟩) h.lt).trans h2, (b.cell (p := ⟨g, i * 4 + 3, none⟩) h.lt).trans h3⟩⟩
theorem toksC_get : ∀ (ts : List TA) (i : Nat) (t : TA), ts[i]? = some t →
    (toksC ts)[i * 4]? = some (.int .i64 t.kind) ∧ (toksC ts)[i * 4 + 1]? = some (.string (S t.text)) ∧ (toksC ts)[i * 4 + 2]? = some (.int .i64 t.num) ∧ (toksC ts)[i * 4 + 3]? = some (.int .i64 (t.at_ : Int))
  | [], i, t, h => by simp at h
  | a :: ts, 0, t, h => by
    obtain rfl : a = t := by simpa using h
    exact ⟨rfl, rfl, rfl, rfl⟩
  | a :: ts, i + 1, t, h => by
    have ih := toksC_get ts i t (by simpa using h)
    have e : ∀ k, (toksC (a :: ts))[(i + 1) * 4 + k]? = (toksC ts)[i * 4 + k]? := fun k => by
      show ([Value.int .i64 a.kind, .string (S a.text), .int .i64 a.num, .int .i64 (a.at_ : Int)] ++ toksC ts)[(i + 1) * 4 + k]? = _
      rw [List.getElem?_append_right (by simp; omega)]
      congr 1
      simp; omega
    exact ⟨by rw [show (i + 1) * 4 = (i + 1) * 4 + 0 from rfl, e 0]; exact ih.1, by rw [e 1]; exact ih.2.1, by rw [e 2]; exact ih.2.2.1, by rw [e 3]; exact ih.2.2.2⟩
theorem Toks.at {w : World} {B : Nat} {v : Value} {ts : List TA} (h : Toks w B v ts) (hne : ts ≠ []) : ∃ g cap, v = .slice (some ⟨g, 0, none⟩) ts.length cap ∧ B ≤ g ∧ TokAt w g ts := by
  have hpos := List.length_pos_iff.2 hne
  rcases h.2 with ⟨_, h0⟩ | ⟨g, cap, cur, rfl, hB, hg, _⟩
  · omega
  · refine ⟨g, cap, rfl, hB, lt_of_heapV hg, fun i t hi => ?_⟩
    have hil := (List.getElem?_eq_some_iff.1 hi).1
    obtain ⟨h0, h1, h2, h3⟩ := toksC_get ts i t hi
    have c : ∀ k u, k < 4 → (toksC ts)[i * 4 + k]? = some u → w.cell? ⟨g, i * 4 + k, none⟩ = some u := fun k u hk hu => by
      have hl := toksC_length ts
      have := World.ownsRow.cells h (g := g) rfl (i * 4 + k) u hu
      have hadd : (⟨g, 0, none⟩ : Addr).add (i * 4 + k) = ⟨g, i * 4 + k, none⟩ := by unfold Addr.add; split <;> simp_all
      rw [hadd] at this
      exact this
    exact ⟨c 0 _ (by omega) h0, c 1 _ (by omega) h1, c 2 _ (by omega) h2, c 3 _ (by omega) h3⟩
set_option linter.unusedSimpArgs false
set_option maxRecDepth 100000 in
set_option maxHeartbeats 1600000 in
theorem scan_long (s : ByteArray) (hs : 8000 < s.size) (w : World) :
    Calls Tryz.prog 24 #[.string s] w fun e w' => e = .returned (.tuple #[.slice none 0 0, .int .i64 0, .int .i64 5]) ∧ Below w.heap.size w w' := by
  have hsi : (8000 : Int) < (s.size : Int) := by omega
  go_enter Tryz.func24, Tryz.ntmps24
  go_wp2_with fail
  go_ret3
  exact ⟨rfl, Below.refl _ _⟩
theorem scan_ok (s : ByteArray) (hs : s.size ≤ 8000) (w : World) (hL : Laid w) (ts : List TA) (h : scanM s.data.toList 0 = (ts, none)) :
    Calls Tryz.prog 24 #[.string s] w fun e w' => (∃ g cap, e = .returned (.tuple #[.slice (some ⟨g, 0, none⟩) ts.length cap, .int .i64 0, .int .i64 0]) ∧ w.heap.size ≤ g ∧ TokAt w' g ts) ∧ Below w.heap.size w w' := by
  refine (scan_any s hs w hL).mono ?_
  rintro e w' ⟨hr, hb⟩
  rw [h] at hr
  obtain ⟨v, rfl, ht⟩ := hr
  have hne : ts ≠ [] := by
    have := scan_ne s.data.toList 0 (by rw [h])
    rw [h] at this
    exact this
  obtain ⟨g, cap, rfl, hB, hta⟩ := ht.at hne
  exact ⟨⟨g, cap, rfl, hB, hta⟩, hb⟩
theorem scan_err (s : ByteArray) (hs : s.size ≤ 8000) (w : World) (hL : Laid w) (ts : List TA) (p : Nat) (h : scanM s.data.toList 0 = (ts, some p)) :
    Calls Tryz.prog 24 #[.string s] w fun e w' => e = .returned (.tuple #[.slice none 0 0, .int .i64 (p : Int), .int .i64 24]) ∧ Below w.heap.size w w' := by
  refine (scan_any s hs w hL).mono ?_
  rintro e w' ⟨hr, hb⟩
  rw [h] at hr
  exact ⟨hr, hb⟩
end Go.Proofs.YtlmmfhbdebfgkaaGreatDoor.Lx
namespace Go.Proofs.YtlmmfhbdebfgkaaGreatDoor.Ex
open Lx Va
def takenB (s : List UInt8) : Bool := s == wTrue || s == wFalse || s == wMsg || s == wLen || s == wAt || s == wPush
def cntB (o : Int) (len : Nat) : Bool :=
  if o = 5 then decide (len ≤ 16) else if 1 ≤ o ∧ o ≤ 7 then len == 0 else if 10 ≤ o ∧ o ≤ 12 then len == 1 else if 20 ≤ o ∧ o ≤ 26 ∨ 30 ≤ o ∧ o ≤ 33 ∨ o = 40 ∨ o = 41 then len == 2 else false
def formedB (o n : Int) (t : List UInt8) (len : Nat) : Bool :=
  cntB o len && (n == 0 || o == 1 || o == 3) && decide (0 ≤ n) && !(o == 3 && decide (1 < n)) && (t.isEmpty || o == 2 || o == 4 || o == 6 || o == 7) && !(o == 2 && decide (64 < t.length))
def namedB (o : Int) (t : List UInt8) : Bool := !(o == 4 || o == 6 || o == 7) || (nameB t && !(o == 6 && takenB t))
def chkF : F → Nat → Nat × Nat
  | .nil, n => (0, n)
  | .cons o nm t a r, n =>
    if 200 ≤ n then (27, n + 1) else if formedB o nm t a.len = false then (4, n + 1) else if namedB o t = false then (20, n + 1)
    else if (chkF a (n + 1)).1 = 0 then chkF r (chkF a (n + 1)).2 else chkF a (n + 1)
def T.chk (t : T) (n : Nat) : Nat × Nat := chkF t.row n
def bound (o : Int) : Nat :=
  if o = 41 then 0 else if o = 40 then 1 else if 30 ≤ o ∧ o ≤ 33 then 2 else if o = 23 ∨ o = 24 then 3 else if 20 ≤ o ∧ o ≤ 22 then 4 else if o = 10 ∨ o = 11 then 5 else 6
def signL (o : Int) : List UInt8 :=
  if o = 41 then [124, 124] else if o = 40 then [38, 38] else if o = 30 then [61, 61] else if o = 31 then [33, 61] else if o = 32 then [60] else if o = 33 then [60, 61]
  else if o = 23 then [43] else if o = 24 then [45] else if o = 20 then [42] else if o = 21 then [47] else [37]
structure Tx where
  op : Int
  text : List UInt8
  open_ : Nat
def Tx.within (x : Tx) (least : Nat) : List UInt8 × Nat := if bound x.op < least then ([40] ++ x.text ++ [41], x.open_ + 1) else (x.text, x.open_)
def commas : List Tx → List UInt8
  | [] => []
  | [x] => x.text
  | x :: r => x.text ++ [44, 32] ++ commas r
def most : List Tx → Nat
  | [] => 0
  | x :: r => max x.open_ (most r)
def leafL (o n : Int) (t : List UInt8) : List UInt8 :=
  if o = 1 then printV ⟨1, n, [], []⟩ else if o = 2 then printV ⟨3, 0, t, []⟩ else if o = 3 then printV ⟨2, n, [], []⟩ else if o = 4 then 39 :: t else if o = 7 then wMsg ++ [46] ++ t else t
def nodeTx (o n : Int) (t : List UInt8) (l : List Tx) : Tx :=
  if o = 10 ∨ o = 11 then (match l with
    | x :: _ => let p := x.within 5; ⟨o, (if o = 10 then [33] else [45]) ++ p.1, p.2 + 1⟩
    | [] => ⟨o, [], 0⟩)
  else if o = 5 then ⟨o, [91] ++ commas l ++ [93], most l + 1⟩
  else if o = 12 then ⟨o, wLen ++ [40] ++ commas l ++ [41], most l + 1⟩
  else if o = 25 then ⟨o, wAt ++ [40] ++ commas l ++ [41], most l + 1⟩
  else if o = 26 then ⟨o, wPush ++ [40] ++ commas l ++ [41], most l + 1⟩
  else if o < 10 then ⟨o, leafL o n t, 0⟩
  else match l with
    | x :: y :: _ => let p := x.within (if bound o = 2 then 3 else bound o); let q := y.within (bound o + 1); ⟨o, p.1 ++ [32] ++ signL o ++ [32] ++ q.1, max p.2 q.2⟩
    | _ => ⟨o, [], 0⟩
def txF : F → List Tx
  | .nil => []
  | .cons o n t a r => nodeTx o n t (txF a) :: txF r
def T.tx (t : T) : Tx := nodeTx t.op t.num t.text (txF t.args)
def printM (t : T) : List UInt8 × Nat := if (t.chk 0).1 ≠ 0 then ([], (t.chk 0).1) else if 20 < t.tx.open_ then ([], 26) else (t.tx.text, 0)
end Go.Proofs.YtlmmfhbdebfgkaaGreatDoor.Ex
namespace Go.Proofs.YtlmmfhbdebfgkaaGreatDoor.Ex
open Lx Va
set_option linter.unusedVariables false
set_option linter.unusedSimpArgs false
abbrev Bare := Int × List UInt8 × Int
abbrev Pc := Option Bare
def sg (s : List UInt8) : Bare := (5, s, 0)
def spB (t : Bare) : List UInt8 := spellM t.1 t.2.1 t.2.2
def spP : Pc → List UInt8
  | none => [32]
  | some t => spB t
def flat (l : List Pc) : List UInt8 := l.flatMap spP
def toks (l : List Pc) : List Bare := l.filterMap id
theorem flat_append (a b : List Pc) : flat (a ++ b) = flat a ++ flat b := by simp [flat]
theorem toks_append (a b : List Pc) : toks (a ++ b) = toks a ++ toks b := by simp [toks]
theorem flat_cons (p : Pc) (l : List Pc) : flat (p :: l) = spP p ++ flat l := by simp [flat]
theorem toks_some (t : Bare) (l : List Pc) : toks (some t :: l) = t :: toks l := by simp [toks]
theorem toks_none (l : List Pc) : toks (none :: l) = toks l := by simp [toks]
theorem flat_nil : flat [] = [] := rfl
theorem toks_nil : toks [] = [] := rfl
structure Tp where
  op : Int
  ps : List Pc
  open_ : Nat
def Tp.tx (y : Tp) : Tx := ⟨y.op, flat y.ps, y.open_⟩
def Tp.within (x : Tp) (least : Nat) : List Pc × Nat := if bound x.op < least then (some (sg [40]) :: (x.ps ++ [some (sg [41])]), x.open_ + 1) else (x.ps, x.open_)
def commaP : List Tp → List Pc
  | [] => []
  | [x] => x.ps
  | x :: r => x.ps ++ some (sg [44]) :: none :: commaP r
def mostP : List Tp → Nat
  | [] => 0
  | x :: r => max x.open_ (mostP r)
def leafP (o n : Int) (t : List UInt8) : List Pc :=
  if o = 1 then [some (2, decZ n, n)] else if o = 2 then [some (3, t, 0)] else if o = 3 then [some (1, if n = 1 then wTrue else wFalse, 0)] else if o = 4 then [some (4, t, 0)]
  else if o = 7 then [some (1, wMsg, 0), some (sg [46]), some (1, t, 0)] else [some (1, t, 0)]
def callP (w : List UInt8) (l : List Tp) : List Pc := some (1, w, 0) :: some (sg [40]) :: (commaP l ++ [some (sg [41])])
def nodeTp (o n : Int) (t : List UInt8) (l : List Tp) : Tp :=
  if o = 10 ∨ o = 11 then (match l with
    | x :: _ => ⟨o, some (sg (if o = 10 then [33] else [45])) :: (x.within 5).1, (x.within 5).2 + 1⟩
    | [] => ⟨o, [], 0⟩)
  else if o = 5 then ⟨o, some (sg [91]) :: (commaP l ++ [some (sg [93])]), mostP l + 1⟩
  else if o = 12 then ⟨o, callP wLen l, mostP l + 1⟩
  else if o = 25 then ⟨o, callP wAt l, mostP l + 1⟩
  else if o = 26 then ⟨o, callP wPush l, mostP l + 1⟩
  else if o < 10 then ⟨o, leafP o n t, 0⟩
  else match l with
    | x :: y :: _ => ⟨o, (x.within (if bound o = 2 then 3 else bound o)).1 ++ none :: some (sg (signL o)) :: none :: (y.within (bound o + 1)).1, max (x.within (if bound o = 2 then 3 else bound o)).2 (y.within (bound o + 1)).2⟩
    | _ => ⟨o, [], 0⟩
def tpF : F → List Tp
  | .nil => []
  | .cons o n t a r => nodeTp o n t (tpF a) :: tpF r
def T.tp (t : T) : Tp := nodeTp t.op t.num t.text (tpF t.args)
theorem spB_sign (s : List UInt8) : spB (sg s) = s := by simp [spB, sg, spellM]
theorem spB_name (s : List UInt8) : spB (1, s, 0) = s := by simp [spB, spellM]
theorem within_tx (y : Tp) (k : Nat) : y.tx.within k = (flat (y.within k).1, (y.within k).2) := by
  unfold Tx.within Tp.within Tp.tx
  simp only
  split
  · simp [flat_cons, flat_append, spP, spB_sign, flat_nil]
  · rfl
theorem commas_tx : ∀ l : List Tp, commas (l.map Tp.tx) = flat (commaP l)
  | [] => rfl
  | [x] => rfl
  | x :: y :: r => by
    have ih := commas_tx (y :: r)
    show x.tx.text ++ [44, 32] ++ commas ((y :: r).map Tp.tx) = flat (x.ps ++ some (sg [44]) :: none :: commaP (y :: r))
    rw [ih, flat_append, flat_cons, flat_cons]
    simp [spP, spB_sign, Tp.tx]
theorem most_tx : ∀ l : List Tp, most (l.map Tp.tx) = mostP l
  | [] => rfl
  | x :: r => by
    show max x.open_ (most (r.map Tp.tx)) = max x.open_ (mostP r)
    rw [most_tx r]
theorem leaf_tx (o n : Int) (t : List UInt8) : flat (leafP o n t) = leafL o n t := by
  unfold leafP leafL
  split
  · simp [flat_cons, flat_nil, spP, spB, spellM, printV]
  split
  · simp [flat_cons, flat_nil, spP, spB, spellM, printV]
  split
  · rename_i h1 h2 h3
    simp only [flat_cons, flat_nil, spP, spB_name, printV]
    by_cases h : n = 1
    · subst h; simp [wTrue]
    · simp [h, wFalse]
  split
  · simp [flat_cons, flat_nil, spP, spB, spellM]
  split
  · simp [flat_cons, flat_nil, spP, spB_name, spB_sign]
  · simp [flat_cons, flat_nil, spP, spB_name]
theorem call_tx (w : List UInt8) (l : List Tp) : flat (callP w l) = w ++ [40] ++ flat (commaP l) ++ [41] := by
  simp [callP, flat_cons, flat_append, flat_nil, spP, spB_name, spB_sign]
theorem node_tx (o n : Int) (t : List UInt8) (l : List Tp) : nodeTx o n t (l.map Tp.tx) = (nodeTp o n t l).tx := by
  unfold nodeTx nodeTp
  split
  · cases l with
    | nil => rfl
    | cons x r =>
      simp only [List.map_cons, within_tx]
      simp only [Tp.tx, flat_cons, spP, spB_sign]
  split
  · simp only [commas_tx, most_tx, Tp.tx, flat_cons, flat_append, flat_nil, spP, spB_sign, List.append_nil, List.append_assoc]
  split
  · simp only [commas_tx, most_tx, Tp.tx, call_tx]
  split
  · simp only [commas_tx, most_tx, Tp.tx, call_tx]
  split
  · simp only [commas_tx, most_tx, Tp.tx, call_tx]
  split
  · simp only [Tp.tx, leaf_tx]
  match l with
  | [] => rfl
  | [x] => rfl
  | x :: y :: r =>
    simp only [List.map_cons, within_tx]
    simp only [Tp.tx, flat_append, flat_cons, spP, spB_sign, List.append_assoc, List.singleton_append, List.cons_append, List.nil_append]
theorem txF_tp : ∀ f : F, txF f = (tpF f).map Tp.tx
  | .nil => rfl
  | .cons o n t a r => by
    show nodeTx o n t (txF a) :: txF r = (nodeTp o n t (tpF a)).tx :: (tpF r).map Tp.tx
    rw [txF_tp a, txF_tp r, node_tx]
theorem T.tx_tp (t : T) : t.tx = t.tp.tx := by
  unfold T.tx T.tp
  rw [txF_tp, node_tx]
def F.size : F → Nat
  | .nil => 0
  | .cons _ _ _ a r => a.size + 1 + r.size
def WfF : F → Prop
  | .nil => True
  | .cons o n t a r => formedB o n t a.len = true ∧ namedB o t = true ∧ WfF a ∧ WfF r
theorem chk_wf : ∀ (f : F) (n : Nat), (chkF f n).1 = 0 → WfF f ∧ (chkF f n).2 = n + f.size ∧ (n ≤ 200 → n + f.size ≤ 200)
  | .nil, n, _ => ⟨trivial, rfl, fun h => h⟩
  | .cons o nm t a r, n, h => by
    unfold chkF at h ⊢
    by_cases h1 : 200 ≤ n
    · rw [if_pos h1] at h; cases h
    rw [if_neg h1] at h ⊢
    cases h2 : formedB o nm t a.len with
    | false => rw [h2] at h; simp at h
    | true =>
    rw [h2] at h
    simp only [Bool.true_eq_false, ↓reduceIte] at h ⊢
    cases h3 : namedB o t with
    | false => rw [h3] at h; simp at h
    | true =>
    rw [h3] at h
    simp only [Bool.true_eq_false, ↓reduceIte] at h ⊢
    by_cases h4 : (chkF a (n + 1)).1 = 0
    · rw [if_pos h4] at h ⊢
      obtain ⟨w1, e1, b1⟩ := chk_wf a (n + 1) h4
      obtain ⟨w2, e2, b2⟩ := chk_wf r _ h
      have b1' := b1 (by omega)
      rw [e1] at b2
      refine ⟨⟨h2, h3, w1, w2⟩, ?_, ?_⟩
      · rw [e2, e1]; simp only [F.size]; omega
      · intro _; have := b2 b1'; simp only [F.size]; omega
    · rw [if_neg h4] at h; exact absurd h h4
end Go.Proofs.YtlmmfhbdebfgkaaGreatDoor.Ex
