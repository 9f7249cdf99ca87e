/-
  ExPure, Mem, ExMem, ExSt.
-/
import Derived.Test.YtlmmfhbdebfgkaaGreatDoorYVaPureQ
import Derived.Test.YtlmmfhbdebfgkaaGreatDoorRows
import Derived.WalkKit
import Derived.WalkSpells
import Derived.WalkLawsBesides
import Derived.Lib.Hide
import Derived.Maps.AppendAt
namespace Go.Proofs.YtlmmfhbdebfgkaaGreatDoor.Ex
open Lx
inductive F where
  | nil : F
  | cons (op num : Int) (text : List UInt8) (args rest : F) : F
structure T where
  op : Int
  num : Int
  text : List UInt8
  args : F
def F.len : F → Nat
  | .nil => 0
  | .cons _ _ _ _ r => r.len + 1
def F.app : F → F → F
  | .nil, s => s
  | .cons o n t a r, s => .cons o n t a (r.app s)
def T.row (t : T) : F := .cons t.op t.num t.text t.args .nil
def F.snoc (l : F) (t : T) : F := l.app t.row
def two (x y : T) : F := .cons x.op x.num x.text x.args y.row
theorem F.len_app : ∀ (l m : F), (l.app m).len = l.len + m.len
  | .nil, m => by simp [F.app, F.len]
  | .cons _ _ _ _ r, m => by
    show (r.app m).len + 1 = r.len + 1 + m.len
    rw [F.len_app r m]; omega
theorem F.len_snoc (l : F) (t : T) : (l.snoc t).len = l.len + 1 := by
  unfold F.snoc
  rw [F.len_app]
  rfl
structure St where
  at_ : Nat
  n : Nat
  open_ : Nat
inductive R where
  | ok (t : T) (s : St) : R
  | bad (e : Nat) (a : Nat) : R
def tk (l : List TA) (i : Nat) : TA := l.getD i ⟨0, [], 0, 0⟩
def isS (l : List TA) (i : Nat) (s : List UInt8) : Bool := (tk l i).kind == 5 && (tk l i).text == s
def opOf (n : Nat) (s : List UInt8) : Option (Int × Bool) := match n with
  | 0 => if s = [124, 124] then some (41, false) else none
  | 1 => if s = [38, 38] then some (40, false) else none
  | 2 => if s = [61, 61] then some (30, false) else if s = [33, 61] then some (31, false) else if s = [60] then some (32, false) else if s = [60, 61] then some (33, false)
    else if s = [62] then some (32, true) else if s = [62, 61] then some (33, true) else none
  | 3 => if s = [43] then some (23, false) else if s = [45] then some (24, false) else none
  | 4 => if s = [42] then some (20, false) else if s = [47] then some (21, false) else if s = [37] then some (22, false) else none
  | _ => none
def opAt (n : Nat) (t : TA) : Option (Int × Bool) := if t.kind = 5 then opOf n t.text else none
def unAt (t : TA) : Option Int := if t.kind = 5 then (if t.text = [33] then some 10 else if t.text = [45] then some 11 else none) else none
def leafR (op num : Int) (text : List UInt8) (s : St) : R := if s.n = 200 then .bad 27 s.at_ else .ok ⟨op, num, text, .nil⟩ ⟨s.at_ + 1, s.n + 1, s.open_⟩
def leaveR (l : List TA) (sign : List UInt8) (t : T) (s : St) : R := if isS l s.at_ sign = true then .ok t ⟨s.at_ + 1, s.n, s.open_ - 1⟩ else .bad 25 s.at_
def enterR (s : St) (k : St → R) : R := if s.open_ = 20 then .bad 26 s.at_ else if s.n = 200 then .bad 27 s.at_ else k ⟨s.at_ + 1, s.n + 1, s.open_ + 1⟩
def R.then (r : R) (k : T → St → R) : R := match r with
  | .ok t s => k t s
  | .bad e a => .bad e a
def loopR (rec : St → R) (l : List TA) (n : Nat) : Nat → T → St → R
  | 0, x, s => .ok x s
  | k + 1, x, s => match opAt n (tk l s.at_) with
    | none => .ok x s
    | some (op, turned) => if s.n = 200 then .bad 27 s.at_ else (rec ⟨s.at_ + 1, s.n + 1, s.open_⟩).then fun y s2 =>
      if n = 2 then .ok ⟨op, 0, [], if turned = true then two y x else two x y⟩ s2 else loopR rec l n k ⟨op, 0, [], if turned = true then two y x else two x y⟩ s2
def argsR (rec : St → R) (l : List TA) (op : Int) : Nat → F → St → R
  | 0, acc, s => leaveR l [41] ⟨op, 0, [], acc⟩ s
  | k + 1, acc, s => if isS l s.at_ [44] = true then (rec ⟨s.at_ + 1, s.n, s.open_⟩).then fun y s2 => argsR rec l op k (acc.snoc y) s2 else .bad 25 s.at_
def callR (rec : St → R) (l : List TA) (op : Int) (n : Nat) (s : St) : R :=
  if isS l (s.at_ + 1) [40] = true then enterR ⟨s.at_ + 1, s.n, s.open_⟩ fun s1 => (rec s1).then fun y s2 => argsR rec l op (n - 1) (F.nil.snoc y) s2 else .bad 25 (s.at_ + 1)
def begins (l : List TA) (i : Nat) : Bool := decide (1 ≤ (tk l i).kind ∧ (tk l i).kind ≤ 4) || isS l i [40] || isS l i [91] || isS l i [33] || isS l i [45]
def elemsR (rec : St → R) (l : List TA) : Nat → F → St → R
  | 0, _, s => .bad 25 s.at_
  | k + 1, acc, s => if isS l s.at_ [93] = true then .ok ⟨5, 0, [], acc⟩ ⟨s.at_ + 1, s.n, s.open_ - 1⟩
    else if acc.len = 0 then (rec s).then fun y s2 => elemsR rec l k (acc.snoc y) s2
    else if isS l s.at_ [44] = true then
      if acc.len = 16 then (if begins l (s.at_ + 1) = true then .bad 27 (s.at_ + 1) else .bad 25 (s.at_ + 1))
      else (rec ⟨s.at_ + 1, s.n, s.open_⟩).then fun y s2 => elemsR rec l k (acc.snoc y) s2
    else .bad 25 s.at_
def fieldR (l : List TA) (s : St) : R :=
  if isS l (s.at_ + 1) [46] = true then (if (tk l (s.at_ + 2)).kind = 1 then leafR 7 0 (tk l (s.at_ + 2)).text ⟨s.at_ + 2, s.n, s.open_⟩ else .bad 25 (s.at_ + 2)) else .bad 25 (s.at_ + 1)
def groupR (rec : St → R) (l : List TA) (s : St) : R := if s.open_ = 20 then .bad 26 s.at_ else (rec ⟨s.at_ + 1, s.n, s.open_ + 1⟩).then fun y s2 => leaveR l [41] y s2
def wTrue : List UInt8 := [116, 114, 117, 101]
def wFalse : List UInt8 := [102, 97, 108, 115, 101]
def wMsg : List UInt8 := [109, 115, 103]
def wLen : List UInt8 := [108, 101, 110]
def wAt : List UInt8 := [97, 116]
def wPush : List UInt8 := [112, 117, 115, 104]
def wordR (rec : St → R) (l : List TA) (w : List UInt8) (s : St) : R :=
  if w = wLen then callR rec l 12 1 s else if w = wAt then callR rec l 25 2 s else if w = wPush then callR rec l 26 2 s else if w = wMsg then fieldR l s
  else if w = wTrue then leafR 3 1 [] s else if w = wFalse then leafR 3 0 [] s else leafR 6 0 w s
def primR (rec : St → R) (l : List TA) (s : St) : R :=
  if (tk l s.at_).kind = 1 then wordR rec l (tk l s.at_).text s
  else if (tk l s.at_).kind = 2 then leafR 1 (tk l s.at_).num [] s
  else if (tk l s.at_).kind = 3 then leafR 2 0 (tk l s.at_).text s
  else if (tk l s.at_).kind = 4 then leafR 4 0 (tk l s.at_).text s
  else if isS l s.at_ [40] = true then groupR rec l s
  else if isS l s.at_ [91] = true then enterR s fun s1 => elemsR rec l 18 .nil s1
  else .bad 25 s.at_
def lv (l : List TA) : Nat → Nat → St → R
  | 0, _, s => .bad 0 s.at_
  | f + 1, n, s =>
    if n = 5 then (match unAt (tk l s.at_) with
      | some op => enterR s fun s1 => (lv l f 5 s1).then fun x s2 => .ok ⟨op, 0, [], x.row⟩ ⟨s2.at_, s2.n, s2.open_ - 1⟩
      | none => primR (lv l f 0) l s)
    else (lv l f (n + 1) s).then fun x s1 => loopR (lv l f (n + 1)) l n 201 x s1
def FUEL : Nat := 200
def parseM (l : List TA) (a : Nat) : R := lv l FUEL 0 ⟨a, 0, 0⟩
def readM (l : List TA) : T × Nat × Nat := match parseM l 0 with
  | .ok t s => if s.at_ + 1 = l.length then (t, 0, 0) else (⟨0, 0, [], .nil⟩, 25, (tk l s.at_).at_)
  | .bad e a => (⟨0, 0, [], .nil⟩, e, (tk l a).at_)
def need (n : Nat) (s : St) : Nat := 6 * (20 - s.open_) + (5 - n)
end Go.Proofs.YtlmmfhbdebfgkaaGreatDoor.Ex
namespace Go.Proofs.YtlmmfhbdebfgkaaGreatDoor
open Go.RowKit
def Row8 (w : World) (b : Nat) (l : List UInt8) : Prop :=
  ∀ j, j < l.length → w.cell? ⟨b, j, none⟩ = some (.int .u8 ((l.getD j 0).toNat : Int)) ∧ w.frozen? ⟨b, j, none⟩ = false
theorem Row8.set {w : World} {b : Nat} {l : List UInt8} (h : Row8 w b l) (k : Nat) (c : UInt8) (hk : k < l.length) (v : Int) (hv : v = (c.toNat : Int)) :
    Row8 (w.setCell ⟨b, k, none⟩ (.int .u8 v)) b (l.set k c) := by
  intro j hj
  rw [List.length_set] at hj
  have hj0 := h j hj
  refine ⟨?_, by rw [World.frozen?_setCell]; exact hj0.2⟩
  by_cases e : j = k
  · subst e
    rw [World.cell?_setCell_same (w := w) (a := ⟨b, j, none⟩) (v := .int .u8 v) (h := hj0.1), hv]
    simp [List.getD, hj]
  · rw [World.cell?_setCell_other (w := w) (a := ⟨b, k, none⟩) (b := ⟨b, j, none⟩) (v := .int .u8 v) (h := by intro h; injection h with _ h2 _; exact e h2.symm), hj0.1]
    simp [List.getD, List.getElem?_set_ne (Ne.symm e)]
theorem Row8.later {w w' : World} {b : Nat} {l : List UInt8} (h : Row8 w b l) (hb : Below w.heap.size w w') : Row8 w' b l := by
  intro j hj
  have h1 := h j hj
  have hlt := World.block_lt_of_cell? w _ h1.1
  exact ⟨(hb.cell (p := ⟨b, j, none⟩) hlt).trans h1.1, (hb.frozen (p := ⟨b, j, none⟩) hlt).trans h1.2⟩
theorem Row8.back {P : Program} {w : World} {b : Nat} {l : List UInt8} (h : Row8 w b l) (src dst e : TypeId) (cap : Nat) (hs : P.underlying src = some (.slice e)) (he : P.underlying e = some (.int .u8)) (hd : P.underlying dst = some .string)
    (n : Nat) (hn : n = l.length) : (convert src dst (.slice (some ⟨b, 0, none⟩) n cap)).run P w = .ok (.string ⟨l.toArray⟩) w := by
  subst hn
  refine run_convert_bytes_back (P := P) w src dst e ⟨b, 0, none⟩ cap l hs he hd ?_
  intro j hj
  have := (h j hj).1
  have hplain : (⟨b, 0, none⟩ : Addr).add j = ⟨b, j, none⟩ := by unfold Addr.add; split <;> simp_all
  rw [hplain]
  simpa [List.getD, List.getElem?_eq_getElem hj] using this
theorem two {a b c : World} (h : Below a.heap.size a b) (k : Below b.heap.size b c) : Below a.heap.size a c := h.trans (k.mono h.size)
theorem byte_lt (c : UInt8) : ((c.toNat : Nat) : Int) < 256 := by
  have : c.toNat < 256 := c.toNat_lt
  omega
theorem info8 : (Tryz.prog.info? 5).map (fun i => (i.zero, i.size, i.bytes)) = some (some (.int .u8 0), 1, 1) := by kernel_rfl
def S (l : List UInt8) : ByteArray := ⟨l.toArray⟩
theorem S_size (l : List UInt8) : (S l).size = l.length := by show l.toArray.size = _; simp
theorem S_append (a b : List UInt8) : S a ++ S b = S (a ++ b) := by
  unfold S
  apply ByteArray.ext
  simp
theorem S_list (s : ByteArray) : S s.data.toList = s := by unfold S; simp
theorem S_toList (l : List UInt8) : (S l).data.toList = l := by simp [S]
theorem S_extract (s : ByteArray) (a b : Nat) : s.extract a b = S ((s.data.toList.drop a).take (b - a)) := by
  apply ByteArray.ext
  rw [ByteArray.data_extract]
  apply Array.toList_inj.1
  rw [Array.toList_extract]
  simp [S, List.extract]
theorem getElem_list (s : ByteArray) (k : Nat) (h : k < s.size) : s.data.toList.getD k 0 = s[k] := by
  have hd : k < s.data.size := h
  simp [List.getD, Array.getElem?_eq_getElem hd]
  rfl
theorem list_size (s : ByteArray) : s.data.toList.length = s.size := by simp
structure U64 (n : Nat) : Prop where
  lt : n < 18446744073709551616
end Go.Proofs.YtlmmfhbdebfgkaaGreatDoor
namespace Go.Proofs.YtlmmfhbdebfgkaaGreatDoor.Ex
open Go.RowKit
open Lx
structure Kept (ok : Nat → Prop) (w w' : World) : Prop where
  size : w.heap.size ≤ w'.heap.size
  block : ∀ g, ok g → g < w.heap.size → w'.heap[g]? = w.heap[g]?
theorem Kept.of_below {ok : Nat → Prop} {w w' : World} (b : Below w.heap.size w w') : Kept ok w w' := ⟨b.size, fun g _ h => b.block g h⟩
theorem Kept.of_grown {ok : Nat → Prop} {w w' : World} {row : Option Nat} (b : w.grownBy w' row) (h : ∀ g, ok g → some g ≠ row) : Kept ok w w' := ⟨b.size, fun g hg hl => b.block g hl (h g hg)⟩
theorem Kept.cell {ok : Nat → Prop} {g j : Nat} {w w' : World} (k : Kept ok w w') (hl : ok g) (h : g < w.heap.size) : w'.cell? ⟨g, j, none⟩ = w.cell? ⟨g, j, none⟩ := by
  unfold World.cell?
  simp only
  rw [k.block g hl h]
theorem Kept.mono {ok ok' : Nat → Prop} {w w' : World} (k : Kept ok w w') (h : ∀ g, ok' g → ok g) : Kept ok' w w' := ⟨k.size, fun g hg hl => k.block g (h g hg) hl⟩
theorem Kept.refl (ok : Nat → Prop) (w : World) : Kept ok w w := ⟨Nat.le_refl _, fun _ _ _ => rfl⟩
theorem Kept.trans {ok : Nat → Prop} {a b c : World} (h : Kept ok a b) (k : Kept ok b c) : Kept ok a c :=
  ⟨Nat.le_trans h.size k.size, fun g hl hg => (k.block g hl (Nat.lt_of_lt_of_le hg h.size)).trans (h.block g hl hg)⟩
def FAt (w : World) (ok : Nat → Prop) : F → Option Addr → Prop
  | .nil, _ => True
  | .cons o n t a r, p => ∃ g k q c, p = some ⟨g, k, none⟩ ∧ ok g ∧ g < w.heap.size ∧ w.cell? ⟨g, k, none⟩ = some (.int .i64 o) ∧ w.cell? ⟨g, k + 1, none⟩ = some (.int .i64 n) ∧ w.cell? ⟨g, k + 2, none⟩ = some (.string (S t)) ∧
    w.cell? ⟨g, k + 3, none⟩ = some (.slice q a.len c) ∧ FAt w ok a q ∧ FAt w ok r (some ⟨g, k + 4, none⟩)
theorem FAt.keep {ok : Nat → Prop} {w w' : World} (k : Kept ok w w') : ∀ (l : F) (p : Option Addr), FAt w ok l p → FAt w' ok l p
  | .nil, _, _ => trivial
  | .cons _ _ _ a r, _, ⟨g, j, q, c, hp, hl, hg, h0, h1, h2, h3, ha, hr⟩ =>
    ⟨g, j, q, c, hp, hl, Nat.lt_of_lt_of_le hg k.size, (k.cell hl hg).trans h0, (k.cell hl hg).trans h1, (k.cell hl hg).trans h2, (k.cell hl hg).trans h3, FAt.keep k a q ha, FAt.keep k r _ hr⟩
theorem FAt.mono {ok ok' : Nat → Prop} {w : World} (h : ∀ g, g < w.heap.size → ok g → ok' g) : ∀ (l : F) (p : Option Addr), FAt w ok l p → FAt w ok' l p
  | .nil, _, _ => trivial
  | .cons _ _ _ a r, _, ⟨g, j, q, c, hp, hl, hg, h0, h1, h2, h3, ha, hr⟩ => ⟨g, j, q, c, hp, h g hg hl, hg, h0, h1, h2, h3, FAt.mono h a q ha, FAt.mono h r _ hr⟩
def exprC (t : T) (p : Option Addr) (c : Nat) : Value := .agg #[.int .i64 t.op, .int .i64 t.num, .string (S t.text), .slice p t.args.len c]
structure X where
  t : T
  p : Option Addr
  c : Nat
def X.cells (x : X) : List Value := [.int .i64 x.t.op, .int .i64 x.t.num, .string (S x.t.text), .slice x.p x.t.args.len x.c]
def xsC (xs : List X) : List Value := xs.flatMap X.cells
theorem xsC_append (a b : List X) : xsC (a ++ b) = xsC a ++ xsC b := by simp [xsC]
def rowF : List X → F
  | [] => .nil
  | x :: r => .cons x.t.op x.t.num x.t.text x.t.args (rowF r)
theorem rowF_len : ∀ xs : List X, (rowF xs).len = xs.length
  | [] => rfl
  | x :: r => by show (rowF r).len + 1 = r.length + 1; rw [rowF_len r]
theorem rowF_snoc : ∀ (xs : List X) (x : X), rowF (xs ++ [x]) = (rowF xs).snoc x.t
  | [], x => rfl
  | y :: r, x => by
    show F.cons _ _ _ _ (rowF (r ++ [x])) = F.cons _ _ _ _ ((rowF r).app x.t.row)
    rw [rowF_snoc r x]; rfl
theorem FAt.of_cells {w : World} {ok : Nat → Prop} {g : Nat} (hl : ok g) (hg : g < w.heap.size) : ∀ (xs : List X) (k : Nat), (∀ j u, (xsC xs)[j]? = some u → w.cell? ⟨g, k + j, none⟩ = some u) → (∀ x ∈ xs, FAt w ok x.t.args x.p) → FAt w ok (rowF xs) (some ⟨g, k, none⟩)
  | [], _, _, _ => trivial
  | x :: r, k, hc, ha => by
    have e : xsC (x :: r) = X.cells x ++ xsC r := rfl
    refine ⟨g, k, x.p, x.c, rfl, hl, hg, hc 0 _ (by rw [e]; rfl), hc 1 _ (by rw [e]; rfl), hc 2 _ (by rw [e]; rfl), hc 3 _ (by rw [e]; rfl), ha x (List.mem_cons_self ..), FAt.of_cells hl hg r (k + 4) (fun j u hu => ?_) (fun y hy => ha y (List.mem_cons_of_mem _ hy))⟩
    have := hc (4 + j) u (by rw [e, List.getElem?_append_right (by simp [X.cells])]; simpa [X.cells] using hu)
    rw [← Nat.add_assoc] at this
    exact this
theorem infoX : (Tryz.prog.info? 24).map (fun i => (i.zero, i.size, i.bytes)) = some (some (.agg #[.int .i64 0, .int .i64 0, .string ⟨#[]⟩, .slice none 0 0]), 4, 56) := by kernel_rfl
structure XR (w : World) (B : Nat) (v : Value) (xs : List X) : Prop where
  own : w.ownsRow B 24 4 v xs.length (xsC xs)
  args : ∀ x ∈ xs, FAt w (fun g => B ≤ g ∧ some g ≠ v.ownBlock) x.t.args x.p
theorem XR.nil (w : World) (B : Nat) : XR w B (.slice none 0 0) [] := ⟨World.ownsRow_nil w B _ _, by simp⟩
theorem XR.later {w w' : World} {B : Nat} {v : Value} {xs : List X} (h : XR w B v xs) (k : Kept (B ≤ ·) w w') : XR w' B v xs := by
  refine ⟨⟨h.own.1, ?_⟩, fun x hx => (h.args x hx).keep (k.mono fun g hg => hg.1)⟩
  rcases h.own.2 with h2 | ⟨g, cap, cur, rfl, hB, hg, r⟩
  · exact .inl h2
  · exact .inr ⟨g, cap, cur, rfl, hB, (k.block g hB (Array.getElem?_eq_some_iff.1 hg).1).trans hg, r⟩
theorem XR.row {w : World} {B : Nat} {v : Value} {xs : List X} (h : XR w B v xs) : ∃ p c, v = .slice p xs.length c ∧ FAt w (B ≤ ·) (rowF xs) p := by
  have ha : ∀ x ∈ xs, FAt w (B ≤ ·) x.t.args x.p := fun x hx => FAt.mono (fun g _ hg => hg.1) _ _ (h.args x hx)
  rcases h.own.2 with ⟨rfl, h0⟩ | ⟨g, cap, cur, rfl, hB, hg, r⟩
  · have : xs = [] := List.eq_nil_of_length_eq_zero h0
    subst this
    exact ⟨none, 0, rfl, trivial⟩
  · refine ⟨some ⟨g, 0, none⟩, cap, rfl, FAt.of_cells hB (Array.getElem?_eq_some_iff.1 hg).1 xs 0 (fun j u hu => ?_) ha⟩
    have := World.ownsRow.cells h.own (g := g) rfl j u hu
    have hadd : (⟨g, 0, none⟩ : Addr).add j = ⟨g, j, none⟩ := by unfold Addr.add; split <;> simp_all
    rw [hadd] at this
    rw [Nat.zero_add]; exact this
theorem app_x (B : Nat) (v : Value) (xs : List X) (w : World) (h : XR w B v xs) (hB : B ≤ w.heap.size) (hn : xs.length ≤ 100000) (x : X) (hx : FAt w (fun g => B ≤ g ∧ some g ≠ v.ownBlock) x.t.args x.p) (H : Nat) (hH : w.heap.size = H) :
    ∃ v' w', (Builtin.append_ #[22, 22] 22 #[v, .slice (some ⟨H, 0, none⟩) 1 1]).run Tryz.prog (w.alloc (.cells #[.int .i64 x.t.op, .int .i64 x.t.num, .string (S x.t.text), .slice x.p x.t.args.len x.c] 24)) = .ok v' w' ∧
      XR w' B v' (xs ++ [x]) ∧ Below B w w' ∧ w.heap.size < w'.heap.size ∧ Kept (fun g => some g ≠ v.ownBlock) w w' := by
  subst hH
  obtain ⟨i0, hi, hz0, hz1, hz2⟩ := info_parts infoX
  have hown := World.ownsRow.alloc h.own (.cells #[.int .i64 x.t.op, .int .i64 x.t.num, .string (S x.t.text), .slice x.p x.t.args.len x.c] 24)
  have hnews : ∀ j u, (X.cells x)[j]? = some u → (w.alloc (.cells #[.int .i64 x.t.op, .int .i64 x.t.num, .string (S x.t.text), .slice x.p x.t.args.len x.c] 24)).cell? ((⟨w.heap.size, 0, none⟩ : Addr).add j) = some u := by
    intro j u hj
    have hadd : (⟨w.heap.size, 0, none⟩ : Addr).add j = ⟨w.heap.size, j, none⟩ := by unfold Addr.add; split <;> simp_all
    rw [hadd, cell_of_row _ w.heap.size j _ _ (0, 0) (heap_alloc_new w _)]
    simpa [X.cells] using hj
  have h1 : ∀ u ∈ X.cells x, u.oneCell' = true := by
    intro u hu
    simp only [X.cells, List.mem_cons, List.not_mem_nil, or_false] at hu
    rcases hu with rfl | rfl | rfl | rfl <;> rfl
  obtain ⟨v', w', hr, h2, h3, _, h5⟩ := run_append_own_at (P := Tryz.prog) (w.alloc (.cells #[.int .i64 x.t.op, .int .i64 x.t.num, .string (S x.t.text), .slice x.p x.t.args.len x.c] 24)) B 22 22 24 i0 _ 4 56 Tryz.underlying22 hi hz0 hz1 hz2 rfl (by decide) v xs.length (xsC xs) hown ⟨w.heap.size, 0, none⟩ 1 1 (X.cells x) rfl hnews h1 (by unfold maxLen; omega) (by omega) (by simp; omega)
  have hk0 : Kept (fun g => some g ≠ v.ownBlock) w (w.alloc (.cells #[.int .i64 x.t.op, .int .i64 x.t.num, .string (S x.t.text), .slice x.p x.t.args.len x.c] 24)) := Kept.of_below ((Below.refl _ _).alloc (Nat.le_refl _) _)
  have hk1 : Kept (fun g => some g ≠ v.ownBlock) w w' := hk0.trans (Kept.of_grown h3 (fun g hg => hg))
  have hsz := h3.size
  simp at hsz
  have hne : ∀ g, g < w.heap.size → some g ≠ v.ownBlock → some g ≠ v'.ownBlock := fun g hg hn => by
    rcases h5 with h5 | h5
    · rw [h5]; exact hn
    · rw [h5]; simp; omega
  refine ⟨v', w', hr, ⟨?_, fun y hy => ?_⟩, ((Below.refl _ _).alloc hB _).grown h3 (by simp; omega) (fun k hk => (World.ownsRow.lt h.own k hk).1), by omega, hk1⟩
  · rw [xsC_append, List.length_append]
    simpa [xsC] using h2
  · have key : ∀ l p, FAt w (fun g => B ≤ g ∧ some g ≠ v.ownBlock) l p → FAt w' (fun g => B ≤ g ∧ some g ≠ v'.ownBlock) l p := fun l p hl => by
      have a1 := FAt.mono (ok' := fun g => (B ≤ g ∧ some g ≠ v.ownBlock) ∧ some g ≠ v'.ownBlock) (fun g hg hg2 => ⟨hg2, hne g hg hg2.2⟩) l p hl
      have a2 := a1.keep (hk1.mono fun g hg => hg.1.2)
      exact FAt.mono (fun g _ hg => ⟨hg.1.1, hg.2⟩) l p a2
    rcases List.mem_append.1 hy with hy | hy
    · exact key _ _ (h.args y hy)
    · obtain rfl : y = x := by simpa using hy
      exact key _ _ hx
end Go.Proofs.YtlmmfhbdebfgkaaGreatDoor.Ex
namespace Go.Proofs.YtlmmfhbdebfgkaaGreatDoor.Ex
open Lx
structure Ends (ts : List TA) : Prop where
  pos : 0 < ts.length
  mid : ∀ i, i + 1 < ts.length → (tk ts i).kind ≠ 0
  last : (tk ts (ts.length - 1)).kind = 0
theorem Ends.next {ts : List TA} (h : Ends ts) {i : Nat} (hi : i < ts.length) (hk : (tk ts i).kind ≠ 0) : i + 1 < ts.length := by
  by_cases e : i + 1 < ts.length
  · exact e
  · obtain rfl : i = ts.length - 1 := by omega
    exact absurd h.last hk
structure StOk (ts : List TA) (s : St) : Prop where
  at_ : s.at_ < ts.length
  n : s.n ≤ 200
  op : s.open_ ≤ 20
structure Adv (ts : List TA) (s s' : St) (o : Nat) : Prop where
  at_ : s.at_ ≤ s'.at_
  lt : s'.at_ < ts.length
  n : s.n ≤ s'.n
  le : s'.n ≤ 200
  op : s'.open_ = o
theorem Adv.ok {ts : List TA} {s s' : St} {o : Nat} (h : Adv ts s s' o) (ho : o ≤ 20) : StOk ts s' := ⟨h.lt, h.le, by rw [h.op]; exact ho⟩
theorem Adv.from {ts : List TA} {s s1 s' : St} {o p : Nat} (h : Adv ts s s1 p) (k : Adv ts s1 s' o) : Adv ts s s' o := ⟨Nat.le_trans h.at_ k.at_, k.lt, Nat.le_trans h.n k.n, k.le, k.op⟩
theorem isS_kind {l : List TA} {i : Nat} {s : List UInt8} (h : isS l i s = true) : (tk l i).kind = 5 ∧ (tk l i).text = s := by
  simpa [isS] using h
theorem isS_ne {l : List TA} {i : Nat} {s : List UInt8} (h : isS l i s = true) : (tk l i).kind ≠ 0 := by rw [(isS_kind h).1]; decide
theorem opAt_kind {n : Nat} {t : TA} {x : Int × Bool} (h : opAt n t = some x) : t.kind = 5 := by
  unfold opAt at h
  split at h
  · assumption
  · cases h
theorem unAt_kind {t : TA} {x : Int} (h : unAt t = some x) : t.kind = 5 := by
  unfold unAt at h
  split at h
  · assumption
  · cases h
def RecOk (ts : List TA) (rec : St → R) : Prop := ∀ s t s', StOk ts s → rec s = .ok t s' → Adv ts s s' s.open_
theorem then_ok {r : R} {k : T → St → R} {t : T} {s : St} (h : r.then k = .ok t s) : ∃ x s1, r = .ok x s1 ∧ k x s1 = .ok t s := by
  cases r with
  | ok x s1 => exact ⟨x, s1, rfl, h⟩
  | bad e a => cases h
theorem leaf_st {ts : List TA} (he : Ends ts) {op num : Int} {text : List UInt8} {s s' : St} {t : T} (hs : StOk ts s) (hk : (tk ts s.at_).kind ≠ 0) (h : leafR op num text s = .ok t s') : Adv ts s s' s.open_ := by
  unfold leafR at h
  split at h
  · cases h
  · cases h
    have := he.next hs.at_ hk
    have := hs.n
    exact ⟨by simp, by simpa using by omega, by simp, by simp; omega, rfl⟩
theorem leave_st {ts : List TA} (he : Ends ts) {sign : List UInt8} {x t : T} {s s' : St} (hs : StOk ts s) (h : leaveR ts sign x s = .ok t s') : Adv ts s s' (s.open_ - 1) := by
  unfold leaveR at h
  split at h
  · rename_i hi
    cases h
    have := he.next hs.at_ (isS_ne hi)
    exact ⟨by simp, by simpa using this, Nat.le_refl _, hs.n, rfl⟩
  · cases h
theorem enter_st {ts : List TA} (he : Ends ts) {k : St → R} {t : T} {s s' : St} (hs : StOk ts s) (hk : (tk ts s.at_).kind ≠ 0) (h : enterR s k = .ok t s') :
    ∃ s1, s1 = ⟨s.at_ + 1, s.n + 1, s.open_ + 1⟩ ∧ StOk ts s1 ∧ k s1 = .ok t s' := by
  unfold enterR at h
  split at h
  · cases h
  · split at h
    · cases h
    · have := he.next hs.at_ hk
      have := hs.n
      have := hs.op
      exact ⟨_, rfl, ⟨by simpa using by omega, by simp; omega, by simp; omega⟩, h⟩
theorem loop_st {ts : List TA} (he : Ends ts) {rec : St → R} (hr : RecOk ts rec) {n : Nat} : ∀ (k : Nat) (x : T) (s : St) (t : T) (s' : St), StOk ts s → loopR rec ts n k x s = .ok t s' → Adv ts s s' s.open_
  | 0, x, s, t, s', hs, h => by
    unfold loopR at h
    cases h
    exact ⟨Nat.le_refl _, hs.at_, Nat.le_refl _, hs.n, rfl⟩
  | k + 1, x, s, t, s', hs, h => by
    unfold loopR at h
    split at h
    · cases h
      exact ⟨Nat.le_refl _, hs.at_, Nat.le_refl _, hs.n, rfl⟩
    · rename_i op turned ho
      split at h
      · cases h
      · obtain ⟨y, s2, h1, h2⟩ := then_ok h
        have hn := he.next hs.at_ (by rw [opAt_kind ho]; decide)
        have h3 := hs.n
        have ha : StOk ts ⟨s.at_ + 1, s.n + 1, s.open_⟩ := ⟨hn, by simp; omega, hs.op⟩
        have hb := hr _ _ _ ha h1
        have hb2 : Adv ts s s2 s.open_ := ⟨Nat.le_trans (Nat.le_succ _) hb.at_, hb.lt, Nat.le_trans (Nat.le_succ _) hb.n, hb.le, hb.op⟩
        split at h2
        · cases h2
          exact hb2
        · have hc := loop_st he hr k _ s2 t s' (hb2.ok hs.op) h2
          rw [hb2.op] at hc
          exact hb2.from hc
theorem args_st {ts : List TA} (he : Ends ts) {rec : St → R} (hr : RecOk ts rec) {op : Int} : ∀ (k : Nat) (acc : F) (s : St) (t : T) (s' : St), StOk ts s → argsR rec ts op k acc s = .ok t s' → Adv ts s s' (s.open_ - 1)
  | 0, acc, s, t, s', hs, h => leave_st he hs h
  | k + 1, acc, s, t, s', hs, h => by
    unfold argsR at h
    split at h
    · rename_i hi
      obtain ⟨y, s2, h1, h2⟩ := then_ok h
      have hn := he.next hs.at_ (isS_ne hi)
      have hb := hr _ _ _ (⟨hn, hs.n, hs.op⟩ : StOk ts ⟨s.at_ + 1, s.n, s.open_⟩) h1
      have hb2 : Adv ts s s2 s.open_ := ⟨Nat.le_trans (Nat.le_succ _) hb.at_, hb.lt, hb.n, hb.le, hb.op⟩
      have hc := args_st he hr k _ s2 t s' (hb2.ok hs.op) h2
      rw [hb2.op] at hc
      exact hb2.from hc
    · cases h
theorem call_st {ts : List TA} (he : Ends ts) {rec : St → R} (hr : RecOk ts rec) {op : Int} {n : Nat} {s s' : St} {t : T} (hs : StOk ts s) (hk : (tk ts s.at_).kind ≠ 0) (h : callR rec ts op n s = .ok t s') : Adv ts s s' s.open_ := by
  unfold callR at h
  split at h
  · rename_i hi
    have hn := he.next hs.at_ hk
    obtain ⟨s1, e1, ho1, h1⟩ := enter_st he (⟨hn, hs.n, hs.op⟩ : StOk ts ⟨s.at_ + 1, s.n, s.open_⟩) (isS_ne hi) h
    obtain ⟨y, s2, h2, h3⟩ := then_ok h1
    have hb := hr _ _ _ ho1 h2
    have hc := args_st he hr _ _ s2 t s' (hb.ok ho1.op) h3
    rw [hb.op] at hc
    have hd := hb.from hc
    subst e1
    exact ⟨Nat.le_trans (by simp; omega) hd.at_, hd.lt, Nat.le_trans (by simp) hd.n, hd.le, by simpa using hd.op⟩
  · cases h
theorem elems_st {ts : List TA} (he : Ends ts) {rec : St → R} (hr : RecOk ts rec) : ∀ (k : Nat) (acc : F) (s : St) (t : T) (s' : St), StOk ts s → elemsR rec ts k acc s = .ok t s' → Adv ts s s' (s.open_ - 1)
  | 0, acc, s, t, s', hs, h => by cases h
  | k + 1, acc, s, t, s', hs, h => by
    unfold elemsR at h
    split at h
    · rename_i hi
      cases h
      have := he.next hs.at_ (isS_ne hi)
      exact ⟨by simp, by simpa using this, Nat.le_refl _, hs.n, rfl⟩
    · split at h
      · obtain ⟨y, s2, h1, h2⟩ := then_ok h
        have hb := hr _ _ _ hs h1
        have hc := elems_st he hr k _ s2 t s' (hb.ok hs.op) h2
        rw [hb.op] at hc
        exact hb.from hc
      · split at h
        · rename_i hi
          split at h
          · split at h <;> cases h
          · obtain ⟨y, s2, h1, h2⟩ := then_ok h
            have hn := he.next hs.at_ (isS_ne hi)
            have hb := hr _ _ _ (⟨hn, hs.n, hs.op⟩ : StOk ts ⟨s.at_ + 1, s.n, s.open_⟩) h1
            have hb2 : Adv ts s s2 s.open_ := ⟨Nat.le_trans (Nat.le_succ _) hb.at_, hb.lt, hb.n, hb.le, hb.op⟩
            have hc := elems_st he hr k _ s2 t s' (hb2.ok hs.op) h2
            rw [hb2.op] at hc
            exact hb2.from hc
        · cases h
theorem field_st {ts : List TA} (he : Ends ts) {s s' : St} {t : T} (hs : StOk ts s) (hk : (tk ts s.at_).kind ≠ 0) (h : fieldR ts s = .ok t s') : Adv ts s s' s.open_ := by
  unfold fieldR at h
  split at h
  · rename_i hi
    have hn := he.next hs.at_ hk
    have hn2 := he.next hn (isS_ne hi)
    split at h
    · rename_i hf
      have := leaf_st he (⟨hn2, hs.n, hs.op⟩ : StOk ts ⟨s.at_ + 2, s.n, s.open_⟩) (by simp only; rw [hf]; decide) h
      exact ⟨Nat.le_trans (by simp) this.at_, this.lt, this.n, this.le, this.op⟩
    · cases h
  · cases h
theorem group_st {ts : List TA} (he : Ends ts) {rec : St → R} (hr : RecOk ts rec) {s s' : St} {t : T} (hs : StOk ts s) (hk : (tk ts s.at_).kind ≠ 0) (h : groupR rec ts s = .ok t s') : Adv ts s s' s.open_ := by
  unfold groupR at h
  split at h
  · cases h
  · rename_i ho
    obtain ⟨y, s2, h1, h2⟩ := then_ok h
    have hn := he.next hs.at_ hk
    have hop := hs.op
    have hb := hr _ _ _ (⟨hn, hs.n, by simp; omega⟩ : StOk ts ⟨s.at_ + 1, s.n, s.open_ + 1⟩) h1
    have hc := leave_st he (hb.ok (by simp; omega)) h2
    rw [hb.op] at hc
    have hd := hb.from hc
    exact ⟨Nat.le_trans (by simp) hd.at_, hd.lt, hd.n, hd.le, by simpa using hd.op⟩
theorem word_st {ts : List TA} (he : Ends ts) {rec : St → R} (hr : RecOk ts rec) {w : List UInt8} {s s' : St} {t : T} (hs : StOk ts s) (hk : (tk ts s.at_).kind ≠ 0) (h : wordR rec ts w s = .ok t s') : Adv ts s s' s.open_ := by
  unfold wordR at h
  repeat' split at h
  all_goals first | exact call_st he hr hs hk h | exact field_st he hs hk h | exact leaf_st he hs hk h
theorem prim_st {ts : List TA} (he : Ends ts) {rec : St → R} (hr : RecOk ts rec) {s s' : St} {t : T} (hs : StOk ts s) (h : primR rec ts s = .ok t s') : Adv ts s s' s.open_ := by
  unfold primR at h
  split at h
  · rename_i hk; exact word_st he hr hs (by rw [hk]; decide) h
  · split at h
    · rename_i hk; exact leaf_st he hs (by rw [hk]; decide) h
    · split at h
      · rename_i hk; exact leaf_st he hs (by rw [hk]; decide) h
      · split at h
        · rename_i hk; exact leaf_st he hs (by rw [hk]; decide) h
        · split at h
          · rename_i hk; exact group_st he hr hs (isS_ne hk) h
          · split at h
            · rename_i hk
              obtain ⟨s1, e1, ho1, h1⟩ := enter_st he hs (isS_ne hk) h
              have hd := elems_st he hr _ _ _ _ _ ho1 h1
              subst e1
              exact ⟨Nat.le_trans (by simp) hd.at_, hd.lt, Nat.le_trans (by simp) hd.n, hd.le, by simpa using hd.op⟩
            · cases h
theorem lv_st {ts : List TA} (he : Ends ts) : ∀ f n, RecOk ts (lv ts f n)
  | 0, n => fun s t s' hs h => by cases h
  | f + 1, n => fun s t s' hs h => by
    unfold lv at h
    split at h
    · split at h
      · rename_i op ho
        obtain ⟨s1, e1, ho1, h1⟩ := enter_st he hs (by rw [unAt_kind ho]; decide) h
        obtain ⟨x, s2, h2, h3⟩ := then_ok h1
        have hb := lv_st he f 5 _ _ _ ho1 h2
        cases h3
        subst e1
        exact ⟨Nat.le_trans (by simp) hb.at_, hb.lt, Nat.le_trans (by simp) hb.n, hb.le, by simp [hb.op]⟩
      · exact prim_st he (lv_st he f 0) hs h
    · obtain ⟨x, s1, h1, h2⟩ := then_ok h
      have hb := lv_st he f (n + 1) _ _ _ hs h1
      have hc := loop_st he (lv_st he f (n + 1)) _ _ _ _ _ (hb.ok hs.op) h2
      rw [hb.op] at hc
      exact hb.from hc
end Go.Proofs.YtlmmfhbdebfgkaaGreatDoor.Ex
