/-
  TySmall, ExTp, ExPrs, ExPrsB, ExScn.
-/
import Derived.Test.YtlmmfhbdebfgkaaGreatDoorWExResQ
import Derived.Test.YtlmmfhbdebfgkaaGreatDoorWVaPureQ
import Derived.Test.YtlmmfhbdebfgkaaGreatDoorWLxTokQ
import Derived.Test.YtlmmfhbdebfgkaaGreatDoorWExMemQ
set_option linter.unusedVariables false
set_option linter.unusedSimpArgs false
set_option maxRecDepth 100000
set_option maxHeartbeats 4000000
namespace Go.Proofs.YtlmmfhbdebfgkaaGreatDoor.Ty
open Go.RowKit
open Ex Lx
def smallS (s : Sc) : Bool := s.enums.all (fun e => decide (s.enums.length ≤ 50) && decide (e.syms.length ≤ 50)) && (decide (s.attrs.length ≤ 50) && decide (s.fields.length ≤ 50))
theorem small_enums {s : Sc} (h : smallS s = true) : s.enums.length ≤ 50 ∧ (∀ e ∈ s.enums, e.syms.length ≤ 50) ∧ s.attrs.length ≤ 50 ∧ s.fields.length ≤ 50 := by
  unfold smallS at h
  simp only [Bool.and_eq_true, List.all_eq_true, decide_eq_true_eq] at h
  obtain ⟨h1, h2, h3⟩ := h
  refine ⟨?_, fun e he => (h1 e he).2, h2, h3⟩
  cases he : s.enums with
  | nil => simp
  | cons e r =>
    have := (h1 e (by rw [he]; simp)).1
    rw [he] at this
    exact this
theorem small_any (s : Sc) (pe pa pf : Option Addr) (ce ca cf : Nat) (w : World) (hs : EnumsAt w pe s.enums) (h1 : s.enums.length ≤ 281474976710656) (h2 : s.attrs.length ≤ 281474976710656) (h3 : s.fields.length ≤ 281474976710656) (h4 : ∀ e ∈ s.enums, e.syms.length ≤ 281474976710656) :
    Calls Tryz.prog 14 #[.agg #[.slice pe s.enums.length ce, .slice pa s.attrs.length ca, .slice pf s.fields.length cf]] w fun e w' => e = .returned (.bool (smallS s)) ∧ Below w.heap.size w w' := by
  have hb0 := (Below.refl w.heap.size w).alloc (Nat.le_refl _) (.cells #[.slice pe s.enums.length ce, .slice pa s.attrs.length ca, .slice pf s.fields.length cf] 42)
  have hbx : ∀ wr, Below (w.alloc (.cells #[.slice pe s.enums.length ce, .slice pa s.attrs.length ca, .slice pf s.fields.length cf] 42)).heap.size (w.alloc (.cells #[.slice pe s.enums.length ce, .slice pa s.attrs.length ca, .slice pf s.fields.length cf] 42)) wr → wr.cell? ⟨w.heap.size, 0, none⟩ = some (.slice pe s.enums.length ce) ∧ wr.cell? ⟨w.heap.size, 1, none⟩ = some (.slice pa s.attrs.length ca) ∧ wr.cell? ⟨w.heap.size, 2, none⟩ = some (.slice pf s.fields.length cf) := fun wr k => by
    have h := (k.block w.heap.size (by simp)).trans (heap_alloc_new w _)
    exact ⟨cell_of_row wr _ 0 _ _ (0, 0) h, cell_of_row wr _ 1 _ _ (0, 0) h, cell_of_row wr _ 2 _ _ (0, 0) h⟩
  have HS := Lib.hid hs
  have HB0 := Lib.hid hb0
  have HBX := Lib.hid hbx
  have i1 : (s.enums.length : Int) ≤ 281474976710656 := by omega
  have i2 : (s.attrs.length : Int) ≤ 281474976710656 := by omega
  have i3 : (s.fields.length : Int) ≤ 281474976710656 := by omega
  have H4 := Lib.hid h4
  clear hs hb0 hbx h4
  go_enter Tryz.func14, Tryz.ntmps14
  go_wp2_with fail
  go_loopw [8] (fun iv wr => ∃ k : Nat, k ≤ s.enums.length ∧ iv = .int .i64 k ∧ (∀ j, (h : j < s.enums.length) → j < k → s.enums.length ≤ 50 ∧ s.enums[j].syms.length ≤ 50) ∧ Below (w.alloc (.cells #[.slice pe s.enums.length ce, .slice pa s.attrs.length ca, .slice pf s.fields.length cf] 42)).heap.size (w.alloc (.cells #[.slice pe s.enums.length ce, .slice pa s.attrs.length ca, .slice pf s.fields.length cf] 42)) wr) (fun iv _ => s.enums.length - (intOf iv).toNat)
  case atStart => exact ⟨0, Nat.zero_le _, rfl, fun j _ h => absurd h (Nat.not_lt_zero _), Below.refl _ _⟩
  case round =>
    obtain ⟨k, hk, rfl, hA, hb⟩ := hrel
    have A := Lib.hid hA
    obtain ⟨q0, q1, q2⟩ := HBX.out wr hb
    have hsz : w.heap.size < wr.heap.size := by have := hb.size; simp at this; omega
    have BW := Lib.hid hb
    have BW0 := Lib.hid (HB0.out.trans (hb.mono HB0.out.size))
    clear hA hb
    by_cases hlt : k < s.enums.length
    · have hlti : (k : Int) < (s.enums.length : Int) := by omega
      obtain ⟨b, o, q, cc, rfl, hbl, f0, f1, _⟩ := (HS.out.later BW0.out) k hlt
      have h4 := H4.out s.enums[k] (List.getElem_mem hlt)
      obtain ⟨y, hy⟩ : ∃ y, y = s.enums[k] := ⟨_, rfl⟩
      rw [← hy] at f0 f1 h4
      have HY := Lib.hid hy
      clear hy
      have i4 : (y.syms.length : Int) ≤ 281474976710656 := by omega
      have zb : ∀ o j, (wr.alloc o).cell? ⟨w.heap.size, j, none⟩ = wr.cell? ⟨w.heap.size, j, none⟩ := fun o j => Kept.cell (Kept.alloc (ok := fun _ => True) wr o) trivial hsz
      have HBA := Lib.hid ((Below.refl wr.heap.size wr).alloc (Nat.le_refl _) (.cells #[.string (S y.name), .slice q y.syms.length cc] 81))
      by_cases hgood : s.enums.length ≤ 50 ∧ y.syms.length ≤ 50
      · have g1 : ¬ (50 : Int) < (s.enums.length : Int) := by omega
        have g2 : ¬ (50 : Int) < (y.syms.length : Int) := by omega
        go_wp2_with fail
        go_roundw
        case rel => exact ⟨k + 1, by omega, by go_num, fun j hj hjk => by
          by_cases e : j = k
          · subst e; rw [← HY.out]; exact hgood
          · exact A.out j hj (by omega), BW.out.trans (HBA.out.mono BW.out.size)⟩
        case measure => simp [intOf]; omega
      · have hr : smallS s = false := by
          cases hs : smallS s with
          | false => rfl
          | true =>
            obtain ⟨s1, s2, _⟩ := small_enums hs
            exact absurd ⟨s1, by rw [HY.out]; exact s2 _ (List.getElem_mem hlt)⟩ hgood
        have HR := Lib.hid hr
        clear hr
        by_cases g1 : (50 : Int) < (s.enums.length : Int)
        · go_wp2_with fail
          try simp only [Exit.inBlock, Exit.then]
          go_ret
          rw [HR.out]
          exact ⟨rfl, BW0.out.trans (HBA.out.mono BW0.out.size)⟩
        · have g2 : (50 : Int) < (y.syms.length : Int) := by omega
          go_wp2_with fail
          try simp only [Exit.inBlock, Exit.then]
          go_ret
          rw [HR.out]
          exact ⟨rfl, BW0.out.trans (HBA.out.mono BW0.out.size)⟩
    · have hlti : ¬ (k : Int) < (s.enums.length : Int) := by omega
      have hall : s.enums.all (fun e => decide (s.enums.length ≤ 50) && decide (e.syms.length ≤ 50)) = true := by
        rw [List.all_eq_true]
        intro e he
        obtain ⟨j, hj, rfl⟩ := List.mem_iff_getElem.1 he
        have := A.out j hj (by omega)
        simp [this.1, this.2]
      have HR := Lib.hid (show smallS s = (decide (s.attrs.length ≤ 50) && decide (s.fields.length ≤ 50)) by unfold smallS; rw [hall, Bool.true_and])
      clear hall
      by_cases g1 : (s.attrs.length : Int) ≤ 50
      · by_cases g2 : (s.fields.length : Int) ≤ 50
        · have g3 : smallS s = true := by rw [HR.out, decide_eq_true (by omega), decide_eq_true (by omega)]; rfl
          have G := Lib.hid g3
          clear g3
          go_wp2_with fail
          go_ret
          rw [G.out]
          exact ⟨rfl, BW0.out⟩
        · have g3 : smallS s = false := by rw [HR.out, decide_eq_true (by omega), decide_eq_false (by omega)]; rfl
          have G := Lib.hid g3
          clear g3
          go_wp2_with fail
          go_ret
          rw [G.out]
          exact ⟨rfl, BW0.out⟩
      · have g3 : smallS s = false := by rw [HR.out, decide_eq_false (by omega)]; rfl
        have G := Lib.hid g3
        clear g3
        go_wp2_with fail
        go_ret
        rw [G.out]
        exact ⟨rfl, BW0.out⟩
end Go.Proofs.YtlmmfhbdebfgkaaGreatDoor.Ty
namespace Go.Proofs.YtlmmfhbdebfgkaaGreatDoor.Ex
open Lx Va
abbrev Bare := Int × List UInt8 × Int
abbrev Pc := Option Bare
def sg (s : List UInt8) : Bare := (5, s, 0)
def spB (t : Bare) : List UInt8 := spellM t.1 t.2.1 t.2.2
def spP : Pc → List UInt8
  | none => [32]
  | some t => spB t
def flat (l : List Pc) : List UInt8 := l.flatMap spP
def toks (l : List Pc) : List Bare := l.filterMap id
theorem flat_append (a b : List Pc) : flat (a ++ b) = flat a ++ flat b := by simp [flat]
theorem flat_cons (p : Pc) (l : List Pc) : flat (p :: l) = spP p ++ flat l := by simp [flat]
theorem flat_nil : flat [] = [] := rfl
structure Tp where
  op : Int
  ps : List Pc
  open_ : Nat
def Tp.tx (y : Tp) : Tx := ⟨y.op, flat y.ps, y.open_⟩
def Tp.within (x : Tp) (least : Nat) : List Pc × Nat := if bound x.op < least then (some (sg [40]) :: (x.ps ++ [some (sg [41])]), x.open_ + 1) else (x.ps, x.open_)
def commaP : List Tp → List Pc
  | [] => []
  | [x] => x.ps
  | x :: r => x.ps ++ some (sg [44]) :: none :: commaP r
def mostP : List Tp → Nat
  | [] => 0
  | x :: r => max x.open_ (mostP r)
def leafP (o n : Int) (t : List UInt8) : List Pc :=
  if o = 1 then [some (2, decZ n, n)] else if o = 2 then [some (3, t, 0)] else if o = 3 then [some (1, if n = 1 then wTrue else wFalse, 0)] else if o = 4 then [some (4, t, 0)]
  else if o = 7 then [some (1, wMsg, 0), some (sg [46]), some (1, t, 0)] else [some (1, t, 0)]
def callP (w : List UInt8) (l : List Tp) : List Pc := some (1, w, 0) :: some (sg [40]) :: (commaP l ++ [some (sg [41])])
def nodeTp (o n : Int) (t : List UInt8) (l : List Tp) : Tp :=
  if o = 10 ∨ o = 11 then (match l with
    | x :: _ => ⟨o, some (sg (if o = 10 then [33] else [45])) :: (x.within 5).1, (x.within 5).2 + 1⟩
    | [] => ⟨o, [], 0⟩)
  else if o = 5 then ⟨o, some (sg [91]) :: (commaP l ++ [some (sg [93])]), mostP l + 1⟩
  else if o = 12 then ⟨o, callP wLen l, mostP l + 1⟩
  else if o = 25 then ⟨o, callP wAt l, mostP l + 1⟩
  else if o = 26 then ⟨o, callP wPush l, mostP l + 1⟩
  else if o < 10 then ⟨o, leafP o n t, 0⟩
  else match l with
    | x :: y :: _ => ⟨o, (x.within (if bound o = 2 then 3 else bound o)).1 ++ none :: some (sg (signL o)) :: none :: (y.within (bound o + 1)).1, max (x.within (if bound o = 2 then 3 else bound o)).2 (y.within (bound o + 1)).2⟩
    | _ => ⟨o, [], 0⟩
def tpF : F → List Tp
  | .nil => []
  | .cons o n t a r => nodeTp o n t (tpF a) :: tpF r
def T.tp (t : T) : Tp := nodeTp t.op t.num t.text (tpF t.args)
theorem spB_sign (s : List UInt8) : spB (sg s) = s := by simp [spB, sg, spellM]
theorem spB_name (s : List UInt8) : spB (1, s, 0) = s := by simp [spB, spellM]
theorem within_tx (y : Tp) (k : Nat) : y.tx.within k = (flat (y.within k).1, (y.within k).2) := by
  unfold Tx.within Tp.within Tp.tx
  simp only
  split
  · simp [flat_cons, flat_append, spP, spB_sign, flat_nil]
  · rfl
theorem commas_tx : ∀ l : List Tp, commas (l.map Tp.tx) = flat (commaP l)
  | [] => rfl
  | [x] => rfl
  | x :: y :: r => by
    have ih := commas_tx (y :: r)
    show x.tx.text ++ [44, 32] ++ commas ((y :: r).map Tp.tx) = flat (x.ps ++ some (sg [44]) :: none :: commaP (y :: r))
    rw [ih, flat_append, flat_cons, flat_cons]
    simp [spP, spB_sign, Tp.tx]
theorem most_tx : ∀ l : List Tp, most (l.map Tp.tx) = mostP l
  | [] => rfl
  | x :: r => by
    show max x.open_ (most (r.map Tp.tx)) = max x.open_ (mostP r)
    rw [most_tx r]
theorem leaf_tx (o n : Int) (t : List UInt8) : flat (leafP o n t) = leafL o n t := by
  unfold leafP leafL
  split
  · simp [flat_cons, flat_nil, spP, spB, spellM, printV]
  split
  · simp [flat_cons, flat_nil, spP, spB, spellM, printV]
  split
  · rename_i h1 h2 h3
    simp only [flat_cons, flat_nil, spP, spB_name, printV]
    by_cases h : n = 1
    · subst h; simp [wTrue]
    · simp [h, wFalse]
  split
  · simp [flat_cons, flat_nil, spP, spB, spellM]
  split
  · simp [flat_cons, flat_nil, spP, spB_name, spB_sign]
  · simp [flat_cons, flat_nil, spP, spB_name]
theorem call_tx (w : List UInt8) (l : List Tp) : flat (callP w l) = w ++ [40] ++ flat (commaP l) ++ [41] := by
  simp [callP, flat_cons, flat_append, flat_nil, spP, spB_name, spB_sign]
theorem node_tx (o n : Int) (t : List UInt8) (l : List Tp) : nodeTx o n t (l.map Tp.tx) = (nodeTp o n t l).tx := by
  unfold nodeTx nodeTp
  split
  · cases l with
    | nil => rfl
    | cons x r =>
      simp only [List.map_cons, within_tx]
      simp only [Tp.tx, flat_cons, spP, spB_sign]
  split
  · simp only [commas_tx, most_tx, Tp.tx, flat_cons, flat_append, flat_nil, spP, spB_sign, List.append_nil, List.append_assoc]
  split
  · simp only [commas_tx, most_tx, Tp.tx, call_tx]
  split
  · simp only [commas_tx, most_tx, Tp.tx, call_tx]
  split
  · simp only [commas_tx, most_tx, Tp.tx, call_tx]
  split
  · simp only [Tp.tx, leaf_tx]
  match l with
  | [] => rfl
  | [x] => rfl
  | x :: y :: r =>
    simp only [List.map_cons, within_tx]
    simp only [Tp.tx, flat_append, flat_cons, spP, spB_sign, List.append_assoc, List.singleton_append, List.cons_append, List.nil_append]
theorem txF_tp : ∀ f : F, txF f = (tpF f).map Tp.tx
  | .nil => rfl
  | .cons o n t a r => by
    show nodeTx o n t (txF a) :: txF r = (nodeTp o n t (tpF a)).tx :: (tpF r).map Tp.tx
    rw [txF_tp a, txF_tp r, node_tx]
theorem T.tx_tp (t : T) : t.tx = t.tp.tx := by
  unfold T.tx T.tp
  rw [txF_tp, node_tx]
def F.size : F → Nat
  | .nil => 0
  | .cons _ _ _ a r => a.size + 1 + r.size
def WfF : F → Prop
  | .nil => True
  | .cons o n t a r => formedB o n t a.len = true ∧ namedB o t = true ∧ WfF a ∧ WfF r
theorem wf_chk : ∀ (f : F) (n : Nat), WfF f → n + f.size ≤ 200 → (chkF f n).1 = 0 ∧ (chkF f n).2 = n + f.size
  | .nil, n, _, _ => ⟨rfl, rfl⟩
  | .cons o nm t a r, n, ⟨h2, h3, w1, w2⟩, h => by
    simp only [F.size] at h
    obtain ⟨i1, i2⟩ := wf_chk a (n + 1) w1 (by omega)
    obtain ⟨j1, j2⟩ := wf_chk r (chkF a (n + 1)).2 w2 (by rw [i2]; omega)
    unfold chkF
    rw [if_neg (by omega), h2, h3]
    simp only [Bool.true_eq_false, ↓reduceIte, i1, j1, true_and]
    rw [j2, i2]; simp only [F.size]; omega
end Go.Proofs.YtlmmfhbdebfgkaaGreatDoor.Ex
namespace Go.Proofs.YtlmmfhbdebfgkaaGreatDoor.Ex
open Lx Va
def T.size (x : T) : Nat := x.args.size + 1
theorem within_no {y : Tp} {k : Nat} (h : ¬ bound y.op < k) : y.within k = (y.ps, y.open_) := by unfold Tp.within; rw [if_neg h]
theorem within_yes {y : Tp} {k : Nat} (h : bound y.op < k) : y.within k = (some (sg [40]) :: (y.ps ++ [some (sg [41])]), y.open_ + 1) := by unfold Tp.within; rw [if_pos h]
theorem nodeTp_op (o n : Int) (t : List UInt8) (l : List Tp) : (nodeTp o n t l).op = o := by
  unfold nodeTp
  repeat' split
  all_goals rfl
theorem T.tp_op (x : T) : x.tp.op = x.op := nodeTp_op _ _ _ _
theorem F.two_of {a : F} (h : a.len = 2) : ∃ x y : T, a = two x y := by
  match a, h with
  | .cons o n t a (.cons o' n' t' a' .nil), _ => exact ⟨⟨o, n, t, a⟩, ⟨o', n', t', a'⟩, rfl⟩
theorem F.one_of {a : F} (h : a.len = 1) : ∃ x : T, a = x.row := by
  match a, h with
  | .cons o n t a .nil, _ => exact ⟨⟨o, n, t, a⟩, rfl⟩
theorem F.none_of {a : F} (h : a.len = 0) : a = .nil := by
  match a, h with
  | .nil, _ => rfl
structure Frm (o n : Int) (t : List UInt8) (len : Nat) : Prop where
  cnt : cntB o len = true
  num : n = 0 ∨ o = 1 ∨ o = 3
  pos : 0 ≤ n
  bool : o = 3 → n ≤ 1
  text : t = [] ∨ o = 2 ∨ o = 4 ∨ o = 6 ∨ o = 7
  short : o = 2 → t.length ≤ 64
theorem frm {o n : Int} {t : List UInt8} {len : Nat} (h : formedB o n t len = true) : Frm o n t len := by
  unfold formedB at h
  simp only [Bool.and_eq_true, Bool.or_eq_true, beq_iff_eq, decide_eq_true_eq, Bool.not_eq_true', Bool.and_eq_false_iff, beq_eq_false_iff_ne, decide_eq_false_iff_not, List.isEmpty_iff] at h
  obtain ⟨⟨⟨⟨⟨h1, h2⟩, h3⟩, h4⟩, h5⟩, h6⟩ := h
  exact ⟨h1, by omega, h3, fun e => by rcases h4 with h | h <;> omega, by rcases h5 with (((h | h) | h) | h) | h <;> simp_all, fun e => by rcases h6 with h | h; exact absurd e h; omega⟩
theorem two_size (x y : T) : (two x y).size = x.size + y.size := by
  simp only [two, T.row, F.size, T.size] <;> omega
theorem tp_two {o n : Int} {t : List UInt8} {x y : T} (ho : o = 41 ∨ o = 40 ∨ o = 30 ∨ o = 31 ∨ o = 32 ∨ o = 33 ∨ o = 23 ∨ o = 24 ∨ o = 20 ∨ o = 21 ∨ o = 22) :
    T.tp ⟨o, n, t, two x y⟩ = ⟨o, (x.tp.within (if bound o = 2 then 3 else bound o)).1 ++ none :: some (sg (signL o)) :: none :: (y.tp.within (bound o + 1)).1, max (x.tp.within (if bound o = 2 then 3 else bound o)).2 (y.tp.within (bound o + 1)).2⟩ := by
  have e : tpF (two x y) = [x.tp, y.tp] := rfl
  show nodeTp o n t (tpF (two x y)) = _
  rw [e]
  unfold nodeTp
  rw [if_neg (by omega), if_neg (by omega), if_neg (by omega), if_neg (by omega), if_neg (by omega), if_neg (by omega)]
end Go.Proofs.YtlmmfhbdebfgkaaGreatDoor.Ex
namespace Go.Proofs.YtlmmfhbdebfgkaaGreatDoor.Ex
open Lx Va
theorem node_kinds {o n : Int} {t : List UInt8} {a : F} (hf : Frm o n t a.len) :
    ((o = 1 ∨ o = 2 ∨ o = 3 ∨ o = 4 ∨ o = 6 ∨ o = 7) ∧ a = .nil) ∨ (o = 5 ∧ a.len ≤ 16) ∨ ((o = 10 ∨ o = 11) ∧ ∃ x : T, a = x.row) ∨ (o = 12 ∧ ∃ x : T, a = x.row) ∨ ((o = 25 ∨ o = 26) ∧ ∃ x y : T, a = two x y) ∨
    ((o = 41 ∨ o = 40 ∨ o = 30 ∨ o = 31 ∨ o = 32 ∨ o = 33 ∨ o = 23 ∨ o = 24 ∨ o = 20 ∨ o = 21 ∨ o = 22) ∧ ∃ x y : T, a = two x y) := by
  have hc := hf.cnt
  unfold cntB at hc
  by_cases h5 : o = 5
  · rw [if_pos h5] at hc; exact .inr (.inl ⟨h5, by simpa using hc⟩)
  rw [if_neg h5] at hc
  by_cases h7 : 1 ≤ o ∧ o ≤ 7
  · rw [if_pos h7] at hc; exact .inl ⟨by omega, F.none_of (by simpa using hc)⟩
  rw [if_neg h7] at hc
  by_cases h10 : 10 ≤ o ∧ o ≤ 12
  · rw [if_pos h10] at hc
    have := F.one_of (a := a) (by simpa using hc)
    by_cases h12 : o = 12
    · exact .inr (.inr (.inr (.inl ⟨h12, this⟩)))
    · exact .inr (.inr (.inl ⟨by omega, this⟩))
  rw [if_neg h10] at hc
  by_cases h20 : 20 ≤ o ∧ o ≤ 26 ∨ 30 ≤ o ∧ o ≤ 33 ∨ o = 40 ∨ o = 41
  · rw [if_pos h20] at hc
    have := F.two_of (a := a) (by simpa using hc)
    by_cases h25 : o = 25 ∨ o = 26
    · exact .inr (.inr (.inr (.inr (.inl ⟨h25, this⟩))))
    · exact .inr (.inr (.inr (.inr (.inr ⟨by omega, this⟩))))
  · rw [if_neg h20] at hc; cases hc
def AllF (p : T → Prop) : F → Prop
  | .nil => True
  | .cons o n t a r => p ⟨o, n, t, a⟩ ∧ AllF p r
theorem tp_un {o n : Int} {t : List UInt8} {x : T} (ho : o = 10 ∨ o = 11) : T.tp ⟨o, n, t, x.row⟩ = ⟨o, some (sg (if o = 10 then [33] else [45])) :: (x.tp.within 5).1, (x.tp.within 5).2 + 1⟩ := by
  show nodeTp o n t [x.tp] = _
  unfold nodeTp
  rw [if_pos ho]
theorem tp_leaf {o n : Int} {t : List UInt8} {a : F} (ho : o = 1 ∨ o = 2 ∨ o = 3 ∨ o = 4 ∨ o = 6 ∨ o = 7) : T.tp ⟨o, n, t, a⟩ = ⟨o, leafP o n t, 0⟩ := by
  show nodeTp o n t (tpF a) = _
  unfold nodeTp
  rw [if_neg (by omega), if_neg (by omega), if_neg (by omega), if_neg (by omega), if_neg (by omega), if_pos (by omega)]
theorem tp_list {n : Int} {t : List UInt8} {a : F} : T.tp ⟨5, n, t, a⟩ = ⟨5, some (sg [91]) :: (commaP (tpF a) ++ [some (sg [93])]), mostP (tpF a) + 1⟩ := by
  show nodeTp 5 n t (tpF a) = _
  unfold nodeTp
  rw [if_neg (by omega), if_pos rfl]
def callW (o : Int) : List UInt8 := if o = 12 then wLen else if o = 25 then wAt else wPush
theorem tp_call {o n : Int} {t : List UInt8} {a : F} (ho : o = 12 ∨ o = 25 ∨ o = 26) : T.tp ⟨o, n, t, a⟩ = ⟨o, callP (callW o) (tpF a), mostP (tpF a) + 1⟩ := by
  show nodeTp o n t (tpF a) = _
  unfold nodeTp
  rcases ho with rfl | rfl | rfl <;> rfl
theorem bound_six {o : Int} (h : (o = 1 ∨ o = 2 ∨ o = 3 ∨ o = 4 ∨ o = 6 ∨ o = 7) ∨ o = 5 ∨ o = 12 ∨ o = 25 ∨ o = 26) : bound o = 6 := by
  rcases h with (rfl | rfl | rfl | rfl | rfl | rfl) | rfl | rfl | rfl | rfl <;> rfl
end Go.Proofs.YtlmmfhbdebfgkaaGreatDoor.Ex
namespace Go.Proofs.YtlmmfhbdebfgkaaGreatDoor.Ex
open Lx Va
def NumF : F → Prop
  | .nil => True
  | .cons _ n _ a r => n ≤ 9223372036854775807 ∧ NumF a ∧ NumF r
theorem named_six {o : Int} {t : List UInt8} (h : namedB o t = true) (ho : o = 4 ∨ o = 6 ∨ o = 7) : nameB t = true := by
  unfold namedB at h
  rcases ho with rfl | rfl | rfl <;> simp at h
  · exact h
  · exact h.1
  · exact h
end Go.Proofs.YtlmmfhbdebfgkaaGreatDoor.Ex
