/-
  VaPure, VaKeys, LxPure, ExPure, ExTree, TyPure, EvPure, Mem, EvNeed.
-/
import Derived.Test.YtlmmfhbdebfgkaaGreatDoorRows
import Derived.WalkKit
import Derived.WalkSpells
import Derived.WalkLawsBesides
import Derived.Lib.Hide
set_option linter.unusedVariables false
set_option linter.unusedSimpArgs false
namespace Go.Proofs.YtlmmfhbdebfgkaaGreatDoor.Va
structure V where
  kind : Int
  num : Int
  text : List UInt8
  list : List Int
def letB (c : UInt8) : Bool := (97 ≤ c && c ≤ 122) || (65 ≤ c && c ≤ 90)
def digB (c : UInt8) : Bool := 48 ≤ c && c ≤ 57
def wordB (c : UInt8) : Bool := letB c || digB c || c == 95
def nameB (s : List UInt8) : Bool := match s with
  | [] => false
  | c :: r => letB c && r.all wordB && decide (r.length ≤ 23)
theorem nameB_take (s : List UInt8) (h : nameB s = true) (k : Nat) (hk : 1 ≤ k) : nameB (s.take k) = true := by
  cases s with
  | nil => simp [nameB] at h
  | cons c r =>
    obtain ⟨k, rfl⟩ : ∃ n, k = n + 1 := ⟨k - 1, by omega⟩
    simp only [nameB, Bool.and_eq_true, decide_eq_true_eq, List.take_succ_cons, List.all_eq_true] at h ⊢
    exact ⟨⟨h.1.1, fun x hx => h.1.2 x (List.mem_of_mem_take hx)⟩, by rw [List.length_take]; omega⟩
theorem nameB_ne {s : List UInt8} (h : nameB s = true) : s ≠ [] ∧ s.length ≤ 24 ∧ ∀ c ∈ s, wordB c = true := by
  cases s with
  | nil => simp [nameB] at h
  | cons c r =>
    simp only [nameB, Bool.and_eq_true, decide_eq_true_eq, List.all_eq_true] at h
    refine ⟨by simp, by simp; omega, ?_⟩
    intro x hx
    rcases List.mem_cons.1 hx with rfl | hx
    · simp [wordB, h.1.1]
    · exact h.1.2 x hx
def rightB (v : V) : Bool :=
  decide (0 ≤ v.kind ∧ v.kind ≤ 5) && (v.kind == 1 || (v.kind == 2 && (v.num == 0 || v.num == 1)) || v.num == 0) &&
  ((v.kind == 3 && decide (v.text.length ≤ 64)) || (v.kind == 4 && nameB v.text) || (v.kind != 3 && v.kind != 4 && v.text.isEmpty)) &&
  ((v.kind == 5 && decide (v.list.length ≤ 16)) || (v.kind != 5 && v.list.isEmpty))
def ordI (a b : Int) : Int := if a < b then -1 else if b < a then 1 else 0
def ordL : List Int → List Int → Int
  | [], [] => 0
  | [], _ :: _ => -1
  | _ :: _, [] => 1
  | a :: r, b :: s => if a = b then ordL r s else ordI a b
def ordT : List UInt8 → List UInt8 → Int
  | [], [] => 0
  | [], _ :: _ => -1
  | _ :: _, [] => 1
  | a :: r, b :: s => if a = b then ordT r s else ordI a.toNat b.toNat
def ordV (a b : V) : Int :=
  if a.kind ≠ b.kind then ordI a.kind b.kind else if a.num ≠ b.num then ordI a.num b.num else if a.text ≠ b.text then ordT a.text b.text else ordL a.list b.list
structure Cmp {α : Type} (c : α → α → Int) : Prop where
  swap : ∀ a b, c b a = - c a b
  zero : ∀ a b, c a b = 0 ↔ a = b
  trans : ∀ a b d, c a b < 0 → c b d < 0 → c a d < 0
theorem Cmp.le {α : Type} {c : α → α → Int} (h : Cmp c) {a b d : α} (h1 : c a b ≤ 0) (h2 : c b d ≤ 0) : c a d ≤ 0 := by
  by_cases e1 : c a b = 0
  · rw [(h.zero a b).1 e1]; exact h2
  · by_cases e2 : c b d = 0
    · rw [← (h.zero b d).1 e2]; exact h1
    · have := h.trans a b d (by omega) (by omega); omega
theorem Cmp.ge {α : Type} {c : α → α → Int} (h : Cmp c) {a b d : α} (h1 : 0 ≤ c a b) (h2 : 0 ≤ c b d) : 0 ≤ c a d := by
  have h3 := h.swap a b
  have h4 := h.swap b d
  have h5 := h.swap a d
  have := h.le (a := d) (b := b) (d := a) (by omega) (by omega)
  omega
theorem cmpI : Cmp ordI := by
  refine ⟨?_, ?_, ?_⟩
  · intro a b; unfold ordI; split <;> split <;> (try split) <;> omega
  · intro a b; unfold ordI; split <;> (try split) <;> constructor <;> intro h <;> omega
  · intro a b d; unfold ordI; split <;> split <;> (try split) <;> (try split) <;> (try split) <;> omega
theorem ordL_swap : ∀ a b, ordL b a = - ordL a b
  | [], [] => rfl
  | [], _ :: _ => rfl
  | _ :: _, [] => rfl
  | a :: r, b :: s => by
    unfold ordL
    by_cases h : a = b
    · rw [if_pos h, if_pos h.symm]; exact ordL_swap r s
    · rw [if_neg h, if_neg (fun e => h e.symm)]; exact cmpI.swap a b
theorem ordL_zero : ∀ a b, ordL a b = 0 ↔ a = b
  | [], [] => by simp [ordL]
  | [], _ :: _ => by simp [ordL]
  | _ :: _, [] => by simp [ordL]
  | a :: r, b :: s => by
    unfold ordL
    by_cases h : a = b
    · rw [if_pos h, ordL_zero r s]; simp [h]
    · rw [if_neg h, cmpI.zero]; simp [h]
theorem ordL_trans : ∀ a b d, ordL a b < 0 → ordL b d < 0 → ordL a d < 0
  | [], [], _, h, _ => by simp [ordL] at h
  | [], _ :: _, [], _, h => by simp [ordL] at h
  | [], _ :: _, _ :: _, _, _ => by simp [ordL]
  | _ :: _, [], _, h, _ => by simp [ordL] at h
  | _ :: _, _ :: _, [], _, h => by simp [ordL] at h
  | a :: r, b :: s, d :: t, h1, h2 => by
    unfold ordL at h1 h2 ⊢
    by_cases e1 : a = b
    · subst e1
      rw [if_pos rfl] at h1
      by_cases e2 : a = d
      · rw [if_pos e2] at h2 ⊢; exact ordL_trans r s t h1 h2
      · rw [if_neg e2] at h2 ⊢; exact h2
    · rw [if_neg e1] at h1
      by_cases e2 : b = d
      · subst e2; rw [if_neg e1]; exact h1
      · rw [if_neg e2] at h2
        have := cmpI.trans a b d h1 h2
        by_cases e3 : a = d
        · subst e3; have := cmpI.swap a b; omega
        · rw [if_neg e3]; exact this
theorem ordT_map : ∀ a b : List UInt8, ordT a b = ordL (a.map fun c => (c.toNat : Int)) (b.map fun c => (c.toNat : Int))
  | [], [] => rfl
  | [], _ :: _ => rfl
  | _ :: _, [] => rfl
  | a :: r, b :: s => by
    simp only [ordT, ordL, List.map_cons]
    by_cases h : a = b
    · subst h; rw [if_pos rfl, if_pos rfl]; exact ordT_map r s
    · rw [if_neg h, if_neg (fun e => h (UInt8.toNat_inj.1 (by omega)))]
theorem map_inj {a b : List UInt8} (h : a.map (fun c => (c.toNat : Int)) = b.map fun c => (c.toNat : Int)) : a = b := by
  induction a generalizing b with
  | nil => cases b with
    | nil => rfl
    | cons => simp at h
  | cons x r ih => cases b with
    | nil => simp at h
    | cons y s =>
      simp only [List.map_cons, List.cons.injEq] at h
      rw [ih h.2, UInt8.toNat_inj.1 (show x.toNat = y.toNat by omega)]
theorem cmpT : Cmp ordT := by
  refine ⟨fun a b => ?_, fun a b => ?_, fun a b d => ?_⟩
  · rw [ordT_map, ordT_map]; exact ordL_swap _ _
  · rw [ordT_map, ordL_zero]; exact ⟨map_inj, fun h => by rw [h]⟩
  · rw [ordT_map, ordT_map, ordT_map]; exact ordL_trans _ _ _
theorem ordV_eq (a b : V) : ordV a b = if a.kind = b.kind then (if a.num = b.num then (if a.text = b.text then ordL a.list b.list else ordT a.text b.text) else ordI a.num b.num) else ordI a.kind b.kind := by
  simp only [ordV, ne_eq, ite_not]
theorem ordV_zero (a b : V) : ordV a b = 0 ↔ a = b := by
  unfold ordV
  obtain ⟨k, n, t, l⟩ := a
  obtain ⟨k', n', t', l'⟩ := b
  simp only [V.mk.injEq]
  by_cases h1 : k = k'
  · rw [if_neg (by simp [h1])]
    by_cases h2 : n = n'
    · rw [if_neg (by simp [h2])]
      by_cases h3 : t = t'
      · rw [if_neg (by simp [h3]), ordL_zero]; simp [h1, h2, h3]
      · rw [if_pos h3, cmpT.zero]; simp [h3]
    · rw [if_pos h2, cmpI.zero]; simp [h2]
  · rw [if_pos h1, cmpI.zero]; simp [h1]
end Go.Proofs.YtlmmfhbdebfgkaaGreatDoor.Va
namespace Go.Proofs.YtlmmfhbdebfgkaaGreatDoor.Va
def digs (n : Nat) : List UInt8 := if h : n < 10 then [UInt8.ofNat (48 + n)] else digs (n / 10) ++ [UInt8.ofNat (48 + n % 10)]
termination_by n
decreasing_by omega
def undig (l : List UInt8) : Nat := l.foldl (fun a c => 10 * a + (c.toNat - 48)) 0
theorem dig_nat (k : Nat) (h : k < 10) : (UInt8.ofNat (48 + k)).toNat = 48 + k := by simp [UInt8.toNat_ofNat']; omega
theorem undig_digs (n : Nat) : undig (digs n) = n := by
  induction n using Nat.strongRecOn with
  | ind n ih =>
    rw [digs]
    split
    · rename_i h; simp only [undig, List.foldl_cons, List.foldl_nil]; rw [dig_nat n h]; omega
    · rename_i h
      have := ih (n / 10) (by omega)
      unfold undig at this ⊢
      rw [List.foldl_append, this]
      simp only [List.foldl_cons, List.foldl_nil]
      rw [dig_nat _ (by omega)]; omega
theorem digs_dig (n : Nat) : (∀ c ∈ digs n, digB c = true) ∧ digs n ≠ [] := by
  have hd : ∀ k, k < 10 → digB (UInt8.ofNat (48 + k)) = true := fun k hk => by
    have : ∀ i : Fin 10, digB (UInt8.ofNat (48 + i.val)) = true := by decide
    exact this ⟨k, hk⟩
  induction n using Nat.strongRecOn with
  | ind n ih =>
    rw [digs]
    split
    · rename_i h; exact ⟨fun c hc => by rw [List.mem_singleton] at hc; rw [hc]; exact hd n h, by simp⟩
    · rename_i h
      refine ⟨fun c hc => ?_, by simp⟩
      rcases List.mem_append.1 hc with h1 | h1
      · exact (ih (n / 10) (by omega)).1 c h1
      · rw [List.mem_singleton] at h1; rw [h1]; exact hd _ (by omega)
def decZ (n : Int) : List UInt8 := if n < 0 then 45 :: digs n.natAbs else digs n.toNat
def numB (c : UInt8) : Bool := digB c || c == 45
theorem decZ_num (n : Int) : (∀ c ∈ decZ n, numB c = true) ∧ decZ n ≠ [] := by
  unfold decZ
  split
  · refine ⟨fun c hc => ?_, by simp⟩
    rcases List.mem_cons.1 hc with rfl | h
    · rfl
    · simp [numB, (digs_dig _).1 c h]
  · exact ⟨fun c hc => by simp [numB, (digs_dig _).1 c hc], (digs_dig _).2⟩
def hexC (n : Nat) : UInt8 := if n < 10 then UInt8.ofNat (48 + n) else UInt8.ofNat (87 + n)
def unhex (c : UInt8) : Nat := if c < 58 then c.toNat - 48 else c.toNat - 87
def esc (c : UInt8) : List UInt8 := if c < 32 || 126 < c then [92, 120, hexC (c.toNat / 16), hexC (c.toNat % 16)] else if c == 34 || c == 92 then [92, c] else [c]
def unesc : List UInt8 → Option (UInt8 × List UInt8)
  | [] => none
  | c :: r => if c = 34 then none else if c = 92 then match r with
    | [] => none
    | x :: r => if x = 120 then match r with
      | a :: b :: r => some (UInt8.ofNat (16 * unhex a + unhex b), r)
      | _ => none
      else some (x, r)
    else some (c, r)
theorem hex_back (c : UInt8) : UInt8.ofNat (16 * unhex (hexC (c.toNat / 16)) + unhex (hexC (c.toNat % 16))) = c := by
  have : ∀ i : Fin 256, UInt8.ofNat (16 * unhex (hexC (i.val / 16)) + unhex (hexC (i.val % 16))) = UInt8.ofNat i.val := by decide +kernel
  have h := this ⟨c.toNat, c.toNat_lt⟩
  simpa using h
theorem unesc_esc (c : UInt8) (r : List UInt8) : unesc (esc c ++ r) = some (c, r) := by
  unfold esc
  by_cases h1 : (c < 32 || 126 < c) = true
  · rw [if_pos h1]
    have e : ∀ (a b : UInt8) (r : List UInt8), unesc (92 :: 120 :: a :: b :: r) = some (UInt8.ofNat (16 * unhex a + unhex b), r) := fun _ _ _ => rfl
    have := e (hexC (c.toNat / 16)) (hexC (c.toNat % 16)) r
    rw [hex_back] at this
    exact this
  · rw [if_neg h1]
    by_cases h2 : (c == 34 || c == 92) = true
    · rw [if_pos h2]
      have h120 : c ≠ 120 := by intro e; subst e; simp at h2
      simp [unesc, h120]
    · rw [if_neg h2]
      simp only [List.cons_append, List.nil_append, unesc]
      simp only [Bool.or_eq_true, beq_iff_eq, not_or] at h2
      rw [if_neg h2.1, if_neg h2.2]
def escT (t : List UInt8) : List UInt8 := t.flatMap esc
theorem escT_split : ∀ (t s r q : List UInt8), escT t ++ 34 :: r = escT s ++ 34 :: q → t = s ∧ r = q
  | [], [], r, q, h => ⟨rfl, (List.cons.inj h).2⟩
  | [], c :: s, r, q, h => by
    have h1 : unesc (34 :: r) = none := by simp [unesc]
    have h2 : (34 :: r : List UInt8) = esc c ++ (escT s ++ 34 :: q) := by
      have : escT (c :: s) = esc c ++ escT s := rfl
      rw [this, List.append_assoc] at h; exact h
    rw [h2, unesc_esc] at h1; cases h1
  | c :: t, [], r, q, h => by
    have h1 : unesc (34 :: q) = none := by simp [unesc]
    have h2 : (34 :: q : List UInt8) = esc c ++ (escT t ++ 34 :: r) := by
      have : escT (c :: t) = esc c ++ escT t := rfl
      rw [this, List.append_assoc] at h; exact h.symm
    rw [h2, unesc_esc] at h1; cases h1
  | c :: t, d :: s, r, q, h => by
    have e1 : escT (c :: t) = esc c ++ escT t := rfl
    have e2 : escT (d :: s) = esc d ++ escT s := rfl
    rw [e1, e2, List.append_assoc, List.append_assoc] at h
    have h3 := congrArg unesc h
    rw [unesc_esc, unesc_esc] at h3
    simp only [Option.some.injEq, Prod.mk.injEq] at h3
    obtain ⟨a1, a2⟩ := escT_split t s r q h3.2
    exact ⟨by rw [h3.1, a1], a2⟩
def numsT : List Int → List UInt8
  | [] => []
  | [n] => decZ n
  | n :: m :: r => decZ n ++ 44 :: 32 :: numsT (m :: r)
def printV (v : V) : List UInt8 :=
  if v.kind = 1 then decZ v.num else if v.kind = 2 then (if v.num = 1 then [116, 114, 117, 101] else [102, 97, 108, 115, 101])
  else if v.kind = 3 then 34 :: (escT v.text ++ [34]) else if v.kind = 4 then 39 :: v.text else if v.kind = 5 then 91 :: (numsT v.list ++ [93]) else [110, 111, 110, 101]
def Sep (r : List UInt8) : Prop := r = [] ∨ ∃ t, r = 44 :: t
theorem Sep.no {r : List UInt8} (h : Sep r) (p : UInt8 → Bool) (hp : p 44 = false) : ∀ c t, r = c :: t → p c = false := by
  intro c t e
  rcases h with h | ⟨q, h⟩
  · rw [h] at e; cases e
  · rw [h] at e; rw [← (List.cons.inj e).1]; exact hp
theorem right_cases {v : V} (h : rightB v = true) :
    (v.kind = 0 ∧ v.num = 0 ∧ v.text = [] ∧ v.list = []) ∨ (v.kind = 1 ∧ v.text = [] ∧ v.list = []) ∨ (v.kind = 2 ∧ (v.num = 0 ∨ v.num = 1) ∧ v.text = [] ∧ v.list = []) ∨
    (v.kind = 3 ∧ v.num = 0 ∧ v.list = []) ∨ (v.kind = 4 ∧ v.num = 0 ∧ nameB v.text = true ∧ v.list = []) ∨ (v.kind = 5 ∧ v.num = 0 ∧ v.text = []) := by
  obtain ⟨k, n, t, l⟩ := v
  simp only [rightB, Bool.and_eq_true, Bool.or_eq_true, decide_eq_true_eq, beq_iff_eq, bne_iff_ne, ne_eq, List.isEmpty_iff] at h ⊢
  obtain ⟨⟨⟨h1, h2⟩, h3⟩, h4⟩ := h
  have hk : k = 0 ∨ k = 1 ∨ k = 2 ∨ k = 3 ∨ k = 4 ∨ k = 5 := by omega
  rcases hk with rfl | rfl | rfl | rfl | rfl | rfl <;> simp_all <;> omega
end Go.Proofs.YtlmmfhbdebfgkaaGreatDoor.Va
namespace Go.Proofs.YtlmmfhbdebfgkaaGreatDoor.Lx
open Va
def whiteB (c : UInt8) : Bool := c == 9 || c == 10 || c == 13 || c == 32
def blk : Bool → List UInt8 → Nat
  | _, [] => 0
  | true, c :: r => if c = 10 then 1 + blk false r else 1 + blk true r
  | false, c :: r => if whiteB c = true then 1 + blk false r else if c = 47 ∧ r.head? = some 47 then 1 + blk true r else 0
def quo : Nat → List UInt8 → Option (List UInt8 × Nat)
  | 0, _ => none
  | f + 1, l => if l.head? = some 34 then some ([], 1) else match unesc l with
    | none => none
    | some (c, r) => if esc c ++ r = l then match quo f r with
      | none => none
      | some (t, n) => some (c :: t, (esc c).length + n)
      else none
def signs : List (List UInt8) := [[45, 62], [46, 46], [61, 61], [33, 61], [60, 61], [62, 61], [38, 38], [124, 124], [123], [125], [40], [41], [91], [93], [59], [58], [44], [46], [61], [60], [62], [43], [45], [42], [47], [37], [33]]
def digsOk (d : List UInt8) : Bool := (d.length == 1 || d.head? != some 48) && decide (undig d ≤ 9223372036854775807)
structure Tok where
  kind : Int
  text : List UInt8
  num : Int
  len : Nat
deriving DecidableEq
def tokM : List UInt8 → Option Tok
  | [] => none
  | c :: r =>
    if c = 39 then (let n := r.takeWhile wordB; if nameB n = true then some ⟨4, n, 0, n.length + 1⟩ else none)
    else if letB c = true then (let n := (c :: r).takeWhile wordB; if nameB n = true then some ⟨1, n, 0, n.length⟩ else none)
    else if digB c = true then (let d := (c :: r).takeWhile digB; if digsOk d = true then some ⟨2, d, undig d, d.length⟩ else none)
    else if c = 34 then (match quo (r.length + 1) r with
      | none => none
      | some (t, n) => if t.length ≤ 64 then some ⟨3, t, 0, n + 1⟩ else none)
    else match signs.find? (fun s => s.isPrefixOf (c :: r)) with
      | none => none
      | some s => some ⟨5, s, 0, s.length⟩
structure TA where
  kind : Int
  text : List UInt8
  num : Int
  at_ : Nat
def scanF : Nat → List UInt8 → Nat → List TA × Option Nat
  | 0, _, at_ => ([], some at_)
  | f + 1, l, at_ =>
    let b := blk false l
    match l.drop b with
    | [] => ([⟨0, [], 0, at_ + b⟩], none)
    | m@(_ :: _) => match tokM m with
      | none => ([], some (at_ + b))
      | some t => let (ts, e) := scanF f (m.drop t.len) (at_ + b + t.len); (⟨t.kind, t.text, t.num, at_ + b⟩ :: ts, e)
theorem blk_le : ∀ b l, blk b l ≤ l.length
  | _, [] => by simp [blk]
  | true, c :: r => by
    unfold blk
    have h1 := blk_le false r
    have h2 := blk_le true r
    split <;> simp <;> omega
  | false, c :: r => by
    unfold blk
    have h1 := blk_le false r
    have h2 := blk_le true r
    split
    · simp; omega
    · split <;> simp; omega
theorem blk_t (c : UInt8) (r : List UInt8) : blk true (c :: r) = if c = 10 then 1 + blk false r else 1 + blk true r := rfl
theorem blk_f (c : UInt8) (r : List UInt8) : blk false (c :: r) = if whiteB c = true then 1 + blk false r else if c = 47 ∧ r.head? = some 47 then 1 + blk true r else 0 := rfl
end Go.Proofs.YtlmmfhbdebfgkaaGreatDoor.Lx
namespace Go.Proofs.YtlmmfhbdebfgkaaGreatDoor.Ex
open Lx
inductive F where
  | nil : F
  | cons (op num : Int) (text : List UInt8) (args rest : F) : F
structure T where
  op : Int
  num : Int
  text : List UInt8
  args : F
def F.len : F → Nat
  | .nil => 0
  | .cons _ _ _ _ r => r.len + 1
def F.app : F → F → F
  | .nil, s => s
  | .cons o n t a r, s => .cons o n t a (r.app s)
def T.row (t : T) : F := .cons t.op t.num t.text t.args .nil
def F.snoc (l : F) (t : T) : F := l.app t.row
def two (x y : T) : F := .cons x.op x.num x.text x.args y.row
structure St where
  at_ : Nat
  n : Nat
  open_ : Nat
inductive R where
  | ok (t : T) (s : St) : R
  | bad (e : Nat) (a : Nat) : R
def tk (l : List TA) (i : Nat) : TA := l.getD i ⟨0, [], 0, 0⟩
def isS (l : List TA) (i : Nat) (s : List UInt8) : Bool := (tk l i).kind == 5 && (tk l i).text == s
def opOf (n : Nat) (s : List UInt8) : Option (Int × Bool) := match n with
  | 0 => if s = [124, 124] then some (41, false) else none
  | 1 => if s = [38, 38] then some (40, false) else none
  | 2 => if s = [61, 61] then some (30, false) else if s = [33, 61] then some (31, false) else if s = [60] then some (32, false) else if s = [60, 61] then some (33, false)
    else if s = [62] then some (32, true) else if s = [62, 61] then some (33, true) else none
  | 3 => if s = [43] then some (23, false) else if s = [45] then some (24, false) else none
  | 4 => if s = [42] then some (20, false) else if s = [47] then some (21, false) else if s = [37] then some (22, false) else none
  | _ => none
def opAt (n : Nat) (t : TA) : Option (Int × Bool) := if t.kind = 5 then opOf n t.text else none
def unAt (t : TA) : Option Int := if t.kind = 5 then (if t.text = [33] then some 10 else if t.text = [45] then some 11 else none) else none
def leafR (op num : Int) (text : List UInt8) (s : St) : R := if s.n = 200 then .bad 27 s.at_ else .ok ⟨op, num, text, .nil⟩ ⟨s.at_ + 1, s.n + 1, s.open_⟩
def leaveR (l : List TA) (sign : List UInt8) (t : T) (s : St) : R := if isS l s.at_ sign = true then .ok t ⟨s.at_ + 1, s.n, s.open_ - 1⟩ else .bad 25 s.at_
def enterR (s : St) (k : St → R) : R := if s.open_ = 20 then .bad 26 s.at_ else if s.n = 200 then .bad 27 s.at_ else k ⟨s.at_ + 1, s.n + 1, s.open_ + 1⟩
def R.then (r : R) (k : T → St → R) : R := match r with
  | .ok t s => k t s
  | .bad e a => .bad e a
def loopR (rec : St → R) (l : List TA) (n : Nat) : Nat → T → St → R
  | 0, x, s => .ok x s
  | k + 1, x, s => match opAt n (tk l s.at_) with
    | none => .ok x s
    | some (op, turned) => if s.n = 200 then .bad 27 s.at_ else (rec ⟨s.at_ + 1, s.n + 1, s.open_⟩).then fun y s2 =>
      if n = 2 then .ok ⟨op, 0, [], if turned = true then two y x else two x y⟩ s2 else loopR rec l n k ⟨op, 0, [], if turned = true then two y x else two x y⟩ s2
def argsR (rec : St → R) (l : List TA) (op : Int) : Nat → F → St → R
  | 0, acc, s => leaveR l [41] ⟨op, 0, [], acc⟩ s
  | k + 1, acc, s => if isS l s.at_ [44] = true then (rec ⟨s.at_ + 1, s.n, s.open_⟩).then fun y s2 => argsR rec l op k (acc.snoc y) s2 else .bad 25 s.at_
def callR (rec : St → R) (l : List TA) (op : Int) (n : Nat) (s : St) : R :=
  if isS l (s.at_ + 1) [40] = true then enterR ⟨s.at_ + 1, s.n, s.open_⟩ fun s1 => (rec s1).then fun y s2 => argsR rec l op (n - 1) (F.nil.snoc y) s2 else .bad 25 (s.at_ + 1)
def begins (l : List TA) (i : Nat) : Bool := decide (1 ≤ (tk l i).kind ∧ (tk l i).kind ≤ 4) || isS l i [40] || isS l i [91] || isS l i [33] || isS l i [45]
def elemsR (rec : St → R) (l : List TA) : Nat → F → St → R
  | 0, _, s => .bad 25 s.at_
  | k + 1, acc, s => if isS l s.at_ [93] = true then .ok ⟨5, 0, [], acc⟩ ⟨s.at_ + 1, s.n, s.open_ - 1⟩
    else if acc.len = 0 then (rec s).then fun y s2 => elemsR rec l k (acc.snoc y) s2
    else if isS l s.at_ [44] = true then
      if acc.len = 16 then (if begins l (s.at_ + 1) = true then .bad 27 (s.at_ + 1) else .bad 25 (s.at_ + 1))
      else (rec ⟨s.at_ + 1, s.n, s.open_⟩).then fun y s2 => elemsR rec l k (acc.snoc y) s2
    else .bad 25 s.at_
def fieldR (l : List TA) (s : St) : R :=
  if isS l (s.at_ + 1) [46] = true then (if (tk l (s.at_ + 2)).kind = 1 then leafR 7 0 (tk l (s.at_ + 2)).text ⟨s.at_ + 2, s.n, s.open_⟩ else .bad 25 (s.at_ + 2)) else .bad 25 (s.at_ + 1)
def groupR (rec : St → R) (l : List TA) (s : St) : R := if s.open_ = 20 then .bad 26 s.at_ else (rec ⟨s.at_ + 1, s.n, s.open_ + 1⟩).then fun y s2 => leaveR l [41] y s2
def wTrue : List UInt8 := [116, 114, 117, 101]
def wFalse : List UInt8 := [102, 97, 108, 115, 101]
def wMsg : List UInt8 := [109, 115, 103]
def wLen : List UInt8 := [108, 101, 110]
def wAt : List UInt8 := [97, 116]
def wPush : List UInt8 := [112, 117, 115, 104]
def wordR (rec : St → R) (l : List TA) (w : List UInt8) (s : St) : R :=
  if w = wLen then callR rec l 12 1 s else if w = wAt then callR rec l 25 2 s else if w = wPush then callR rec l 26 2 s else if w = wMsg then fieldR l s
  else if w = wTrue then leafR 3 1 [] s else if w = wFalse then leafR 3 0 [] s else leafR 6 0 w s
def primR (rec : St → R) (l : List TA) (s : St) : R :=
  if (tk l s.at_).kind = 1 then wordR rec l (tk l s.at_).text s
  else if (tk l s.at_).kind = 2 then leafR 1 (tk l s.at_).num [] s
  else if (tk l s.at_).kind = 3 then leafR 2 0 (tk l s.at_).text s
  else if (tk l s.at_).kind = 4 then leafR 4 0 (tk l s.at_).text s
  else if isS l s.at_ [40] = true then groupR rec l s
  else if isS l s.at_ [91] = true then enterR s fun s1 => elemsR rec l 18 .nil s1
  else .bad 25 s.at_
def lv (l : List TA) : Nat → Nat → St → R
  | 0, _, s => .bad 0 s.at_
  | f + 1, n, s =>
    if n = 5 then (match unAt (tk l s.at_) with
      | some op => enterR s fun s1 => (lv l f 5 s1).then fun x s2 => .ok ⟨op, 0, [], x.row⟩ ⟨s2.at_, s2.n, s2.open_ - 1⟩
      | none => primR (lv l f 0) l s)
    else (lv l f (n + 1) s).then fun x s1 => loopR (lv l f (n + 1)) l n 201 x s1
def FUEL : Nat := 200
def parseM (l : List TA) (a : Nat) : R := lv l FUEL 0 ⟨a, 0, 0⟩
def need (n : Nat) (s : St) : Nat := 6 * (20 - s.open_) + (5 - n)
end Go.Proofs.YtlmmfhbdebfgkaaGreatDoor.Ex
namespace Go.Proofs.YtlmmfhbdebfgkaaGreatDoor.Ex
open Lx Va
def takenB (s : List UInt8) : Bool := s == wTrue || s == wFalse || s == wMsg || s == wLen || s == wAt || s == wPush
def cntB (o : Int) (len : Nat) : Bool :=
  if o = 5 then decide (len ≤ 16) else if 1 ≤ o ∧ o ≤ 7 then len == 0 else if 10 ≤ o ∧ o ≤ 12 then len == 1 else if 20 ≤ o ∧ o ≤ 26 ∨ 30 ≤ o ∧ o ≤ 33 ∨ o = 40 ∨ o = 41 then len == 2 else false
def formedB (o n : Int) (t : List UInt8) (len : Nat) : Bool :=
  cntB o len && (n == 0 || o == 1 || o == 3) && decide (0 ≤ n) && !(o == 3 && decide (1 < n)) && (t.isEmpty || o == 2 || o == 4 || o == 6 || o == 7) && !(o == 2 && decide (64 < t.length))
def namedB (o : Int) (t : List UInt8) : Bool := !(o == 4 || o == 6 || o == 7) || (nameB t && !(o == 6 && takenB t))
def chkF : F → Nat → Nat × Nat
  | .nil, n => (0, n)
  | .cons o nm t a r, n =>
    if 200 ≤ n then (27, n + 1) else if formedB o nm t a.len = false then (4, n + 1) else if namedB o t = false then (20, n + 1)
    else if (chkF a (n + 1)).1 = 0 then chkF r (chkF a (n + 1)).2 else chkF a (n + 1)
def T.chk (t : T) (n : Nat) : Nat × Nat := chkF t.row n
def bound (o : Int) : Nat :=
  if o = 41 then 0 else if o = 40 then 1 else if 30 ≤ o ∧ o ≤ 33 then 2 else if o = 23 ∨ o = 24 then 3 else if 20 ≤ o ∧ o ≤ 22 then 4 else if o = 10 ∨ o = 11 then 5 else 6
def signL (o : Int) : List UInt8 :=
  if o = 41 then [124, 124] else if o = 40 then [38, 38] else if o = 30 then [61, 61] else if o = 31 then [33, 61] else if o = 32 then [60] else if o = 33 then [60, 61]
  else if o = 23 then [43] else if o = 24 then [45] else if o = 20 then [42] else if o = 21 then [47] else [37]
structure Tx where
  op : Int
  text : List UInt8
  open_ : Nat
def Tx.within (x : Tx) (least : Nat) : List UInt8 × Nat := if bound x.op < least then ([40] ++ x.text ++ [41], x.open_ + 1) else (x.text, x.open_)
def commas : List Tx → List UInt8
  | [] => []
  | [x] => x.text
  | x :: r => x.text ++ [44, 32] ++ commas r
def most : List Tx → Nat
  | [] => 0
  | x :: r => max x.open_ (most r)
def leafL (o n : Int) (t : List UInt8) : List UInt8 :=
  if o = 1 then printV ⟨1, n, [], []⟩ else if o = 2 then printV ⟨3, 0, t, []⟩ else if o = 3 then printV ⟨2, n, [], []⟩ else if o = 4 then 39 :: t else if o = 7 then wMsg ++ [46] ++ t else t
def nodeTx (o n : Int) (t : List UInt8) (l : List Tx) : Tx :=
  if o = 10 ∨ o = 11 then (match l with
    | x :: _ => let p := x.within 5; ⟨o, (if o = 10 then [33] else [45]) ++ p.1, p.2 + 1⟩
    | [] => ⟨o, [], 0⟩)
  else if o = 5 then ⟨o, [91] ++ commas l ++ [93], most l + 1⟩
  else if o = 12 then ⟨o, wLen ++ [40] ++ commas l ++ [41], most l + 1⟩
  else if o = 25 then ⟨o, wAt ++ [40] ++ commas l ++ [41], most l + 1⟩
  else if o = 26 then ⟨o, wPush ++ [40] ++ commas l ++ [41], most l + 1⟩
  else if o < 10 then ⟨o, leafL o n t, 0⟩
  else match l with
    | x :: y :: _ => let p := x.within (if bound o = 2 then 3 else bound o); let q := y.within (bound o + 1); ⟨o, p.1 ++ [32] ++ signL o ++ [32] ++ q.1, max p.2 q.2⟩
    | _ => ⟨o, [], 0⟩
def txF : F → List Tx
  | .nil => []
  | .cons o n t a r => nodeTx o n t (txF a) :: txF r
def T.tx (t : T) : Tx := nodeTx t.op t.num t.text (txF t.args)
def printM (t : T) : List UInt8 × Nat := if (t.chk 0).1 ≠ 0 then ([], (t.chk 0).1) else if 20 < t.tx.open_ then ([], 26) else (t.tx.text, 0)
end Go.Proofs.YtlmmfhbdebfgkaaGreatDoor.Ex
namespace Go.Proofs.YtlmmfhbdebfgkaaGreatDoor.Ty
open Ex Lx
structure TT where
  kind : Int
  enum : List UInt8
  lit : List UInt8
def TT.zero : TT := ⟨0, [], []⟩
structure EnumP where
  name : List UInt8
  syms : List (List UInt8)
structure AttrP where
  name : List UInt8
  kind : Int
  enum : List UInt8
structure Sc where
  enums : List EnumP
  attrs : List AttrP
  fields : List AttrP
-- what isn't named
def only (l : List AttrP) (names : List (List UInt8)) : List AttrP := l.filter (fun a => names.any (fun n => n == a.name))
def Sc.only (s : Sc) (na nf : List (List UInt8)) : Sc := ⟨s.enums, Ty.only s.attrs na, Ty.only s.fields nf⟩
-- more is known
def Sc.more (s m : Sc) : Sc := ⟨s.enums ++ m.enums, s.attrs ++ m.attrs, s.fields ++ m.fields⟩
end Go.Proofs.YtlmmfhbdebfgkaaGreatDoor.Ty
namespace Go.Proofs.YtlmmfhbdebfgkaaGreatDoor.Ev
open Ex Lx Va Ty
structure En where
  attrs : List AttrP
  vals : List V
  names : List AttrP
  fields : List V
def zeroV : V := ⟨0, 0, [], []⟩
def intV (n : Int) : V := ⟨1, n, [], []⟩
def boolV (b : Bool) : V := ⟨2, if b then 1 else 0, [], []⟩
def namedV : List AttrP → List V → List UInt8 → V × Nat
  | [], _, _ => (zeroV, 22)
  | a :: r, vs, n => if a.name = n then (match vs with
      | v :: _ => if v.kind = 0 then (zeroV, 22) else (v, 0)
      | [] => (zeroV, 22)) else namedV r vs.tail n
def fits64 (n : Int) : Bool := decide (-9223372036854775808 ≤ n) && decide (n ≤ 9223372036854775807)
def numE (n : Int) : V × Nat := if fits64 n = true then (intV n, 0) else (zeroV, 30)
def arithE (o a b : Int) : V × Nat :=
  if o = 20 then numE (a * b) else if o = 23 then numE (a + b) else if o = 24 then numE (a - b)
  else if b = 0 then (zeroV, 31) else if o = 21 then numE (a.tdiv b) else numE (a.tmod b)
def allV (l : List V) (k : Int) : Bool := l.all (fun v => v.kind == k)
def argV (l : List V) (i : Nat) : V := l.getD i zeroV
def opE (o n : Int) (t : List UInt8) (l : List V) : V × Nat :=
  if o = 1 then (intV n, 0) else if o = 2 then (⟨3, 0, t, []⟩, 0) else if o = 3 then (⟨2, n, [], []⟩, 0) else if o = 4 then (⟨4, 0, t, []⟩, 0)
  else if o = 5 then (if allV l 1 = true then (⟨5, 0, [], l.map (·.num)⟩, 0) else (zeroV, 23))
  else if o = 10 then (if allV l 2 = true then (boolV ((argV l 0).num == 0), 0) else (zeroV, 23))
  else if o = 12 then (if (argV l 0).kind = 5 then (intV (argV l 0).list.length, 0) else if (argV l 0).kind = 3 then (intV (argV l 0).text.length, 0) else (zeroV, 23))
  else if o = 25 then (if (argV l 0).kind = 5 ∧ (argV l 1).kind = 1 then (if 0 ≤ (argV l 1).num ∧ (argV l 1).num < (argV l 0).list.length then (intV ((argV l 0).list.getD (argV l 1).num.toNat 0), 0) else (zeroV, 32)) else (zeroV, 23))
  else if o = 26 then (if (argV l 0).kind = 5 ∧ (argV l 1).kind = 1 then (if (argV l 0).list.length < 16 then (⟨5, 0, [], (argV l 0).list ++ [(argV l 1).num]⟩, 0) else (zeroV, 32)) else (zeroV, 23))
  else if o = 30 ∨ o = 31 then (if (argV l 0).kind = (argV l 1).kind then (boolV ((ordV (argV l 0) (argV l 1) == 0) == (o == 30)), 0) else (zeroV, 23))
  else if o = 32 ∨ o = 33 then (if allV l 1 = true ∨ allV l 3 = true then (boolV (decide (ordV (argV l 0) (argV l 1) < 0) || (o == 33 && ordV (argV l 0) (argV l 1) == 0)), 0) else (zeroV, 23))
  else if allV l 1 = false then (zeroV, 23)
  else if o = 11 then numE (-(argV l 0).num)
  else arithE o (argV l 0).num (argV l 1).num
def seqE : List (V × Nat) → List V × Nat
  | [] => ([], 0)
  | x :: r => if x.2 = 0 then (if (seqE r).2 = 0 then (x.1 :: (seqE r).1, 0) else ([], (seqE r).2)) else ([], x.2)
def juncE (o : Int) : List (V × Nat) → V × Nat
  | x :: y :: _ =>
    if x.2 ≠ 0 then (zeroV, x.2) else if x.1.kind ≠ 2 then (zeroV, 23)
    else if x.1.num = (if o = 41 then 1 else 0) then (x.1, 0)
    else if y.2 ≠ 0 then (zeroV, y.2) else if y.1.kind ≠ 2 then (zeroV, 23) else (y.1, 0)
  | _ => (zeroV, 23)
def nodeE (v : En) (o n : Int) (t : List UInt8) (l : List (V × Nat)) : V × Nat :=
  if o = 6 then namedV v.attrs v.vals t else if o = 7 then namedV v.names v.fields t
  else if o = 40 ∨ o = 41 then juncE o l
  else if (seqE l).2 = 0 then opE o n t (seqE l).1 else (zeroV, (seqE l).2)
def evL (v : En) : F → List (V × Nat)
  | .nil => []
  | .cons o n t a r => nodeE v o n t (evL v a) :: evL v r
def evT (v : En) (t : T) : V × Nat := nodeE v t.op t.num t.text (evL v t.args)
def evM (v : En) (t : T) : V × Nat := if (printM t).2 = 0 then evT v t else (zeroV, (printM t).2)
-- what isn't named makes no difference
end Go.Proofs.YtlmmfhbdebfgkaaGreatDoor.Ev
namespace Go.Proofs.YtlmmfhbdebfgkaaGreatDoor
open Go.RowKit
def Row8 (w : World) (b : Nat) (l : List UInt8) : Prop :=
  ∀ j, j < l.length → w.cell? ⟨b, j, none⟩ = some (.int .u8 ((l.getD j 0).toNat : Int)) ∧ w.frozen? ⟨b, j, none⟩ = false
theorem Row8.set {w : World} {b : Nat} {l : List UInt8} (h : Row8 w b l) (k : Nat) (c : UInt8) (hk : k < l.length) (v : Int) (hv : v = (c.toNat : Int)) :
    Row8 (w.setCell ⟨b, k, none⟩ (.int .u8 v)) b (l.set k c) := by
  intro j hj
  rw [List.length_set] at hj
  have hj0 := h j hj
  refine ⟨?_, by rw [World.frozen?_setCell]; exact hj0.2⟩
  by_cases e : j = k
  · subst e
    rw [World.cell?_setCell_same (w := w) (a := ⟨b, j, none⟩) (v := .int .u8 v) (h := hj0.1), hv]
    simp [List.getD, hj]
  · rw [World.cell?_setCell_other (w := w) (a := ⟨b, k, none⟩) (b := ⟨b, j, none⟩) (v := .int .u8 v) (h := by intro h; injection h with _ h2 _; exact e h2.symm), hj0.1]
    simp [List.getD, List.getElem?_set_ne (Ne.symm e)]
theorem Row8.later {w w' : World} {b : Nat} {l : List UInt8} (h : Row8 w b l) (hb : Below w.heap.size w w') : Row8 w' b l := by
  intro j hj
  have h1 := h j hj
  have hlt := World.block_lt_of_cell? w _ h1.1
  exact ⟨(hb.cell (p := ⟨b, j, none⟩) hlt).trans h1.1, (hb.frozen (p := ⟨b, j, none⟩) hlt).trans h1.2⟩
theorem Row8.back {P : Program} {w : World} {b : Nat} {l : List UInt8} (h : Row8 w b l) (src dst e : TypeId) (cap : Nat) (hs : P.underlying src = some (.slice e)) (he : P.underlying e = some (.int .u8)) (hd : P.underlying dst = some .string)
    (n : Nat) (hn : n = l.length) : (convert src dst (.slice (some ⟨b, 0, none⟩) n cap)).run P w = .ok (.string ⟨l.toArray⟩) w := by
  subst hn
  refine run_convert_bytes_back (P := P) w src dst e ⟨b, 0, none⟩ cap l hs he hd ?_
  intro j hj
  have := (h j hj).1
  have hplain : (⟨b, 0, none⟩ : Addr).add j = ⟨b, j, none⟩ := by unfold Addr.add; split <;> simp_all
  rw [hplain]
  simpa [List.getD, List.getElem?_eq_getElem hj] using this
theorem Row8.of_owns {w : World} {base e g n cap : Nat} {l : List UInt8} (h : w.ownsRow base e 1 (.slice (some ⟨g, 0, none⟩) n cap) n (l.map fun c => .int .u8 (c.toNat : Int))) : Row8 w g l := by
  intro j hj
  have hlen : (l.map fun c => Value.int .u8 (c.toNat : Int)).length = n * 1 := h.1
  refine ⟨?_, h.frozenAt j⟩
  rw [h.cellAt j (by rw [← hlen]; simpa using hj)]
  simp [List.getD, hj]
theorem two {a b c : World} (h : Below a.heap.size a b) (k : Below b.heap.size b c) : Below a.heap.size a c := h.trans (k.mono h.size)
theorem byte_lt (c : UInt8) : ((c.toNat : Nat) : Int) < 256 := by
  have : c.toNat < 256 := c.toNat_lt
  omega
theorem info8 : (Tryz.prog.info? 5).map (fun i => (i.zero, i.size, i.bytes)) = some (some (.int .u8 0), 1, 1) := by kernel_rfl
def S (l : List UInt8) : ByteArray := ⟨l.toArray⟩
theorem S_size (l : List UInt8) : (S l).size = l.length := by show l.toArray.size = _; simp
theorem S_append (a b : List UInt8) : S a ++ S b = S (a ++ b) := by
  unfold S
  apply ByteArray.ext
  simp
theorem S_list (s : ByteArray) : S s.data.toList = s := by unfold S; simp
theorem S_toList (l : List UInt8) : (S l).data.toList = l := by simp [S]
theorem byte_string (w : World) (c : UInt8) (v : Int) (hv : v = (c.toNat : Int)) :
    (convert 67 9 (.slice (some ⟨w.heap.size, 0, none⟩) 1 1)).run Tryz.prog (w.alloc (.cells #[.int .u8 v] 5)) = .ok (.string (S [c])) (w.alloc (.cells #[.int .u8 v] 5)) := by
  subst hv
  have hrow : Row8 (w.alloc (.cells #[.int .u8 (c.toNat : Int)] 5)) w.heap.size [c] := by
    intro j hj
    obtain rfl : j = 0 := by simpa using hj
    constructor
    · simp
    · simp
  exact hrow.back (P := Tryz.prog) 67 9 5 1 Tryz.underlying67 Tryz.underlying5 Tryz.underlying9 1 rfl
theorem S_extract (s : ByteArray) (a b : Nat) : s.extract a b = S ((s.data.toList.drop a).take (b - a)) := by
  apply ByteArray.ext
  rw [ByteArray.data_extract]
  apply Array.toList_inj.1
  rw [Array.toList_extract]
  simp [S, List.extract]
theorem getElem_list (s : ByteArray) (k : Nat) (h : k < s.size) : s.data.toList.getD k 0 = s[k] := by
  have hd : k < s.data.size := h
  simp [List.getD, Array.getElem?_eq_getElem hd]
  rfl
theorem list_size (s : ByteArray) : s.data.toList.length = s.size := by simp
structure U64 (n : Nat) : Prop where
  lt : n < 18446744073709551616
end Go.Proofs.YtlmmfhbdebfgkaaGreatDoor
namespace Go.Proofs.YtlmmfhbdebfgkaaGreatDoor.Ev
open Go.RowKit
open Ex Lx Va
def panE (k : Int) : Ending := .panicked [{ v := .iface 26 (.int .i64 k), recovered := false }]
theorem need_ok (k : Int) (w : World) : Calls Tryz.prog 90 #[.bool true, .int .i64 k] w fun e w' => e = .returned (.tuple #[]) ∧ w = w' := by
  go_enter Tryz.func90, Tryz.ntmps90
  go_wp2_with fail
  go_end0
  exact ⟨rfl, rfl⟩
theorem need_bad (k : Int) (w : World) : Calls Tryz.prog 90 #[.bool false, .int .i64 k] w fun e w' => e = panE k ∧ w = w' := by
  go_enter Tryz.func90, Tryz.ntmps90
  go_wp2_with fail
  exact ⟨rfl, rfl, rfl⟩
end Go.Proofs.YtlmmfhbdebfgkaaGreatDoor.Ev
