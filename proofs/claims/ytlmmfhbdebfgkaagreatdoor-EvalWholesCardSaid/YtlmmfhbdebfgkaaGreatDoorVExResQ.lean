/-
  ExRes, TyMem, VaOrder.
-/
import Derived.Test.YtlmmfhbdebfgkaaGreatDoorVExRefOp
import Derived.Test.YtlmmfhbdebfgkaaGreatDoorVVaPureQ
import Derived.Test.YtlmmfhbdebfgkaaGreatDoorVVaRightQ
import Derived.Deep.RegionHeld3
import Derived.WalkLawsBesides
set_option linter.unusedVariables false
set_option linter.unusedSimpArgs false
set_option maxRecDepth 100000
set_option maxHeartbeats 3200000
namespace Go.Proofs.YtlmmfhbdebfgkaaGreatDoor.Ex
open Go.RowKit
open Lx
def Bx (w : World) (H : Nat) (a b c d : Value) : Prop := w.heap[H]? = some (.cells #[a, b, c, d] 24 (0, 0))
section
variable {w w' : World} {H : Nat} {a b c d : Value}
theorem Bx.c0 (h : Bx w H a b c d) : w.cell? ⟨H, 0, none⟩ = some a := cell_of_row w H 0 _ _ (0, 0) h
theorem Bx.c1 (h : Bx w H a b c d) : w.cell? ⟨H, 1, none⟩ = some b := cell_of_row w H 1 _ _ (0, 0) h
theorem Bx.c2 (h : Bx w H a b c d) : w.cell? ⟨H, 2, none⟩ = some c := cell_of_row w H 2 _ _ (0, 0) h
theorem Bx.c3 (h : Bx w H a b c d) : w.cell? ⟨H, 3, none⟩ = some d := cell_of_row w H 3 _ _ (0, 0) h
theorem Bx.fz (h : Bx w H a b c d) (j : Nat) : w.frozen? ⟨H, j, none⟩ = false := frozen_of_row w H j _ _ h
theorem Bx.lt (h : Bx w H a b c d) : H < w.heap.size := World.block_lt_of_cell? w _ h.c0
theorem Bx.keep {ok : Nat → Prop} (h : Bx w H a b c d) (k : Kept ok w w') (hH : ok H) : Bx w' H a b c d := (k.block H hH h.lt).trans h
theorem Bx.set3 (h : Bx w H a b c d) (d' : Value) : Bx (w.setCell ⟨H, 3, none⟩ d') H a b c d' := heap_setCell_same w H 3 _ _ _ h
end
def put4 (w : World) (H : Nat) (a b c d : Value) : World := (((w.setCell ⟨H, 0, none⟩ a).setCell ⟨H, 1, none⟩ b).setCell ⟨H, 2, none⟩ c).setCell ⟨H, 3, none⟩ d
theorem set_size (w : World) (p : Addr) (v : Value) : (w.setCell p v).heap.size = w.heap.size := by simp
theorem put4_size (w : World) (H : Nat) (a b c d : Value) : (put4 w H a b c d).heap.size = w.heap.size := by simp [put4]
theorem Bx.put {w : World} {H : Nat} {a b c d : Value} (h : Bx w H a b c d) (a' b' c' d' : Value) : Bx (put4 w H a' b' c' d') H a' b' c' d' :=
  heap_setCell_same _ H 3 _ _ _ (heap_setCell_same _ H 2 _ _ _ (heap_setCell_same _ H 1 _ _ _ (heap_setCell_same w H 0 _ _ _ h)))
theorem Kept.set {ok : Nat → Prop} (w : World) (H j : Nat) (v : Value) (h : ¬ ok H) : Kept ok w (w.setCell ⟨H, j, none⟩ v) :=
  ⟨by simp, fun g hg _ => heap_setCell_other w ⟨H, j, none⟩ g v (fun e => h (by simp at e; rw [← e]; exact hg))⟩
theorem Kept.put {ok : Nat → Prop} (w : World) (H : Nat) (a b c d : Value) (h : ¬ ok H) : Kept ok w (put4 w H a b c d) :=
  (((Kept.set w H 0 a h).trans (Kept.set _ H 1 b h)).trans (Kept.set _ H 2 c h)).trans (Kept.set _ H 3 d h)
theorem Only.box {b : Nat} {w w' : World} (h : Only b w w') (H j : Nat) (hH : w.heap.size ≤ H) (v : Value) : Only b w (w'.setCell ⟨H, j, none⟩ v) :=
  ⟨h.os, h.tape, h.output, by simp; exact h.size, fun i hi hn => (heap_setCell_other w' ⟨H, j, none⟩ i v (fun e => by simp at e; omega)).trans (h.block i hi hn)⟩
theorem Only.put {b : Nat} {w w' : World} (h : Only b w w') (H : Nat) (hH : w.heap.size ≤ H) (x y z u : Value) : Only b w (put4 w' H x y z u) :=
  (((h.box H 0 hH x).box H 1 hH y).box H 2 hH z).box H 3 hH u
theorem Only.alloc {b : Nat} {w w' : World} (h : Only b w w') (o : Obj) : Only b w (w'.alloc o) := h.trans (Only.of_below ((Below.refl _ _).alloc (Nat.le_refl _) o))
theorem Bx.new (W : World) (a b c d : Value) : Bx (W.alloc (.cells #[a, b, c, d] 24)) W.heap.size a b c d := heap_alloc_new W _
theorem Kept.alloc {ok : Nat → Prop} (W : World) (o : Obj) : Kept ok W (W.alloc o) := Kept.of_below ((Below.refl _ _).alloc (Nat.le_refl _) o)
theorem Only.keptB {b : Nat} {w w' : World} (h : Only b w w') {ok : Nat → Prop} (hb : ¬ ok b) : Kept ok w w' := h.kept.mono fun _ hg e => hb (e ▸ hg)
def Post (b g cap : Nat) (ts : List TA) (lo : Nat) (r : R) (o n : Int) (t : List UInt8) (q : Option Addr) (k : Nat) (w' : World) : Prop := match r with
  | .ok x s => x.op = o ∧ x.num = n ∧ x.text = t ∧ x.args.len = k ∧ FAt w' (lo ≤ ·) x.args q ∧ Rdg w' b g cap ts.length s.at_ s.n s.open_ 0 0
  | .bad er a => er ≠ 0 ∧ ∃ a' n' o', Rdg w' b g cap ts.length a' n' o' (er : Int) (a : Int)
theorem Post.keep {b g cap : Nat} {ts : List TA} {lo : Nat} {r : R} {o n : Int} {t : List UInt8} {q : Option Addr} {k : Nat} {w w' : World} (h : Post b g cap ts lo r o n t q k w) (kp : Kept (fun g => g = b ∨ lo ≤ g) w w') : Post b g cap ts lo r o n t q k w' := by
  cases r with
  | ok x s => exact ⟨h.1, h.2.1, h.2.2.1, h.2.2.2.1, h.2.2.2.2.1.keep (kp.mono fun g hg => .inr hg), h.2.2.2.2.2.keep kp (.inl rfl)⟩
  | bad e a =>
    obtain ⟨he, a', n', o', hr⟩ := h
    exact ⟨he, a', n', o', hr.keep kp (.inl rfl)⟩
theorem Post.low {b g cap : Nat} {ts : List TA} {lo lo' : Nat} {r : R} {o n : Int} {t : List UInt8} {q : Option Addr} {k : Nat} {w : World} (h : Post b g cap ts lo r o n t q k w) (hl : lo' ≤ lo) : Post b g cap ts lo' r o n t q k w := by
  cases r with
  | ok x s => exact ⟨h.1, h.2.1, h.2.2.1, h.2.2.2.1, FAt.mono (fun g _ hg => Nat.le_trans hl hg) _ _ h.2.2.2.2.1, h.2.2.2.2.2⟩
  | bad e a => exact h
def ResA (b g cap : Nat) (ts : List TA) (w : World) (r : R) (e : Ending) (w' : World) : Prop :=
  Only b w w' ∧ ∃ o n t q k c, e = .returned (.agg #[.int .i64 o, .int .i64 n, .string (S t), .slice q k c]) ∧ Post b g cap ts w.heap.size r o n t q k w'
end Go.Proofs.YtlmmfhbdebfgkaaGreatDoor.Ex
namespace Go.Proofs.YtlmmfhbdebfgkaaGreatDoor.Ty
open Go.RowKit
open Ex Lx
instance : Inhabited AttrP := ⟨⟨[], 0, []⟩⟩
instance : Inhabited EnumP := ⟨⟨[], []⟩⟩
instance : Inhabited TT := ⟨TT.zero⟩
def StrsAt (w : World) (p : Option Addr) (l : List (List UInt8)) : Prop :=
  ∀ i, (h : i < l.length) → ∃ b o, p = some ⟨b, o, none⟩ ∧ b < w.heap.size ∧ w.cell? ⟨b, o + i, none⟩ = some (.string (S l[i]))
def AttrsAt (w : World) (p : Option Addr) (l : List AttrP) : Prop :=
  ∀ i, (h : i < l.length) → ∃ b o, p = some ⟨b, o, none⟩ ∧ b < w.heap.size ∧ w.cell? ⟨b, o + i * 3, none⟩ = some (.string (S l[i].name)) ∧ w.cell? ⟨b, o + i * 3 + 1, none⟩ = some (.int .i64 l[i].kind) ∧ w.cell? ⟨b, o + i * 3 + 2, none⟩ = some (.string (S l[i].enum))
def EnumsAt (w : World) (p : Option Addr) (l : List EnumP) : Prop :=
  ∀ i, (h : i < l.length) → ∃ b o q c, p = some ⟨b, o, none⟩ ∧ b < w.heap.size ∧ w.cell? ⟨b, o + i * 2, none⟩ = some (.string (S l[i].name)) ∧ w.cell? ⟨b, o + i * 2 + 1, none⟩ = some (.slice q l[i].syms.length c) ∧ StrsAt w q l[i].syms
def TTsAt (w : World) (p : Option Addr) (l : List TT) : Prop :=
  ∀ i, (h : i < l.length) → ∃ b o, p = some ⟨b, o, none⟩ ∧ b < w.heap.size ∧ w.cell? ⟨b, o + i * 3, none⟩ = some (.int .i64 l[i].kind) ∧ w.cell? ⟨b, o + i * 3 + 1, none⟩ = some (.string (S l[i].enum)) ∧ w.cell? ⟨b, o + i * 3 + 2, none⟩ = some (.string (S l[i].lit))
section
variable {w w' : World} (k : Below w.heap.size w w')
include k
theorem StrsAt.later {p : Option Addr} {l : List (List UInt8)} (h : StrsAt w p l) : StrsAt w' p l := fun i hi => by
  obtain ⟨b, o, e, hb, h0⟩ := h i hi
  exact ⟨b, o, e, Nat.lt_of_lt_of_le hb k.size, (k.cell (p := ⟨b, _, none⟩) hb).trans h0⟩
theorem AttrsAt.later {p : Option Addr} {l : List AttrP} (h : AttrsAt w p l) : AttrsAt w' p l := fun i hi => by
  obtain ⟨b, o, e, hb, h0, h1, h2⟩ := h i hi
  exact ⟨b, o, e, Nat.lt_of_lt_of_le hb k.size, (k.cell (p := ⟨b, _, none⟩) hb).trans h0, (k.cell (p := ⟨b, _, none⟩) hb).trans h1, (k.cell (p := ⟨b, _, none⟩) hb).trans h2⟩
theorem EnumsAt.later {p : Option Addr} {l : List EnumP} (h : EnumsAt w p l) : EnumsAt w' p l := fun i hi => by
  obtain ⟨b, o, q, c, e, hb, h0, h1, h2⟩ := h i hi
  exact ⟨b, o, q, c, e, Nat.lt_of_lt_of_le hb k.size, (k.cell (p := ⟨b, _, none⟩) hb).trans h0, (k.cell (p := ⟨b, _, none⟩) hb).trans h1, h2.later k⟩
theorem TTsAt.later {p : Option Addr} {l : List TT} (h : TTsAt w p l) : TTsAt w' p l := fun i hi => by
  obtain ⟨b, o, e, hb, h0, h1, h2⟩ := h i hi
  exact ⟨b, o, e, Nat.lt_of_lt_of_le hb k.size, (k.cell (p := ⟨b, _, none⟩) hb).trans h0, (k.cell (p := ⟨b, _, none⟩) hb).trans h1, (k.cell (p := ⟨b, _, none⟩) hb).trans h2⟩
end
structure ScAt (w : World) (pe pa pf : Option Addr) (s : Sc) : Prop where
  enums : EnumsAt w pe s.enums
  attrs : AttrsAt w pa s.attrs
  fields : AttrsAt w pf s.fields
theorem ScAt.later {w w' : World} (k : Below w.heap.size w w') {pe pa pf : Option Addr} {s : Sc} (h : ScAt w pe pa pf s) : ScAt w' pe pa pf s := ⟨h.enums.later k, h.attrs.later k, h.fields.later k⟩
structure ScFit (s : Sc) : Prop where
  enums : s.enums.length ≤ 281474976710656
  attrs : s.attrs.length ≤ 281474976710656
  fields : s.fields.length ≤ 281474976710656
  syms : ∀ e ∈ s.enums, e.syms.length ≤ 281474976710656
  ae : ∀ a ∈ s.attrs, a.enum.length ≤ 281474976710656
  fe : ∀ a ∈ s.fields, a.enum.length ≤ 281474976710656
theorem S_beq (a b : List UInt8) : ((S a).toList == (S b).toList) = (a == b) := by rw [ByteArray.toList_eq, ByteArray.toList_eq, S_toList, S_toList]
def fstIdx {α : Type} (p : α → Bool) : List α → Int
  | [] => -1
  | x :: r => if p x then 0 else if fstIdx p r < 0 then -1 else fstIdx p r + 1
theorem fst_miss {α : Type} (p : α → Bool) : ∀ l : List α, (∀ j, (h : j < l.length) → p l[j] = false) → fstIdx p l = -1
  | [], _ => rfl
  | x :: r, h => by
    have h0 := h 0 (by simp)
    have hr := fst_miss p r (fun j hj => by have := h (j + 1) (by simp; omega); simpa using this)
    simp only [List.getElem_cons_zero] at h0
    show (if p x then 0 else if fstIdx p r < 0 then -1 else fstIdx p r + 1) = _
    rw [h0, hr]; rfl
theorem fst_hit {α : Type} (p : α → Bool) : ∀ (l : List α) (k : Nat) (hk : k < l.length), (∀ j, (h : j < k) → p (l[j]'(by omega)) = false) → p l[k] = true → fstIdx p l = k
  | x :: r, 0, _, _, hp => by
    simp only [List.getElem_cons_zero] at hp
    show (if p x then 0 else _) = _
    rw [hp]; rfl
  | x :: r, k + 1, hk, hm, hp => by
    have h0 := hm 0 (by omega)
    simp only [List.getElem_cons_zero] at h0
    have hr := fst_hit p r k (by simp at hk; omega) (fun j hj => by have := hm (j + 1) (by omega); simpa using this) (by simpa using hp)
    show (if p x then 0 else if fstIdx p r < 0 then -1 else fstIdx p r + 1) = _
    rw [h0, hr]
    simp only [Bool.false_eq_true, if_false]
    rw [if_neg (by omega)]; omega
end Go.Proofs.YtlmmfhbdebfgkaaGreatDoor.Ty
namespace Go.Proofs.YtlmmfhbdebfgkaaGreatDoor.Va
open Go.RowKit
theorem less_T : ∀ (a b : List UInt8), a ≠ b → ordT a b = if Op.bytesLess a b = true then -1 else 1
  | [], [], h => absurd rfl h
  | [], _ :: _, _ => by simp [ordT, Op.bytesLess]
  | _ :: _, [], _ => by simp [ordT, Op.bytesLess]
  | a :: r, b :: s, h => by
    unfold ordT Op.bytesLess
    by_cases e : a = b
    · subst e
      have h2 : r ≠ s := fun e => h (by rw [e])
      rw [if_pos rfl, less_T r s h2]
      have : ¬ a < a := UInt8.lt_irrefl a
      simp [this]
    · rw [if_neg e]
      have e1 : (a == b) = false := by simpa using e
      rw [e1]
      have e2 : a.toNat ≠ b.toNat := fun h => e (UInt8.toNat_inj.1 h)
      unfold ordI
      by_cases hl : a < b
      · have := UInt8.lt_iff_toNat_lt.1 hl
        rw [if_pos (by omega)]; simp [hl]
      · have : ¬ a.toNat < b.toNat := fun h => hl (UInt8.lt_iff_toNat_lt.2 h)
        rw [if_neg (by omega), if_pos (by omega)]; simp [hl]
def preB (x y : List Int) (k : Nat) : Bool := x.take k == y.take k
theorem preB_zero (x y : List Int) : preB x y 0 = true := by simp [preB]
theorem preB_succ (x y : List Int) (k : Nat) (hx : k < x.length) (hy : k < y.length) : preB x y (k + 1) = (preB x y k && x.getD k 0 == y.getD k 0) := by
  unfold preB
  rw [Bool.eq_iff_iff]
  simp only [beq_iff_eq, Bool.and_eq_true]
  rw [List.take_succ_eq_append_getElem hx, List.take_succ_eq_append_getElem hy]
  have e1 : x.getD k 0 = x[k] := by simp [List.getD, hx]
  have e2 : y.getD k 0 = y[k] := by simp [List.getD, hy]
  rw [e1, e2]
  constructor
  · intro h
    have := List.append_inj h (by simp; omega)
    exact ⟨this.1, by simpa using this.2⟩
  · rintro ⟨h1, h2⟩; rw [h1, h2]
theorem preB_all (x y : List Int) (h : x.length = y.length) : preB x y x.length = (x == y) := by unfold preB; rw [List.take_length, h, List.take_length]
theorem preB_false (x y : List Int) (k : Nat) (h : preB x y k = false) : (x == y) = false := by
  unfold preB at h
  simp only [beq_eq_false_iff_ne, ne_eq] at h ⊢
  exact fun e => h (by rw [e])
theorem ordL_pre : ∀ (x y : List Int) (k : Nat), k ≤ x.length → k ≤ y.length → preB x y k = true → ordL x y = ordL (x.drop k) (y.drop k)
  | _, _, 0, _, _, _ => rfl
  | [], _, k + 1, h, _, _ => by simp at h
  | _ :: _, [], k + 1, _, h, _ => by simp at h
  | a :: r, b :: s, k + 1, h1, h2, h => by
    simp only [preB, List.take_succ_cons, beq_iff_eq, List.cons.injEq] at h
    show (if a = b then ordL r s else _) = ordL (r.drop k) (s.drop k)
    rw [if_pos h.1]
    exact ordL_pre r s k (by simpa using h1) (by simpa using h2) (by simp [preB, h.2])
theorem ordL_at (x y : List Int) (k : Nat) (hx : k < x.length) (hy : k < y.length) (h : preB x y k = true) (hne : x.getD k 0 ≠ y.getD k 0) : ordL x y = ordI (x.getD k 0) (y.getD k 0) := by
  rw [ordL_pre x y k (by omega) (by omega) h, List.drop_eq_getElem_cons hx, List.drop_eq_getElem_cons hy]
  have e1 : x.getD k 0 = x[k] := by simp [List.getD, hx]
  have e2 : y.getD k 0 = y[k] := by simp [List.getD, hy]
  rw [e1, e2] at hne ⊢
  show (if x[k] = y[k] then _ else _) = _
  rw [if_neg hne]
theorem ordL_end (x y : List Int) (k : Nat) (hx : k ≤ x.length) (hy : k ≤ y.length) (he : k = x.length ∨ k = y.length) (h : preB x y k = true) : ordL x y = ordI x.length y.length := by
  rw [ordL_pre x y k hx hy h]
  rcases he with e | e
  · rw [e, List.drop_length]
    by_cases h2 : x.length = y.length
    · rw [h2, List.drop_length]; simp [ordL, ordI]
    · have : y.drop x.length ≠ [] := fun e2 => by have := congrArg List.length e2; simp at this; omega
      cases hd : y.drop x.length with
      | nil => exact absurd hd this
      | cons => unfold ordI; rw [if_pos (by omega)]; rfl
  · rw [e, List.drop_length]
    by_cases h2 : x.length = y.length
    · rw [← h2, List.drop_length]; simp [ordL, ordI]
    · have : x.drop y.length ≠ [] := fun e2 => by have := congrArg List.length e2; simp at this; omega
      cases hd : x.drop y.length with
      | nil => exact absurd hd this
      | cons => unfold ordI; rw [if_neg (by omega), if_pos (by omega)]; rfl
def sameV (a b : V) : Bool := a.kind == b.kind && a.num == b.num && a.text == b.text && a.list == b.list
theorem sameV_iff (a b : V) : sameV a b = true ↔ a = b := by
  obtain ⟨k, n, t, l⟩ := a
  obtain ⟨k', n', t', l'⟩ := b
  simp [sameV, and_assoc]
theorem S_beq (t t' : List UInt8) : ((S t).toList == (S t').toList) = (t == t') := by rw [ByteArray.toList_eq, ByteArray.toList_eq, S_toList, S_toList]
theorem S_less (t t' : List UInt8) : Op.bytesLess (S t).toList (S t').toList = Op.bytesLess t t' := by rw [ByteArray.toList_eq, ByteArray.toList_eq, S_toList, S_toList]
theorem lt_of_heapV {w : World} {k : Nat} {o : Obj} (h : w.heap[k]? = some o) : k < w.heap.size := by
  rw [Array.getElem?_eq_some_iff] at h
  exact h.1
def boxO (k n : Int) (t : List UInt8) (len : Nat) (a : Option Addr) (cap : Nat) : Obj := .cells #[.int .i64 k, .int .i64 n, .string (S t), .slice a len cap] 52
def SameR (w W0 : World) (x y : List Int) (k : Nat) (ok : Bool) (wr : World) : Prop := k ≤ x.length ∧ ok = preB x y k ∧ Below W0.heap.size W0 wr ∧ Below w.heap.size w wr
theorem refSame_any (x y : V) (okx : VOk x) (oky : VOk y) (ax ay : Option Addr) (cx cy : Nat) (w : World) (hx : NumsAt w ax x.list) (hy : NumsAt w ay y.list) :
    Calls Tryz.prog 19 #[valC x ax cx, valC y ay cy] w fun e w' => e = .returned (.bool (sameV x y)) ∧ Below w.heap.size w w' := by
  obtain ⟨k, n, t, l⟩ := x
  obtain ⟨k', n', t', l'⟩ := y
  have hB0 := ((Below.refl w.heap.size w).alloc (Nat.le_refl _) (boxO k n t l.length ax cx)).alloc (by simp) (boxO k' n' t' l'.length ay cy)
  have HB0 := Lib.hid hB0
  have hl1 := okx.list
  have hl2 := oky.list
  simp only at hl1 hl2 hx hy
  have HX := Lib.hid hx
  have HY := Lib.hid hy
  clear okx oky hx hy hB0
  by_cases h1 : k = k' ∧ n = n' ∧ t = t' ∧ l.length = l'.length
  · obtain ⟨rfl, rfl, rfl, hlen⟩ := h1
    have hB1 := HB0.out
    rw [← hlen] at hB1
    have HB1 := Lib.hid hB1
    clear hB1
    have hR : ∀ j, j ≤ l.length → (preB l l' j = false ∨ j = l.length) → preB l l' j = sameV ⟨k, n, t, l⟩ ⟨k, n, t, l'⟩ := fun j hj h => by
      simp only [sameV, beq_self_eq_true, Bool.true_and]
      rcases h with h | h
      · rw [h, preB_false l l' j h]
      · rw [h, preB_all l l' hlen]
    have HR := Lib.hid hR
    have HLEN := Lib.hid hlen
    have hbox0 := heap_alloc_new w (boxO k n t l.length ax cx)
    have hbox1 := heap_alloc_new (w.alloc (boxO k n t l.length ax cx)) (boxO k n t l.length ay cy)
    have hbox0' : ((w.alloc (boxO k n t l.length ax cx)).alloc (boxO k n t l.length ay cy)).heap[w.heap.size]? = some (boxO k n t l.length ax cx) := by
      rw [Below.heap_alloc _ _ _ (by simp)]; exact hbox0
    have hsz : (w.alloc (boxO k n t l.length ax cx)).heap.size = w.heap.size + 1 := by simp
    rw [hsz] at hbox1
    have HX0 := Lib.hid hbox0'
    have HX1 := Lib.hid hbox1
    have hll : (l'.length : Int) = (l.length : Int) := by omega
    unfold valC
    simp only
    rw [← hlen]
    clear hR hlen hbox0 hbox1 hbox0' hsz hll
    go_enter Tryz.func19, Tryz.ntmps19
    go_wp2_with fail
    go_loopw [5, 6] (fun ok i wr => ∃ j : Nat, ∃ b : Bool, i = .int .i64 j ∧ ok = .bool b ∧ SameR w ((w.alloc (boxO k n t l.length ax cx)).alloc (boxO k n t l.length ay cy)) l l' j b wr) (fun _ i _ => l.length - (intOf i).toNat)
    case atStart => exact ⟨0, true, rfl, rfl, by omega, (preB_zero l l').symm, Below.refl _ _, HB1.out⟩
    case round =>
      obtain ⟨j, b, rfl, rfl, hj, hb, hb0, hbw⟩ := hrel
      have HB := Lib.hid hb
      have HBB := Lib.hid hb0
      have HBW := Lib.hid hbw
      have hx0 := (hb0.block w.heap.size (lt_of_heapV HX0.out)).trans HX0.out
      have hx1 := (hb0.block (w.heap.size + 1) (lt_of_heapV HX1.out)).trans HX1.out
      have p0 : wr.cell? ⟨w.heap.size, 3, none⟩ = some (.slice ax l.length cx) := (cell_of_row wr _ 3 _ _ (0, 0) hx0).trans rfl
      have p1 : wr.cell? ⟨w.heap.size + 1, 3, none⟩ = some (.slice ay l.length cy) := (cell_of_row wr _ 3 _ _ (0, 0) hx1).trans rfl
      clear hb hb0 hbw hx0 hx1
      cases b with
      | false =>
        have hf := HR.out j hj (.inl HB.out.symm)
        rw [← HB.out] at hf
        have HF := Lib.hid hf
        clear hf
        go_wp2_with fail
        go_ret
        exact ⟨ret_b HF.out, HBW.out⟩
      | true =>
        by_cases hlt : j < l.length
        · obtain ⟨g1, o1, rfl, q1, hg1⟩ := HX.out j hlt
          obtain ⟨g2, o2, rfl, q2, hg2⟩ := HY.out j (by rw [← HLEN.out]; exact hlt)
          have r1 := (HBW.out.cell (p := ⟨g1, o1 + j, none⟩) hg1).trans q1
          have r2 := (HBW.out.cell (p := ⟨g2, o2 + j, none⟩) hg2).trans q2
          have hn := preB_succ l l' j hlt (by rw [← HLEN.out]; exact hlt)
          rw [← HB.out, Bool.true_and] at hn
          have HN := Lib.hid hn
          have hji : (j : Int) < (l.length : Int) := by omega
          generalize l.getD j 0 = u at *
          generalize l'.getD j 0 = u' at *
          clear hn q1 q2
          go_wp2_with fail
          go_region_held3 (fun w' => w'.cell? ⟨w.heap.size, 3, none⟩ = some (.slice (some ⟨g1, o1, none⟩) l.length cx) ∧ w'.cell? ⟨w.heap.size + 1, 3, none⟩ = some (.slice (some ⟨g2, o2, none⟩) l.length cy) ∧ w'.cell? ⟨g1, o1 + j, none⟩ = some (.int .i64 u) ∧ w'.cell? ⟨g2, o2 + j, none⟩ = some (.int .i64 u'))
            (first | assumption | go_keep) (fail)
          go_wp2_with fail
          go_roundw
          case rel => exact ⟨j + 1, u == u', by go_num, by first | rfl | simp, by omega, HN.out.symm, ⟨HBB.out.os, HBB.out.tape, HBB.out.output, HBB.out.size, HBB.out.block⟩, ⟨HBW.out.os, HBW.out.tape, HBW.out.output, HBW.out.size, HBW.out.block⟩⟩
          case measure => simp [intOf]; omega
        · obtain rfl : j = l.length := by omega
          have hf := HR.out l.length (Nat.le_refl _) (.inr rfl)
          rw [← HB.out] at hf
          have HF := Lib.hid hf
          clear hf
          go_wp2_with fail
          go_ret
          exact ⟨ret_b HF.out, HBW.out⟩
  · have hF : false = sameV ⟨k, n, t, l⟩ ⟨k', n', t', l'⟩ := by
      cases e : sameV ⟨k, n, t, l⟩ ⟨k', n', t', l'⟩ with
      | false => rfl
      | true =>
        have := (sameV_iff _ _).1 e
        simp only [V.mk.injEq] at this
        exact absurd ⟨this.1, this.2.1, this.2.2.1, by rw [this.2.2.2]⟩ h1
    have HF := Lib.hid hF
    unfold valC
    simp only
    clear hF
    by_cases hk : k = k'
    · subst hk
      by_cases hn : n = n'
      · subst hn
        by_cases ht : t = t'
        · subst ht
          have hl : ¬ l.length = l'.length := fun e => h1 ⟨rfl, rfl, rfl, e⟩
          have e1 : ((l.length : Int) == (l'.length : Int)) = false := by simp; omega
          have e2 : (l.length == l'.length) = false := by simpa using hl
          clear h1 hl
          go_enter Tryz.func19, Tryz.ntmps19
          go_wp2_with fail
          refine wp_loop_rounds 1 ?_
          rw [rounds_succ]
          go_wp2_with fail
          go_ret
          exact ⟨ret_b HF.out, HB0.out⟩
        · have e1 : ((S t).toList == (S t').toList) = false := by rw [S_beq]; simpa using ht
          clear h1 ht
          go_enter Tryz.func19, Tryz.ntmps19
          go_wp2_with fail
          refine wp_loop_rounds 1 ?_
          rw [rounds_succ]
          go_wp2_with fail
          go_ret
          exact ⟨ret_b HF.out, HB0.out⟩
      · have e1 : (n == n') = false := by simpa using hn
        clear h1 hn
        go_enter Tryz.func19, Tryz.ntmps19
        go_wp2_with fail
        refine wp_loop_rounds 1 ?_
        rw [rounds_succ]
        go_wp2_with fail
        go_ret
        exact ⟨ret_b HF.out, HB0.out⟩
    · have e1 : (k == k') = false := by simpa using hk
      clear h1 hk
      go_enter Tryz.func19, Tryz.ntmps19
      go_wp2_with fail
      refine wp_loop_rounds 1 ?_
      rw [rounds_succ]
      go_wp2_with fail
      go_ret
      exact ⟨ret_b HF.out, HB0.out⟩
end Go.Proofs.YtlmmfhbdebfgkaaGreatDoor.Va
