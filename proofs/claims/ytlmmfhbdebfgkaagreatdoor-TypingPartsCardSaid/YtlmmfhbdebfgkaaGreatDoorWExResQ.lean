/-
  ExRes, TyMem, TyIdx, TyHas.
-/
import Derived.Test.YtlmmfhbdebfgkaaGreatDoorWExRefOp
import Derived.Test.YtlmmfhbdebfgkaaGreatDoorWVaPureQ
set_option linter.unusedVariables false
set_option linter.unusedSimpArgs false
set_option maxRecDepth 100000
set_option maxHeartbeats 4000000
namespace Go.Proofs.YtlmmfhbdebfgkaaGreatDoor.Ex
open Go.RowKit
open Lx
def Bx (w : World) (H : Nat) (a b c d : Value) : Prop := w.heap[H]? = some (.cells #[a, b, c, d] 24 (0, 0))
section
variable {w w' : World} {H : Nat} {a b c d : Value}
theorem Bx.c0 (h : Bx w H a b c d) : w.cell? ⟨H, 0, none⟩ = some a := cell_of_row w H 0 _ _ (0, 0) h
theorem Bx.c1 (h : Bx w H a b c d) : w.cell? ⟨H, 1, none⟩ = some b := cell_of_row w H 1 _ _ (0, 0) h
theorem Bx.c2 (h : Bx w H a b c d) : w.cell? ⟨H, 2, none⟩ = some c := cell_of_row w H 2 _ _ (0, 0) h
theorem Bx.c3 (h : Bx w H a b c d) : w.cell? ⟨H, 3, none⟩ = some d := cell_of_row w H 3 _ _ (0, 0) h
theorem Bx.fz (h : Bx w H a b c d) (j : Nat) : w.frozen? ⟨H, j, none⟩ = false := frozen_of_row w H j _ _ h
theorem Bx.lt (h : Bx w H a b c d) : H < w.heap.size := World.block_lt_of_cell? w _ h.c0
theorem Bx.keep {ok : Nat → Prop} (h : Bx w H a b c d) (k : Kept ok w w') (hH : ok H) : Bx w' H a b c d := (k.block H hH h.lt).trans h
theorem Bx.set3 (h : Bx w H a b c d) (d' : Value) : Bx (w.setCell ⟨H, 3, none⟩ d') H a b c d' := heap_setCell_same w H 3 _ _ _ h
end
def put4 (w : World) (H : Nat) (a b c d : Value) : World := (((w.setCell ⟨H, 0, none⟩ a).setCell ⟨H, 1, none⟩ b).setCell ⟨H, 2, none⟩ c).setCell ⟨H, 3, none⟩ d
theorem set_size (w : World) (p : Addr) (v : Value) : (w.setCell p v).heap.size = w.heap.size := by simp
theorem put4_size (w : World) (H : Nat) (a b c d : Value) : (put4 w H a b c d).heap.size = w.heap.size := by simp [put4]
theorem Bx.put {w : World} {H : Nat} {a b c d : Value} (h : Bx w H a b c d) (a' b' c' d' : Value) : Bx (put4 w H a' b' c' d') H a' b' c' d' :=
  heap_setCell_same _ H 3 _ _ _ (heap_setCell_same _ H 2 _ _ _ (heap_setCell_same _ H 1 _ _ _ (heap_setCell_same w H 0 _ _ _ h)))
theorem Kept.set {ok : Nat → Prop} (w : World) (H j : Nat) (v : Value) (h : ¬ ok H) : Kept ok w (w.setCell ⟨H, j, none⟩ v) :=
  ⟨by simp, fun g hg _ => heap_setCell_other w ⟨H, j, none⟩ g v (fun e => h (by simp at e; rw [← e]; exact hg))⟩
theorem Kept.put {ok : Nat → Prop} (w : World) (H : Nat) (a b c d : Value) (h : ¬ ok H) : Kept ok w (put4 w H a b c d) :=
  (((Kept.set w H 0 a h).trans (Kept.set _ H 1 b h)).trans (Kept.set _ H 2 c h)).trans (Kept.set _ H 3 d h)
theorem Only.box {b : Nat} {w w' : World} (h : Only b w w') (H j : Nat) (hH : w.heap.size ≤ H) (v : Value) : Only b w (w'.setCell ⟨H, j, none⟩ v) :=
  ⟨h.os, h.tape, h.output, by simp; exact h.size, fun i hi hn => (heap_setCell_other w' ⟨H, j, none⟩ i v (fun e => by simp at e; omega)).trans (h.block i hi hn)⟩
theorem Only.put {b : Nat} {w w' : World} (h : Only b w w') (H : Nat) (hH : w.heap.size ≤ H) (x y z u : Value) : Only b w (put4 w' H x y z u) :=
  (((h.box H 0 hH x).box H 1 hH y).box H 2 hH z).box H 3 hH u
theorem Only.alloc {b : Nat} {w w' : World} (h : Only b w w') (o : Obj) : Only b w (w'.alloc o) := h.trans (Only.of_below ((Below.refl _ _).alloc (Nat.le_refl _) o))
theorem Bx.new (W : World) (a b c d : Value) : Bx (W.alloc (.cells #[a, b, c, d] 24)) W.heap.size a b c d := heap_alloc_new W _
theorem Kept.alloc {ok : Nat → Prop} (W : World) (o : Obj) : Kept ok W (W.alloc o) := Kept.of_below ((Below.refl _ _).alloc (Nat.le_refl _) o)
theorem Only.keptB {b : Nat} {w w' : World} (h : Only b w w') {ok : Nat → Prop} (hb : ¬ ok b) : Kept ok w w' := h.kept.mono fun _ hg e => hb (e ▸ hg)
def Post (b g cap : Nat) (ts : List TA) (lo : Nat) (r : R) (o n : Int) (t : List UInt8) (q : Option Addr) (k : Nat) (w' : World) : Prop := match r with
  | .ok x s => x.op = o ∧ x.num = n ∧ x.text = t ∧ x.args.len = k ∧ FAt w' (lo ≤ ·) x.args q ∧ Rdg w' b g cap ts.length s.at_ s.n s.open_ 0 0
  | .bad er a => er ≠ 0 ∧ ∃ a' n' o', Rdg w' b g cap ts.length a' n' o' (er : Int) (a : Int)
theorem Post.keep {b g cap : Nat} {ts : List TA} {lo : Nat} {r : R} {o n : Int} {t : List UInt8} {q : Option Addr} {k : Nat} {w w' : World} (h : Post b g cap ts lo r o n t q k w) (kp : Kept (fun g => g = b ∨ lo ≤ g) w w') : Post b g cap ts lo r o n t q k w' := by
  cases r with
  | ok x s => exact ⟨h.1, h.2.1, h.2.2.1, h.2.2.2.1, h.2.2.2.2.1.keep (kp.mono fun g hg => .inr hg), h.2.2.2.2.2.keep kp (.inl rfl)⟩
  | bad e a =>
    obtain ⟨he, a', n', o', hr⟩ := h
    exact ⟨he, a', n', o', hr.keep kp (.inl rfl)⟩
theorem Post.low {b g cap : Nat} {ts : List TA} {lo lo' : Nat} {r : R} {o n : Int} {t : List UInt8} {q : Option Addr} {k : Nat} {w : World} (h : Post b g cap ts lo r o n t q k w) (hl : lo' ≤ lo) : Post b g cap ts lo' r o n t q k w := by
  cases r with
  | ok x s => exact ⟨h.1, h.2.1, h.2.2.1, h.2.2.2.1, FAt.mono (fun g _ hg => Nat.le_trans hl hg) _ _ h.2.2.2.2.1, h.2.2.2.2.2⟩
  | bad e a => exact h
def ResA (b g cap : Nat) (ts : List TA) (w : World) (r : R) (e : Ending) (w' : World) : Prop :=
  Only b w w' ∧ ∃ o n t q k c, e = .returned (.agg #[.int .i64 o, .int .i64 n, .string (S t), .slice q k c]) ∧ Post b g cap ts w.heap.size r o n t q k w'
end Go.Proofs.YtlmmfhbdebfgkaaGreatDoor.Ex
namespace Go.Proofs.YtlmmfhbdebfgkaaGreatDoor.Ty
open Go.RowKit
open Ex Lx
instance : Inhabited AttrP := ⟨⟨[], 0, []⟩⟩
instance : Inhabited EnumP := ⟨⟨[], []⟩⟩
instance : Inhabited TT := ⟨TT.zero⟩
def StrsAt (w : World) (p : Option Addr) (l : List (List UInt8)) : Prop :=
  ∀ i, (h : i < l.length) → ∃ b o, p = some ⟨b, o, none⟩ ∧ b < w.heap.size ∧ w.cell? ⟨b, o + i, none⟩ = some (.string (S l[i]))
def AttrsAt (w : World) (p : Option Addr) (l : List AttrP) : Prop :=
  ∀ i, (h : i < l.length) → ∃ b o, p = some ⟨b, o, none⟩ ∧ b < w.heap.size ∧ w.cell? ⟨b, o + i * 3, none⟩ = some (.string (S l[i].name)) ∧ w.cell? ⟨b, o + i * 3 + 1, none⟩ = some (.int .i64 l[i].kind) ∧ w.cell? ⟨b, o + i * 3 + 2, none⟩ = some (.string (S l[i].enum))
def EnumsAt (w : World) (p : Option Addr) (l : List EnumP) : Prop :=
  ∀ i, (h : i < l.length) → ∃ b o q c, p = some ⟨b, o, none⟩ ∧ b < w.heap.size ∧ w.cell? ⟨b, o + i * 2, none⟩ = some (.string (S l[i].name)) ∧ w.cell? ⟨b, o + i * 2 + 1, none⟩ = some (.slice q l[i].syms.length c) ∧ StrsAt w q l[i].syms
def TTsAt (w : World) (p : Option Addr) (l : List TT) : Prop :=
  ∀ i, (h : i < l.length) → ∃ b o, p = some ⟨b, o, none⟩ ∧ b < w.heap.size ∧ w.cell? ⟨b, o + i * 3, none⟩ = some (.int .i64 l[i].kind) ∧ w.cell? ⟨b, o + i * 3 + 1, none⟩ = some (.string (S l[i].enum)) ∧ w.cell? ⟨b, o + i * 3 + 2, none⟩ = some (.string (S l[i].lit))
section
variable {w w' : World} (k : Below w.heap.size w w')
include k
theorem StrsAt.later {p : Option Addr} {l : List (List UInt8)} (h : StrsAt w p l) : StrsAt w' p l := fun i hi => by
  obtain ⟨b, o, e, hb, h0⟩ := h i hi
  exact ⟨b, o, e, Nat.lt_of_lt_of_le hb k.size, (k.cell (p := ⟨b, _, none⟩) hb).trans h0⟩
theorem AttrsAt.later {p : Option Addr} {l : List AttrP} (h : AttrsAt w p l) : AttrsAt w' p l := fun i hi => by
  obtain ⟨b, o, e, hb, h0, h1, h2⟩ := h i hi
  exact ⟨b, o, e, Nat.lt_of_lt_of_le hb k.size, (k.cell (p := ⟨b, _, none⟩) hb).trans h0, (k.cell (p := ⟨b, _, none⟩) hb).trans h1, (k.cell (p := ⟨b, _, none⟩) hb).trans h2⟩
theorem EnumsAt.later {p : Option Addr} {l : List EnumP} (h : EnumsAt w p l) : EnumsAt w' p l := fun i hi => by
  obtain ⟨b, o, q, c, e, hb, h0, h1, h2⟩ := h i hi
  exact ⟨b, o, q, c, e, Nat.lt_of_lt_of_le hb k.size, (k.cell (p := ⟨b, _, none⟩) hb).trans h0, (k.cell (p := ⟨b, _, none⟩) hb).trans h1, h2.later k⟩
theorem TTsAt.later {p : Option Addr} {l : List TT} (h : TTsAt w p l) : TTsAt w' p l := fun i hi => by
  obtain ⟨b, o, e, hb, h0, h1, h2⟩ := h i hi
  exact ⟨b, o, e, Nat.lt_of_lt_of_le hb k.size, (k.cell (p := ⟨b, _, none⟩) hb).trans h0, (k.cell (p := ⟨b, _, none⟩) hb).trans h1, (k.cell (p := ⟨b, _, none⟩) hb).trans h2⟩
end
structure ScAt (w : World) (pe pa pf : Option Addr) (s : Sc) : Prop where
  enums : EnumsAt w pe s.enums
  attrs : AttrsAt w pa s.attrs
  fields : AttrsAt w pf s.fields
theorem ScAt.later {w w' : World} (k : Below w.heap.size w w') {pe pa pf : Option Addr} {s : Sc} (h : ScAt w pe pa pf s) : ScAt w' pe pa pf s := ⟨h.enums.later k, h.attrs.later k, h.fields.later k⟩
structure ScFit (s : Sc) : Prop where
  enums : s.enums.length ≤ 281474976710656
  attrs : s.attrs.length ≤ 281474976710656
  fields : s.fields.length ≤ 281474976710656
  syms : ∀ e ∈ s.enums, e.syms.length ≤ 281474976710656
  ae : ∀ a ∈ s.attrs, a.enum.length ≤ 281474976710656
  fe : ∀ a ∈ s.fields, a.enum.length ≤ 281474976710656
theorem S_beq (a b : List UInt8) : ((S a).toList == (S b).toList) = (a == b) := by rw [ByteArray.toList_eq, ByteArray.toList_eq, S_toList, S_toList]
def fstIdx {α : Type} (p : α → Bool) : List α → Int
  | [] => -1
  | x :: r => if p x then 0 else if fstIdx p r < 0 then -1 else fstIdx p r + 1
theorem fst_miss {α : Type} (p : α → Bool) : ∀ l : List α, (∀ j, (h : j < l.length) → p l[j] = false) → fstIdx p l = -1
  | [], _ => rfl
  | x :: r, h => by
    have h0 := h 0 (by simp)
    have hr := fst_miss p r (fun j hj => by have := h (j + 1) (by simp; omega); simpa using this)
    simp only [List.getElem_cons_zero] at h0
    show (if p x then 0 else if fstIdx p r < 0 then -1 else fstIdx p r + 1) = _
    rw [h0, hr]; rfl
theorem fst_hit {α : Type} (p : α → Bool) : ∀ (l : List α) (k : Nat) (hk : k < l.length), (∀ j, (h : j < k) → p (l[j]'(by omega)) = false) → p l[k] = true → fstIdx p l = k
  | x :: r, 0, _, _, hp => by
    simp only [List.getElem_cons_zero] at hp
    show (if p x then 0 else _) = _
    rw [hp]; rfl
  | x :: r, k + 1, hk, hm, hp => by
    have h0 := hm 0 (by omega)
    simp only [List.getElem_cons_zero] at h0
    have hr := fst_hit p r k (by simp at hk; omega) (fun j hj => by have := hm (j + 1) (by omega); simpa using this) (by simpa using hp)
    show (if p x then 0 else if fstIdx p r < 0 then -1 else fstIdx p r + 1) = _
    rw [h0, hr]
    simp only [Bool.false_eq_true, if_false]
    rw [if_neg (by omega)]; omega
end Go.Proofs.YtlmmfhbdebfgkaaGreatDoor.Ty
namespace Go.Proofs.YtlmmfhbdebfgkaaGreatDoor.Ty
open Go.RowKit
open Ex Lx
theorem zcell (w : World) (o : Obj) (b j : Nat) (h : b < w.heap.size) : (w.alloc o).cell? ⟨b, j, none⟩ = w.cell? ⟨b, j, none⟩ := Kept.cell (Kept.alloc (ok := fun _ => True) w o) trivial h
theorem attr_clos (x : AttrP)  (key : List UInt8) (B : Nat) (w : World) (hB : w.cell? ⟨B, 0, none⟩ = some (.string (S key))) (hlt : B < w.heap.size) :
    Calls Tryz.prog 141 #[.agg #[.string (S x.name), .int .i64 x.kind, .string (S x.enum)], .pointer (some ⟨B, 0, none⟩)] w fun e w' => e = .returned (.bool (x.name == key)) ∧ Below w.heap.size w w' := by
  have zb := fun o => zcell w o B 0 hlt
  have HBE := Lib.hid ((Below.refl w.heap.size w).alloc (Nat.le_refl _) (.cells #[.string (S x.name), .int .i64 x.kind, .string (S x.enum)] 49))
  go_enter Tryz.func141, Tryz.ntmps141
  go_wp2_with fail
  go_ret
  exact ⟨by first | rfl | (rw [S_beq]; rfl), HBE.out⟩
theorem enum_clos (x : EnumP) (q : Option Addr) (cc : Nat) (key : List UInt8) (B : Nat) (w : World) (hB : w.cell? ⟨B, 0, none⟩ = some (.string (S key))) (hlt : B < w.heap.size) :
    Calls Tryz.prog 214 #[.agg #[.string (S x.name), .slice q x.syms.length cc], .pointer (some ⟨B, 0, none⟩)] w fun e w' => e = .returned (.bool (x.name == key)) ∧ Below w.heap.size w w' := by
  have zb := fun o => zcell w o B 0 hlt
  have HBE := Lib.hid ((Below.refl w.heap.size w).alloc (Nat.le_refl _) (.cells #[.string (S x.name), .slice q x.syms.length cc] 81))
  go_enter Tryz.func214, Tryz.ntmps214
  go_wp2_with fail
  go_ret
  exact ⟨by first | rfl | (rw [S_beq]; rfl), HBE.out⟩
theorem tt_clos (x : TT)  (key : Int) (B : Nat) (w : World) (hB : w.cell? ⟨B, 0, none⟩ = some (.int .i64 key)) (hlt : B < w.heap.size) :
    Calls Tryz.prog 176 #[.agg #[.int .i64 x.kind, .string (S x.enum), .string (S x.lit)], .pointer (some ⟨B, 0, none⟩)] w fun e w' => e = .returned (.bool (x.kind != key)) ∧ Below w.heap.size w w' := by
  have zb := fun o => zcell w o B 0 hlt
  have HBE := Lib.hid ((Below.refl w.heap.size w).alloc (Nat.le_refl _) (.cells #[.int .i64 x.kind, .string (S x.enum), .string (S x.lit)] 44))
  go_enter Tryz.func176, Tryz.ntmps176
  go_wp2_with fail
  go_ret
  exact ⟨rfl, HBE.out⟩
theorem attr_idx (l : List AttrP) (key : List UInt8) (p : Option Addr) (c B : Nat) (w : World) (hl : AttrsAt w p l) (hlen : l.length ≤ 281474976710656) (hB : w.cell? ⟨B, 0, none⟩ = some (.string (S key))) (hBl : B < w.heap.size) :
    Calls Tryz.prog 88 #[.slice p l.length c, .func (.func 141) #[] #[.pointer (some ⟨B, 0, none⟩)]] w fun e w' => e = .returned (.int .i64 (fstIdx (fun x => x.name == key) l)) ∧ Below w.heap.size w w' := by
  have hki : (l.length : Int) ≤ 281474976710656 := by omega
  have HL := Lib.hid hl
  have HB := Lib.hid hB
  clear hl hB
  go_enter Tryz.func88, Tryz.ntmps88
  go_wp2_with fail
  go_loopw [5, 8] (fun _ iv wr => ∃ k : Nat, k ≤ l.length ∧ iv = .int .i64 k ∧ Below w.heap.size w wr ∧ ∀ j, (h : j < l.length) → j < k → (fun x : AttrP => x.name == key) l[j] = false) (fun _ iv _ => l.length - (intOf iv).toNat)
  case atStart => exact ⟨0, Nat.zero_le _, rfl, Below.refl _ _, fun j _ h => absurd h (Nat.not_lt_zero _)⟩
  case round =>
    obtain ⟨k, hk, rfl, bw, hA⟩ := hrel
    have BW := Lib.hid bw
    have A := Lib.hid hA
    clear bw hA
    by_cases hlt : k < l.length
    · have hlti : (k : Int) < (l.length : Int) := by omega
      obtain ⟨b, o, rfl, hb, f0, f1, f2⟩ := (HL.out.later BW.out) k hlt
      have hBw : wr.cell? ⟨B, 0, none⟩ = some (.string (S key)) := (BW.out.cell (p := ⟨B, 0, none⟩) hBl).trans HB.out
      obtain ⟨y, hy⟩ : ∃ y, y = l[k] := ⟨_, rfl⟩
      rw [← hy] at f0 f1 f2
      have HC := Lib.hid (attr_clos y  key B wr hBw (Nat.lt_of_lt_of_le hBl BW.out.size))
      have HY := Lib.hid hy
      clear hy hBw
      cases hp : (fun x : AttrP => x.name == key) y with
      | true =>
        simp only at hp
        rw [hp] at HC
        have HP := Lib.hid hp
        clear hp
        go_wp2_with fail
        refine HC.out.mono ?_
        rintro e w1 ⟨rfl, b1⟩
        have B1 := Lib.hid (BW.out.trans (b1.mono BW.out.size))
        clear b1
        go_wp2_with fail
        go_ret
        refine ⟨?_, B1.out⟩
        rw [fst_hit (fun x : AttrP => x.name == key) l k hlt (fun j hj => A.out j (by omega) hj) (by rw [← HY.out]; exact HP.out)]
        rfl
      | false =>
        simp only at hp
        rw [hp] at HC
        have HP := Lib.hid hp
        clear hp
        go_wp2_with fail
        refine HC.out.mono ?_
        rintro e w1 ⟨rfl, b1⟩
        have B1 := Lib.hid (BW.out.trans (b1.mono BW.out.size))
        clear b1
        go_wp2_with fail
        go_roundw
        case rel => exact ⟨k + 1, by omega, by go_num, B1.out, fun j hj hjk => by
          by_cases e : j = k
          · subst e; rw [← HY.out]; exact HP.out
          · exact A.out j hj (by omega)⟩
        case measure => simp [intOf]; omega
    · have hlti : ¬ (k : Int) < (l.length : Int) := by omega
      go_wp2_with fail
      go_ret
      refine ⟨?_, BW.out⟩
      rw [fst_miss (fun x : AttrP => x.name == key) l (fun j hj => A.out j hj (by omega))]
      rfl
theorem enum_idx (l : List EnumP) (key : List UInt8) (p : Option Addr) (c B : Nat) (w : World) (hl : EnumsAt w p l) (hlen : l.length ≤ 281474976710656) (hB : w.cell? ⟨B, 0, none⟩ = some (.string (S key))) (hBl : B < w.heap.size) :
    Calls Tryz.prog 213 #[.slice p l.length c, .func (.func 214) #[] #[.pointer (some ⟨B, 0, none⟩)]] w fun e w' => e = .returned (.int .i64 (fstIdx (fun x => x.name == key) l)) ∧ Below w.heap.size w w' := by
  have hki : (l.length : Int) ≤ 281474976710656 := by omega
  have HL := Lib.hid hl
  have HB := Lib.hid hB
  clear hl hB
  go_enter Tryz.func213, Tryz.ntmps213
  go_wp2_with fail
  go_loopw [5, 8] (fun _ iv wr => ∃ k : Nat, k ≤ l.length ∧ iv = .int .i64 k ∧ Below w.heap.size w wr ∧ ∀ j, (h : j < l.length) → j < k → (fun x : EnumP => x.name == key) l[j] = false) (fun _ iv _ => l.length - (intOf iv).toNat)
  case atStart => exact ⟨0, Nat.zero_le _, rfl, Below.refl _ _, fun j _ h => absurd h (Nat.not_lt_zero _)⟩
  case round =>
    obtain ⟨k, hk, rfl, bw, hA⟩ := hrel
    have BW := Lib.hid bw
    have A := Lib.hid hA
    clear bw hA
    by_cases hlt : k < l.length
    · have hlti : (k : Int) < (l.length : Int) := by omega
      obtain ⟨b, o, q, cc, rfl, hb, f0, f1, _⟩ := (HL.out.later BW.out) k hlt
      have hBw : wr.cell? ⟨B, 0, none⟩ = some (.string (S key)) := (BW.out.cell (p := ⟨B, 0, none⟩) hBl).trans HB.out
      obtain ⟨y, hy⟩ : ∃ y, y = l[k] := ⟨_, rfl⟩
      rw [← hy] at f0 f1
      have HC := Lib.hid (enum_clos y q cc key B wr hBw (Nat.lt_of_lt_of_le hBl BW.out.size))
      have HY := Lib.hid hy
      clear hy hBw
      cases hp : (fun x : EnumP => x.name == key) y with
      | true =>
        simp only at hp
        rw [hp] at HC
        have HP := Lib.hid hp
        clear hp
        go_wp2_with fail
        refine HC.out.mono ?_
        rintro e w1 ⟨rfl, b1⟩
        have B1 := Lib.hid (BW.out.trans (b1.mono BW.out.size))
        clear b1
        go_wp2_with fail
        go_ret
        refine ⟨?_, B1.out⟩
        rw [fst_hit (fun x : EnumP => x.name == key) l k hlt (fun j hj => A.out j (by omega) hj) (by rw [← HY.out]; exact HP.out)]
        rfl
      | false =>
        simp only at hp
        rw [hp] at HC
        have HP := Lib.hid hp
        clear hp
        go_wp2_with fail
        refine HC.out.mono ?_
        rintro e w1 ⟨rfl, b1⟩
        have B1 := Lib.hid (BW.out.trans (b1.mono BW.out.size))
        clear b1
        go_wp2_with fail
        go_roundw
        case rel => exact ⟨k + 1, by omega, by go_num, B1.out, fun j hj hjk => by
          by_cases e : j = k
          · subst e; rw [← HY.out]; exact HP.out
          · exact A.out j hj (by omega)⟩
        case measure => simp [intOf]; omega
    · have hlti : ¬ (k : Int) < (l.length : Int) := by omega
      go_wp2_with fail
      go_ret
      refine ⟨?_, BW.out⟩
      rw [fst_miss (fun x : EnumP => x.name == key) l (fun j hj => A.out j hj (by omega))]
      rfl
theorem tt_idx (l : List TT) (key : Int) (p : Option Addr) (c B : Nat) (w : World) (hl : TTsAt w p l) (hlen : l.length ≤ 281474976710656) (hB : w.cell? ⟨B, 0, none⟩ = some (.int .i64 key)) (hBl : B < w.heap.size) :
    Calls Tryz.prog 212 #[.slice p l.length c, .func (.func 176) #[] #[.pointer (some ⟨B, 0, none⟩)]] w fun e w' => e = .returned (.int .i64 (fstIdx (fun x => x.kind != key) l)) ∧ Below w.heap.size w w' := by
  have hki : (l.length : Int) ≤ 281474976710656 := by omega
  have HL := Lib.hid hl
  have HB := Lib.hid hB
  clear hl hB
  go_enter Tryz.func212, Tryz.ntmps212
  go_wp2_with fail
  go_loopw [5, 8] (fun _ iv wr => ∃ k : Nat, k ≤ l.length ∧ iv = .int .i64 k ∧ Below w.heap.size w wr ∧ ∀ j, (h : j < l.length) → j < k → (fun x : TT => x.kind != key) l[j] = false) (fun _ iv _ => l.length - (intOf iv).toNat)
  case atStart => exact ⟨0, Nat.zero_le _, rfl, Below.refl _ _, fun j _ h => absurd h (Nat.not_lt_zero _)⟩
  case round =>
    obtain ⟨k, hk, rfl, bw, hA⟩ := hrel
    have BW := Lib.hid bw
    have A := Lib.hid hA
    clear bw hA
    by_cases hlt : k < l.length
    · have hlti : (k : Int) < (l.length : Int) := by omega
      obtain ⟨b, o, rfl, hb, f0, f1, f2⟩ := (HL.out.later BW.out) k hlt
      have hBw : wr.cell? ⟨B, 0, none⟩ = some (.int .i64 key) := (BW.out.cell (p := ⟨B, 0, none⟩) hBl).trans HB.out
      obtain ⟨y, hy⟩ : ∃ y, y = l[k] := ⟨_, rfl⟩
      rw [← hy] at f0 f1 f2
      have HC := Lib.hid (tt_clos y  key B wr hBw (Nat.lt_of_lt_of_le hBl BW.out.size))
      have HY := Lib.hid hy
      clear hy hBw
      cases hp : (fun x : TT => x.kind != key) y with
      | true =>
        simp only at hp
        rw [hp] at HC
        have HP := Lib.hid hp
        clear hp
        go_wp2_with fail
        refine HC.out.mono ?_
        rintro e w1 ⟨rfl, b1⟩
        have B1 := Lib.hid (BW.out.trans (b1.mono BW.out.size))
        clear b1
        go_wp2_with fail
        go_ret
        refine ⟨?_, B1.out⟩
        rw [fst_hit (fun x : TT => x.kind != key) l k hlt (fun j hj => A.out j (by omega) hj) (by rw [← HY.out]; exact HP.out)]
        rfl
      | false =>
        simp only at hp
        rw [hp] at HC
        have HP := Lib.hid hp
        clear hp
        go_wp2_with fail
        refine HC.out.mono ?_
        rintro e w1 ⟨rfl, b1⟩
        have B1 := Lib.hid (BW.out.trans (b1.mono BW.out.size))
        clear b1
        go_wp2_with fail
        go_roundw
        case rel => exact ⟨k + 1, by omega, by go_num, B1.out, fun j hj hjk => by
          by_cases e : j = k
          · subst e; rw [← HY.out]; exact HP.out
          · exact A.out j hj (by omega)⟩
        case measure => simp [intOf]; omega
    · have hlti : ¬ (k : Int) < (l.length : Int) := by omega
      go_wp2_with fail
      go_ret
      refine ⟨?_, BW.out⟩
      rw [fst_miss (fun x : TT => x.kind != key) l (fun j hj => A.out j hj (by omega))]
      rfl
end Go.Proofs.YtlmmfhbdebfgkaaGreatDoor.Ty
namespace Go.Proofs.YtlmmfhbdebfgkaaGreatDoor.Ty
open Go.RowKit
open Ex Lx
theorem fst_ge {α : Type} (p : α → Bool) : ∀ l : List α, -1 ≤ fstIdx p l
  | [] => Int.le_refl (-1)
  | x :: r => by
    have := fst_ge p r
    show -1 ≤ (if p x then 0 else if fstIdx p r < 0 then -1 else fstIdx p r + 1)
    split
    · decide
    · split <;> omega
theorem fst_any {α : Type} (p : α → Bool) : ∀ l : List α, decide (0 ≤ fstIdx p l) = l.any p
  | [] => rfl
  | x :: r => by
    have h := fst_any p r
    have hg := fst_ge p r
    rw [List.any_cons, ← h]
    show decide (0 ≤ (if p x then 0 else if fstIdx p r < 0 then -1 else fstIdx p r + 1)) = _
    cases hx : p x with
    | true => simp
    | false =>
      simp only [Bool.false_eq_true, if_false, Bool.false_or]
      by_cases h0 : fstIdx p r < 0
      · rw [if_pos h0, decide_eq_false (by omega), decide_eq_false (by omega)]
      · rw [if_neg h0, decide_eq_true (by omega), decide_eq_true (by omega)]
theorem has_idx : ∀ (l : List EnumP) (n s : List UInt8), (fstIdx (fun x => x.name == n) l = -1 ∧ hasB l n s = false) ∨ ∃ k, ∃ h : k < l.length, fstIdx (fun x => x.name == n) l = (k : Int) ∧ hasB l n s = l[k].syms.any (fun x => s == x)
  | [], _, _ => .inl ⟨rfl, rfl⟩
  | e :: r, n, s => by
    have e1 : fstIdx (fun x : EnumP => x.name == n) (e :: r) = (if (e.name == n) = true then 0 else if fstIdx (fun x : EnumP => x.name == n) r < 0 then -1 else fstIdx (fun x : EnumP => x.name == n) r + 1) := rfl
    have e2 : hasB (e :: r) n s = if e.name = n then e.syms.any (· == s) else hasB r n s := rfl
    rw [e1, e2]
    by_cases hn : e.name = n
    · rw [if_pos hn, if_pos (by simpa using hn)]
      refine .inr ⟨0, by simp, rfl, ?_⟩
      simp only [List.getElem_cons_zero]
      congr 1
      funext x
      exact Bool.beq_comm
    · rw [if_neg hn, if_neg (by simpa using hn)]
      rcases has_idx r n s with ⟨h1, h2⟩ | ⟨k, hk, h1, h2⟩
      · rw [h1]; exact .inl ⟨rfl, h2⟩
      · rw [h1]
        refine .inr ⟨k + 1, by simp; omega, ?_, ?_⟩
        · rw [if_neg (by omega)]; omega
        · simpa using h2
theorem str_idx (l : List (List UInt8)) (s : List UInt8) (p : Option Addr) (c : Nat) (w : World) (hl : StrsAt w p l) (hlen : l.length ≤ 281474976710656) :
    Calls Tryz.prog 235 #[.slice p l.length c, .string (S s)] w fun e w' => e = .returned (.int .i64 (fstIdx (fun x => s == x) l)) ∧ w = w' := by
  have hki : (l.length : Int) ≤ 281474976710656 := by omega
  have HL := Lib.hid hl
  clear hl
  go_enter Tryz.func235, Tryz.ntmps235
  go_wp2_with fail
  go_loop [5, 8] (fun _ iv => ∃ k : Nat, k ≤ l.length ∧ iv = .int .i64 k ∧ ∀ j, (h : j < l.length) → j < k → (fun x => s == x) l[j] = false) (fun _ iv => l.length - (intOf iv).toNat)
  case atStart => exact ⟨0, Nat.zero_le _, rfl, fun j _ h => absurd h (Nat.not_lt_zero _)⟩
  case round =>
    obtain ⟨k, hk, rfl, hA⟩ := hrel
    have A := Lib.hid hA
    clear hA
    by_cases hlt : k < l.length
    · have hlti : (k : Int) < (l.length : Int) := by omega
      obtain ⟨b, o, rfl, hb, f0⟩ := HL.out k hlt
      obtain ⟨y, hy⟩ : ∃ y, y = l[k] := ⟨_, rfl⟩
      rw [← hy] at f0
      have HY := Lib.hid hy
      clear hy
      cases hp : (s == y) with
      | true =>
        have HP := Lib.hid hp
        have e1 : ((S s).toList == (S y).toList) = true := by rw [S_beq]; exact hp
        clear hp
        go_wp2_with fail
        go_ret
        refine ⟨?_, rfl⟩
        rw [fst_hit (fun x => s == x) l k hlt (fun j hj => A.out j (by omega) hj) (by rw [← HY.out]; exact HP.out)]
        rfl
      | false =>
        have HP := Lib.hid hp
        have e1 : ((S s).toList == (S y).toList) = false := by rw [S_beq]; exact hp
        clear hp
        go_wp2_with fail
        go_round
        case rel => exact ⟨k + 1, by omega, by go_num, fun j hj hjk => by
          by_cases e : j = k
          · subst e; rw [← HY.out]; exact HP.out
          · exact A.out j hj (by omega)⟩
        case measure => simp [intOf]; omega
    · have hlti : ¬ (k : Int) < (l.length : Int) := by omega
      go_wp2_with fail
      go_ret
      refine ⟨?_, rfl⟩
      rw [fst_miss (fun x => s == x) l (fun j hj => A.out j hj (by omega))]
      rfl
theorem str_has (l : List (List UInt8)) (s : List UInt8) (p : Option Addr) (c : Nat) (w : World) (hl : StrsAt w p l) (hlen : l.length ≤ 281474976710656) :
    Calls Tryz.prog 215 #[.slice p l.length c, .string (S s)] w fun e w' => e = .returned (.bool (l.any (fun x => s == x))) ∧ w = w' := by
  have HI := Lib.hid (str_idx l s p c w hl hlen)
  have HG := Lib.hid (fst_any (fun x => s == x) l)
  clear hl
  generalize fstIdx (fun x => s == x) l = k at HI HG
  generalize l.any (fun x => s == x) = a at HG ⊢
  go_enter Tryz.func215, Tryz.ntmps215
  go_wp2_with fail
  refine HI.out.mono ?_
  rintro e w1 ⟨rfl, rfl⟩
  go_wp2_with fail
  go_ret
  exact ⟨by rw [← HG.out]; rfl, rfl⟩
theorem has_any (l : List EnumP) (n s : List UInt8) (p : Option Addr) (c : Nat) (w : World) (hl : EnumsAt w p l) (hlen : l.length ≤ 281474976710656) (hsy : ∀ e ∈ l, e.syms.length ≤ 281474976710656) :
    Calls Tryz.prog 177 #[.slice p l.length c, .string (S n), .string (S s)] w fun e w' => e = .returned (.bool (hasB l n s)) ∧ Below w.heap.size w w' := by
  have hki : (l.length : Int) ≤ 281474976710656 := by omega
  have ba := (Below.refl w.heap.size w).alloc (Nat.le_refl _) (.cells #[.string (S n)] 9)
  have hla := hl.later ba
  have HI := Lib.hid (enum_idx l n p c w.heap.size (w.alloc (.cells #[.string (S n)] 9)) hla hlen (cell_of_row _ w.heap.size 0 _ _ (0, 0) (heap_alloc_new w _)) (by simp))
  have HLA := Lib.hid hla
  have HBA := Lib.hid ba
  clear hl ba hla
  rcases has_idx l n s with ⟨h1, h2⟩ | ⟨k, hk, h1, h2⟩
  · rw [h1] at HI
    rw [h2]
    clear h1 h2
    go_enter Tryz.func177, Tryz.ntmps177
    go_wp2_with fail
    refine HI.out.mono ?_
    rintro e w1 ⟨rfl, b1⟩
    have HB1 := Lib.hid (HBA.out.trans (b1.mono HBA.out.size))
    clear b1
    go_wp2_with fail
    go_ret
    exact ⟨rfl, HB1.out⟩
  · rw [h1] at HI
    rw [h2]
    clear h1 h2
    have hsl := hsy l[k] (List.getElem_mem hk)
    obtain ⟨y, hy⟩ : ∃ y, y = l[k] := ⟨_, rfl⟩
    rw [← hy] at hsl ⊢
    have HY := Lib.hid hy
    clear hy
    have hki2 : (k : Int) < (l.length : Int) := by omega
    go_enter Tryz.func177, Tryz.ntmps177
    go_wp2_with fail
    refine HI.out.mono ?_
    rintro e w1 ⟨rfl, b1⟩
    have HB1 := Lib.hid (HBA.out.trans (b1.mono HBA.out.size))
    obtain ⟨b, o, q, cc, rfl, hb, f0, f1, fs⟩ := (HLA.out.later b1) k hk
    rw [← HY.out] at f0 f1 fs
    have HC := Lib.hid (str_has y.syms s q cc w1 fs hsl)
    clear b1 fs
    go_wp2_with fail
    refine HC.out.mono ?_
    rintro e w2 ⟨rfl, rfl⟩
    go_wp2_with fail
    go_ret
    exact ⟨rfl, HB1.out⟩
theorem all_bne (l : List TT) (k : Int) : allK l k = !(l.any fun x => x.kind != k) := by
  unfold allK
  induction l with
  | nil => rfl
  | cons x r ih =>
    rw [List.all_cons, List.any_cons, ih, Bool.not_or]
    congr 1
    simp [bne]
theorem ttcont_any (l : List TT) (key : Int) (p : Option Addr) (c B : Nat) (w : World) (hl : TTsAt w p l) (hlen : l.length ≤ 281474976710656) (hB : w.cell? ⟨B, 0, none⟩ = some (.int .i64 key)) (hBl : B < w.heap.size) :
    Calls Tryz.prog 175 #[.slice p l.length c, .func (.func 176) #[] #[.pointer (some ⟨B, 0, none⟩)]] w fun e w' => e = .returned (.bool (l.any (fun x => x.kind != key))) ∧ Below w.heap.size w w' := by
  have HI := Lib.hid (tt_idx l key p c B w hl hlen hB hBl)
  have HG := Lib.hid (fst_any (fun x => x.kind != key) l)
  clear hl hB hBl
  generalize fstIdx (fun x => x.kind != key) l = k at HI HG
  generalize l.any (fun x => x.kind != key) = a at HG ⊢
  go_enter Tryz.func175, Tryz.ntmps175
  go_wp2_with fail
  refine HI.out.mono ?_
  rintro e w1 ⟨rfl, b1⟩
  have HB1 := Lib.hid b1
  clear b1
  go_wp2_with fail
  go_ret
  exact ⟨by rw [← HG.out]; rfl, HB1.out⟩
theorem all_any (l : List TT) (key : Int) (p : Option Addr) (c : Nat) (w : World) (hl : TTsAt w p l) (hlen : l.length ≤ 281474976710656) :
    Calls Tryz.prog 142 #[.slice p l.length c, .int .i64 key] w fun e w' => e = .returned (.bool (allK l key)) ∧ Below w.heap.size w w' := by
  have ba := (Below.refl w.heap.size w).alloc (Nat.le_refl _) (.cells #[.int .i64 key] 3)
  have HI := Lib.hid (ttcont_any l key p c w.heap.size (w.alloc (.cells #[.int .i64 key] 3)) (hl.later ba) hlen (cell_of_row _ w.heap.size 0 _ _ (0, 0) (heap_alloc_new w _)) (by simp))
  have HBA := Lib.hid ba
  clear hl ba
  rw [all_bne]
  generalize l.any (fun x => x.kind != key) = a at *
  go_enter Tryz.func142, Tryz.ntmps142
  go_wp2_with fail
  refine HI.out.mono ?_
  rintro e w1 ⟨rfl, b1⟩
  have HB1 := Lib.hid (HBA.out.trans (b1.mono HBA.out.size))
  clear b1
  go_wp2_with fail
  go_ret
  exact ⟨rfl, HB1.out⟩
theorem kindOf_any (o : Int) (w : World) : Calls Tryz.prog 86 #[.int .i64 o] w fun e w' => e = .returned (.int .i64 (kindOf o)) ∧ w = w' := by
  unfold kindOf
  go_enter Tryz.func86, Tryz.ntmps86
  by_cases h : o = 2 ∨ o = 5 ∨ o = 26 ∨ o = 1 ∨ o = 11 ∨ o = 20 ∨ o = 21 ∨ o = 22 ∨ o = 23 ∨ o = 24 ∨ o = 12 ∨ o = 25
  · rcases h with rfl | rfl | rfl | rfl | rfl | rfl | rfl | rfl | rfl | rfl | rfl | rfl
    all_goals
      go_wp2_with fail
      go_ret
      exact ⟨rfl, rfl⟩
  · have n1 : (o == 2) = false := by simp; omega
    have n2 : (o == 5) = false := by simp; omega
    have n3 : (o == 26) = false := by simp; omega
    have n4 : (o == 1) = false := by simp; omega
    have n5 : (o == 11) = false := by simp; omega
    have n6 : (o == 20) = false := by simp; omega
    have n7 : (o == 21) = false := by simp; omega
    have n8 : (o == 22) = false := by simp; omega
    have n9 : (o == 23) = false := by simp; omega
    have m1 : (o == 24) = false := by simp; omega
    have m2 : (o == 12) = false := by simp; omega
    have m3 : (o == 25) = false := by simp; omega
    rw [if_neg (by omega), if_neg (by omega), if_neg (by omega)]
    clear h
    go_wp2_with fail
    go_ret
    exact ⟨rfl, rfl⟩
end Go.Proofs.YtlmmfhbdebfgkaaGreatDoor.Ty
