/-
  Several texts in one: TyMem, TyIdx, TyHas, TyNam, TyAlk.
-/
import Derived.Test.YtdgeofmnoabilaaGreatDoorZTzA
import Derived.Test.YtdgeofmnoabilaaGreatDoorZTzC
import Derived.Test.YtdgeofmnoabilaaGreatDoorShelf
import Derived.Deep.RegionHeld3
import Derived.Deep.QuietTactic
import Derived.BigQuiet
import Derived.Lib.SmallJoins
namespace Go.Proofs.YtdgeofmnoabilaaGreatDoor.Ty
open Go.RowKit
open Ex Lx

instance : Inhabited AttrP := ⟨⟨[], 0, []⟩⟩
instance : Inhabited EnumP := ⟨⟨[], []⟩⟩
instance : Inhabited TT := ⟨TT.zero⟩
/-- Strings in a row. -/
def StrsAt (w : World) (p : Option Addr) (l : List (List UInt8)) : Prop :=
  ∀ i, (h : i < l.length) → ∃ b o, p = some ⟨b, o, none⟩ ∧ b < w.heap.size ∧ w.cell? ⟨b, o + i, none⟩ = some (.string (S l[i]))
/-- Attributes in a row. -/
def AttrsAt (w : World) (p : Option Addr) (l : List AttrP) : Prop :=
  ∀ i, (h : i < l.length) → ∃ b o, p = some ⟨b, o, none⟩ ∧ b < w.heap.size ∧ w.cell? ⟨b, o + i * 3, none⟩ = some (.string (S l[i].name)) ∧ w.cell? ⟨b, o + i * 3 + 1, none⟩ = some (.int .i64 l[i].kind) ∧ w.cell? ⟨b, o + i * 3 + 2, none⟩ = some (.string (S l[i].enum))
/-- Enums in a row. -/
def EnumsAt (w : World) (p : Option Addr) (l : List EnumP) : Prop :=
  ∀ i, (h : i < l.length) → ∃ b o q c, p = some ⟨b, o, none⟩ ∧ b < w.heap.size ∧ w.cell? ⟨b, o + i * 2, none⟩ = some (.string (S l[i].name)) ∧ w.cell? ⟨b, o + i * 2 + 1, none⟩ = some (.slice q l[i].syms.length c) ∧ StrsAt w q l[i].syms
/-- Kinds in a row. -/
def TTsAt (w : World) (p : Option Addr) (l : List TT) : Prop :=
  ∀ i, (h : i < l.length) → ∃ b o, p = some ⟨b, o, none⟩ ∧ b < w.heap.size ∧ w.cell? ⟨b, o + i * 3, none⟩ = some (.int .i64 l[i].kind) ∧ w.cell? ⟨b, o + i * 3 + 1, none⟩ = some (.string (S l[i].enum)) ∧ w.cell? ⟨b, o + i * 3 + 2, none⟩ = some (.string (S l[i].lit))
section
variable {w w' : World} (k : Below w.heap.size w w')
include k
theorem StrsAt.later {p : Option Addr} {l : List (List UInt8)} (h : StrsAt w p l) : StrsAt w' p l := fun i hi => by
  obtain ⟨b, o, e, hb, h0⟩ := h i hi
  exact ⟨b, o, e, Nat.lt_of_lt_of_le hb k.size, (k.cell (p := ⟨b, _, none⟩) hb).trans h0⟩
theorem AttrsAt.later {p : Option Addr} {l : List AttrP} (h : AttrsAt w p l) : AttrsAt w' p l := fun i hi => by
  obtain ⟨b, o, e, hb, h0, h1, h2⟩ := h i hi
  exact ⟨b, o, e, Nat.lt_of_lt_of_le hb k.size, (k.cell (p := ⟨b, _, none⟩) hb).trans h0, (k.cell (p := ⟨b, _, none⟩) hb).trans h1, (k.cell (p := ⟨b, _, none⟩) hb).trans h2⟩
theorem EnumsAt.later {p : Option Addr} {l : List EnumP} (h : EnumsAt w p l) : EnumsAt w' p l := fun i hi => by
  obtain ⟨b, o, q, c, e, hb, h0, h1, h2⟩ := h i hi
  exact ⟨b, o, q, c, e, Nat.lt_of_lt_of_le hb k.size, (k.cell (p := ⟨b, _, none⟩) hb).trans h0, (k.cell (p := ⟨b, _, none⟩) hb).trans h1, h2.later k⟩
theorem TTsAt.later {p : Option Addr} {l : List TT} (h : TTsAt w p l) : TTsAt w' p l := fun i hi => by
  obtain ⟨b, o, e, hb, h0, h1, h2⟩ := h i hi
  exact ⟨b, o, e, Nat.lt_of_lt_of_le hb k.size, (k.cell (p := ⟨b, _, none⟩) hb).trans h0, (k.cell (p := ⟨b, _, none⟩) hb).trans h1, (k.cell (p := ⟨b, _, none⟩) hb).trans h2⟩
end
/-- What typing knows, as three rows. -/
structure ScAt (w : World) (pe pa pf : Option Addr) (s : Sc) : Prop where
  enums : EnumsAt w pe s.enums
  attrs : AttrsAt w pa s.attrs
  fields : AttrsAt w pf s.fields
theorem ScAt.later {w w' : World} (k : Below w.heap.size w w') {pe pa pf : Option Addr} {s : Sc} (h : ScAt w pe pa pf s) : ScAt w' pe pa pf s := ⟨h.enums.later k, h.attrs.later k, h.fields.later k⟩
/-- Lists that are short enough for any machine. -/
structure ScFit (s : Sc) : Prop where
  enums : s.enums.length ≤ 281474976710656
  attrs : s.attrs.length ≤ 281474976710656
  fields : s.fields.length ≤ 281474976710656
  syms : ∀ e ∈ s.enums, e.syms.length ≤ 281474976710656
  ae : ∀ a ∈ s.attrs, a.enum.length ≤ 281474976710656
  fe : ∀ a ∈ s.fields, a.enum.length ≤ 281474976710656
def ttC (t : TT) : List Value := [.int .i64 t.kind, .string (S t.enum), .string (S t.lit)]
def ttV (t : TT) : Value := .agg #[.int .i64 t.kind, .string (S t.enum), .string (S t.lit)]
def attrV (a : AttrP) : Value := .agg #[.string (S a.name), .int .i64 a.kind, .string (S a.enum)]
theorem S_beq (a b : List UInt8) : ((S a).toList == (S b).toList) = (a == b) := by rw [ByteArray.toList_eq, ByteArray.toList_eq, S_toList, S_toList]
/-- The first place at which p holds. -/
def fstIdx {α : Type} (p : α → Bool) : List α → Int
  | [] => -1
  | x :: r => if p x then 0 else if fstIdx p r < 0 then -1 else fstIdx p r + 1
theorem fst_miss {α : Type} (p : α → Bool) : ∀ l : List α, (∀ j, (h : j < l.length) → p l[j] = false) → fstIdx p l = -1
  | [], _ => rfl
  | x :: r, h => by
    have h0 := h 0 (by simp)
    have hr := fst_miss p r (fun j hj => by have := h (j + 1) (by simp; omega); simpa using this)
    simp only [List.getElem_cons_zero] at h0
    show (if p x then 0 else if fstIdx p r < 0 then -1 else fstIdx p r + 1) = _
    rw [h0, hr]; rfl
theorem fst_hit {α : Type} (p : α → Bool) : ∀ (l : List α) (k : Nat) (hk : k < l.length), (∀ j, (h : j < k) → p (l[j]'(by omega)) = false) → p l[k] = true → fstIdx p l = k
  | x :: r, 0, _, _, hp => by
    simp only [List.getElem_cons_zero] at hp
    show (if p x then 0 else _) = _
    rw [hp]; rfl
  | x :: r, k + 1, hk, hm, hp => by
    have h0 := hm 0 (by omega)
    simp only [List.getElem_cons_zero] at h0
    have hr := fst_hit p r k (by simp at hk; omega) (fun j hj => by have := hm (j + 1) (by omega); simpa using this) (by simpa using hp)
    show (if p x then 0 else if fstIdx p r < 0 then -1 else fstIdx p r + 1) = _
    rw [h0, hr]
    simp only [Bool.false_eq_true, if_false]
    rw [if_neg (by omega)]; omega

end Go.Proofs.YtdgeofmnoabilaaGreatDoor.Ty

namespace Go.Proofs.YtdgeofmnoabilaaGreatDoor.Ty
open Go.RowKit
open Ex Lx

theorem zcell (w : World) (o : Obj) (b j : Nat) (h : b < w.heap.size) : (w.alloc o).cell? ⟨b, j, none⟩ = w.cell? ⟨b, j, none⟩ := Kept.cell (Kept.alloc (ok := fun _ => True) w o) trivial h

set_option maxHeartbeats 1000000 in
theorem attr_clos (x : AttrP)  (key : List UInt8) (B : Nat) (w : World) (hB : w.cell? ⟨B, 0, none⟩ = some (.string (S key))) (hlt : B < w.heap.size) :
    Calls Tryz.prog 105 #[.agg #[.string (S x.name), .int .i64 x.kind, .string (S x.enum)], .pointer (some ⟨B, 0, none⟩)] w fun e w' => e = .returned (.bool (x.name == key)) ∧ Below w.heap.size w w' := by
  have zb := fun o => zcell w o B 0 hlt
  have HBE := Lib.hid ((Below.refl w.heap.size w).alloc (Nat.le_refl _) (.cells #[.string (S x.name), .int .i64 x.kind, .string (S x.enum)] 42))
  go_enter Tryz.func105, Tryz.ntmps105
  go_wp2_with fail
  go_ret
  exact ⟨by first | rfl | (rw [S_beq]; rfl), HBE.out⟩

set_option maxHeartbeats 1000000 in
theorem enum_clos (x : EnumP) (q : Option Addr) (cc : Nat) (key : List UInt8) (B : Nat) (w : World) (hB : w.cell? ⟨B, 0, none⟩ = some (.string (S key))) (hlt : B < w.heap.size) :
    Calls Tryz.prog 150 #[.agg #[.string (S x.name), .slice q x.syms.length cc], .pointer (some ⟨B, 0, none⟩)] w fun e w' => e = .returned (.bool (x.name == key)) ∧ Below w.heap.size w w' := by
  have zb := fun o => zcell w o B 0 hlt
  have HBE := Lib.hid ((Below.refl w.heap.size w).alloc (Nat.le_refl _) (.cells #[.string (S x.name), .slice q x.syms.length cc] 73))
  go_enter Tryz.func150, Tryz.ntmps150
  go_wp2_with fail
  go_ret
  exact ⟨by first | rfl | (rw [S_beq]; rfl), HBE.out⟩

set_option maxHeartbeats 1000000 in
theorem tt_clos (x : TT)  (key : Int) (B : Nat) (w : World) (hB : w.cell? ⟨B, 0, none⟩ = some (.int .i64 key)) (hlt : B < w.heap.size) :
    Calls Tryz.prog 129 #[.agg #[.int .i64 x.kind, .string (S x.enum), .string (S x.lit)], .pointer (some ⟨B, 0, none⟩)] w fun e w' => e = .returned (.bool (x.kind != key)) ∧ Below w.heap.size w w' := by
  have zb := fun o => zcell w o B 0 hlt
  have HBE := Lib.hid ((Below.refl w.heap.size w).alloc (Nat.le_refl _) (.cells #[.int .i64 x.kind, .string (S x.enum), .string (S x.lit)] 31))
  go_enter Tryz.func129, Tryz.ntmps129
  go_wp2_with fail
  go_ret
  exact ⟨rfl, HBE.out⟩

set_option linter.unusedVariables false
set_option maxRecDepth 100000 in
set_option maxHeartbeats 4000000 in
theorem attr_idx (l : List AttrP) (key : List UInt8) (p : Option Addr) (c B : Nat) (w : World) (hl : AttrsAt w p l) (hlen : l.length ≤ 281474976710656) (hB : w.cell? ⟨B, 0, none⟩ = some (.string (S key))) (hBl : B < w.heap.size) :
    Calls Tryz.prog 78 #[.slice p l.length c, .func (.func 105) #[] #[.pointer (some ⟨B, 0, none⟩)]] w fun e w' => e = .returned (.int .i64 (fstIdx (fun x => x.name == key) l)) ∧ Below w.heap.size w w' := by
  have hki : (l.length : Int) ≤ 281474976710656 := by omega
  have HL := Lib.hid hl
  have HB := Lib.hid hB
  clear hl hB
  go_enter Tryz.func78, Tryz.ntmps78
  go_wp2_with fail
  go_loopw [5, 8] (fun _ iv wr => ∃ k : Nat, k ≤ l.length ∧ iv = .int .i64 k ∧ Below w.heap.size w wr ∧ ∀ j, (h : j < l.length) → j < k → (fun x : AttrP => x.name == key) l[j] = false) (fun _ iv _ => l.length - (intOf iv).toNat)
  case atStart => exact ⟨0, Nat.zero_le _, rfl, Below.refl _ _, fun j _ h => absurd h (Nat.not_lt_zero _)⟩
  case round =>
    obtain ⟨k, hk, rfl, bw, hA⟩ := hrel
    have BW := Lib.hid bw
    have A := Lib.hid hA
    clear bw hA
    by_cases hlt : k < l.length
    · have hlti : (k : Int) < (l.length : Int) := by omega
      obtain ⟨b, o, rfl, hb, f0, f1, f2⟩ := (HL.out.later BW.out) k hlt
      have hBw : wr.cell? ⟨B, 0, none⟩ = some (.string (S key)) := (BW.out.cell (p := ⟨B, 0, none⟩) hBl).trans HB.out
      obtain ⟨y, hy⟩ : ∃ y, y = l[k] := ⟨_, rfl⟩
      rw [← hy] at f0 f1 f2
      have HC := Lib.hid (attr_clos y  key B wr hBw (Nat.lt_of_lt_of_le hBl BW.out.size))
      have HY := Lib.hid hy
      clear hy hBw
      cases hp : (fun x : AttrP => x.name == key) y with
      | true =>
        simp only at hp
        rw [hp] at HC
        have HP := Lib.hid hp
        clear hp
        go_wp2_with fail
        refine HC.out.mono ?_
        rintro e w1 ⟨rfl, b1⟩
        have B1 := Lib.hid (BW.out.trans (b1.mono BW.out.size))
        clear b1
        go_wp2_with fail
        go_ret
        refine ⟨?_, B1.out⟩
        rw [fst_hit (fun x : AttrP => x.name == key) l k hlt (fun j hj => A.out j (by omega) hj) (by rw [← HY.out]; exact HP.out)]
        rfl
      | false =>
        simp only at hp
        rw [hp] at HC
        have HP := Lib.hid hp
        clear hp
        go_wp2_with fail
        refine HC.out.mono ?_
        rintro e w1 ⟨rfl, b1⟩
        have B1 := Lib.hid (BW.out.trans (b1.mono BW.out.size))
        clear b1
        go_wp2_with fail
        go_roundw
        case rel => exact ⟨k + 1, by omega, by go_num, B1.out, fun j hj hjk => by
          by_cases e : j = k
          · subst e; rw [← HY.out]; exact HP.out
          · exact A.out j hj (by omega)⟩
        case measure => simp [intOf]; omega
    · have hlti : ¬ (k : Int) < (l.length : Int) := by omega
      go_wp2_with fail
      go_ret
      refine ⟨?_, BW.out⟩
      rw [fst_miss (fun x : AttrP => x.name == key) l (fun j hj => A.out j hj (by omega))]
      rfl

set_option linter.unusedVariables false
set_option maxRecDepth 100000 in
set_option maxHeartbeats 4000000 in
theorem enum_idx (l : List EnumP) (key : List UInt8) (p : Option Addr) (c B : Nat) (w : World) (hl : EnumsAt w p l) (hlen : l.length ≤ 281474976710656) (hB : w.cell? ⟨B, 0, none⟩ = some (.string (S key))) (hBl : B < w.heap.size) :
    Calls Tryz.prog 149 #[.slice p l.length c, .func (.func 150) #[] #[.pointer (some ⟨B, 0, none⟩)]] w fun e w' => e = .returned (.int .i64 (fstIdx (fun x => x.name == key) l)) ∧ Below w.heap.size w w' := by
  have hki : (l.length : Int) ≤ 281474976710656 := by omega
  have HL := Lib.hid hl
  have HB := Lib.hid hB
  clear hl hB
  go_enter Tryz.func149, Tryz.ntmps149
  go_wp2_with fail
  go_loopw [5, 8] (fun _ iv wr => ∃ k : Nat, k ≤ l.length ∧ iv = .int .i64 k ∧ Below w.heap.size w wr ∧ ∀ j, (h : j < l.length) → j < k → (fun x : EnumP => x.name == key) l[j] = false) (fun _ iv _ => l.length - (intOf iv).toNat)
  case atStart => exact ⟨0, Nat.zero_le _, rfl, Below.refl _ _, fun j _ h => absurd h (Nat.not_lt_zero _)⟩
  case round =>
    obtain ⟨k, hk, rfl, bw, hA⟩ := hrel
    have BW := Lib.hid bw
    have A := Lib.hid hA
    clear bw hA
    by_cases hlt : k < l.length
    · have hlti : (k : Int) < (l.length : Int) := by omega
      obtain ⟨b, o, q, cc, rfl, hb, f0, f1, _⟩ := (HL.out.later BW.out) k hlt
      have hBw : wr.cell? ⟨B, 0, none⟩ = some (.string (S key)) := (BW.out.cell (p := ⟨B, 0, none⟩) hBl).trans HB.out
      obtain ⟨y, hy⟩ : ∃ y, y = l[k] := ⟨_, rfl⟩
      rw [← hy] at f0 f1
      have HC := Lib.hid (enum_clos y q cc key B wr hBw (Nat.lt_of_lt_of_le hBl BW.out.size))
      have HY := Lib.hid hy
      clear hy hBw
      cases hp : (fun x : EnumP => x.name == key) y with
      | true =>
        simp only at hp
        rw [hp] at HC
        have HP := Lib.hid hp
        clear hp
        go_wp2_with fail
        refine HC.out.mono ?_
        rintro e w1 ⟨rfl, b1⟩
        have B1 := Lib.hid (BW.out.trans (b1.mono BW.out.size))
        clear b1
        go_wp2_with fail
        go_ret
        refine ⟨?_, B1.out⟩
        rw [fst_hit (fun x : EnumP => x.name == key) l k hlt (fun j hj => A.out j (by omega) hj) (by rw [← HY.out]; exact HP.out)]
        rfl
      | false =>
        simp only at hp
        rw [hp] at HC
        have HP := Lib.hid hp
        clear hp
        go_wp2_with fail
        refine HC.out.mono ?_
        rintro e w1 ⟨rfl, b1⟩
        have B1 := Lib.hid (BW.out.trans (b1.mono BW.out.size))
        clear b1
        go_wp2_with fail
        go_roundw
        case rel => exact ⟨k + 1, by omega, by go_num, B1.out, fun j hj hjk => by
          by_cases e : j = k
          · subst e; rw [← HY.out]; exact HP.out
          · exact A.out j hj (by omega)⟩
        case measure => simp [intOf]; omega
    · have hlti : ¬ (k : Int) < (l.length : Int) := by omega
      go_wp2_with fail
      go_ret
      refine ⟨?_, BW.out⟩
      rw [fst_miss (fun x : EnumP => x.name == key) l (fun j hj => A.out j hj (by omega))]
      rfl

set_option linter.unusedVariables false
set_option maxRecDepth 100000 in
set_option maxHeartbeats 4000000 in
theorem tt_idx (l : List TT) (key : Int) (p : Option Addr) (c B : Nat) (w : World) (hl : TTsAt w p l) (hlen : l.length ≤ 281474976710656) (hB : w.cell? ⟨B, 0, none⟩ = some (.int .i64 key)) (hBl : B < w.heap.size) :
    Calls Tryz.prog 148 #[.slice p l.length c, .func (.func 129) #[] #[.pointer (some ⟨B, 0, none⟩)]] w fun e w' => e = .returned (.int .i64 (fstIdx (fun x => x.kind != key) l)) ∧ Below w.heap.size w w' := by
  have hki : (l.length : Int) ≤ 281474976710656 := by omega
  have HL := Lib.hid hl
  have HB := Lib.hid hB
  clear hl hB
  go_enter Tryz.func148, Tryz.ntmps148
  go_wp2_with fail
  go_loopw [5, 8] (fun _ iv wr => ∃ k : Nat, k ≤ l.length ∧ iv = .int .i64 k ∧ Below w.heap.size w wr ∧ ∀ j, (h : j < l.length) → j < k → (fun x : TT => x.kind != key) l[j] = false) (fun _ iv _ => l.length - (intOf iv).toNat)
  case atStart => exact ⟨0, Nat.zero_le _, rfl, Below.refl _ _, fun j _ h => absurd h (Nat.not_lt_zero _)⟩
  case round =>
    obtain ⟨k, hk, rfl, bw, hA⟩ := hrel
    have BW := Lib.hid bw
    have A := Lib.hid hA
    clear bw hA
    by_cases hlt : k < l.length
    · have hlti : (k : Int) < (l.length : Int) := by omega
      obtain ⟨b, o, rfl, hb, f0, f1, f2⟩ := (HL.out.later BW.out) k hlt
      have hBw : wr.cell? ⟨B, 0, none⟩ = some (.int .i64 key) := (BW.out.cell (p := ⟨B, 0, none⟩) hBl).trans HB.out
      obtain ⟨y, hy⟩ : ∃ y, y = l[k] := ⟨_, rfl⟩
      rw [← hy] at f0 f1 f2
      have HC := Lib.hid (tt_clos y  key B wr hBw (Nat.lt_of_lt_of_le hBl BW.out.size))
      have HY := Lib.hid hy
      clear hy hBw
      cases hp : (fun x : TT => x.kind != key) y with
      | true =>
        simp only at hp
        rw [hp] at HC
        have HP := Lib.hid hp
        clear hp
        go_wp2_with fail
        refine HC.out.mono ?_
        rintro e w1 ⟨rfl, b1⟩
        have B1 := Lib.hid (BW.out.trans (b1.mono BW.out.size))
        clear b1
        go_wp2_with fail
        go_ret
        refine ⟨?_, B1.out⟩
        rw [fst_hit (fun x : TT => x.kind != key) l k hlt (fun j hj => A.out j (by omega) hj) (by rw [← HY.out]; exact HP.out)]
        rfl
      | false =>
        simp only at hp
        rw [hp] at HC
        have HP := Lib.hid hp
        clear hp
        go_wp2_with fail
        refine HC.out.mono ?_
        rintro e w1 ⟨rfl, b1⟩
        have B1 := Lib.hid (BW.out.trans (b1.mono BW.out.size))
        clear b1
        go_wp2_with fail
        go_roundw
        case rel => exact ⟨k + 1, by omega, by go_num, B1.out, fun j hj hjk => by
          by_cases e : j = k
          · subst e; rw [← HY.out]; exact HP.out
          · exact A.out j hj (by omega)⟩
        case measure => simp [intOf]; omega
    · have hlti : ¬ (k : Int) < (l.length : Int) := by omega
      go_wp2_with fail
      go_ret
      refine ⟨?_, BW.out⟩
      rw [fst_miss (fun x : TT => x.kind != key) l (fun j hj => A.out j hj (by omega))]
      rfl

end Go.Proofs.YtdgeofmnoabilaaGreatDoor.Ty

namespace Go.Proofs.YtdgeofmnoabilaaGreatDoor.Ty
open Go.RowKit
open Ex Lx

theorem fst_ge {α : Type} (p : α → Bool) : ∀ l : List α, -1 ≤ fstIdx p l
  | [] => Int.le_refl (-1)
  | x :: r => by
    have := fst_ge p r
    show -1 ≤ (if p x then 0 else if fstIdx p r < 0 then -1 else fstIdx p r + 1)
    split
    · decide
    · split <;> omega
theorem fst_any {α : Type} (p : α → Bool) : ∀ l : List α, decide (0 ≤ fstIdx p l) = l.any p
  | [] => rfl
  | x :: r => by
    have h := fst_any p r
    have hg := fst_ge p r
    rw [List.any_cons, ← h]
    show decide (0 ≤ (if p x then 0 else if fstIdx p r < 0 then -1 else fstIdx p r + 1)) = _
    cases hx : p x with
    | true => simp
    | false =>
      simp only [Bool.false_eq_true, if_false, Bool.false_or]
      by_cases h0 : fstIdx p r < 0
      · rw [if_pos h0, decide_eq_false (by omega), decide_eq_false (by omega)]
      · rw [if_neg h0, decide_eq_true (by omega), decide_eq_true (by omega)]
theorem has_idx : ∀ (l : List EnumP) (n s : List UInt8), (fstIdx (fun x => x.name == n) l = -1 ∧ hasB l n s = false) ∨ ∃ k, ∃ h : k < l.length, fstIdx (fun x => x.name == n) l = (k : Int) ∧ hasB l n s = l[k].syms.any (fun x => s == x)
  | [], _, _ => .inl ⟨rfl, rfl⟩
  | e :: r, n, s => by
    have e1 : fstIdx (fun x : EnumP => x.name == n) (e :: r) = (if (e.name == n) = true then 0 else if fstIdx (fun x : EnumP => x.name == n) r < 0 then -1 else fstIdx (fun x : EnumP => x.name == n) r + 1) := rfl
    have e2 : hasB (e :: r) n s = if e.name = n then e.syms.any (· == s) else hasB r n s := rfl
    rw [e1, e2]
    by_cases hn : e.name = n
    · rw [if_pos hn, if_pos (by simpa using hn)]
      refine .inr ⟨0, by simp, rfl, ?_⟩
      simp only [List.getElem_cons_zero]
      congr 1
      funext x
      exact Bool.beq_comm
    · rw [if_neg hn, if_neg (by simpa using hn)]
      rcases has_idx r n s with ⟨h1, h2⟩ | ⟨k, hk, h1, h2⟩
      · rw [h1]; exact .inl ⟨rfl, h2⟩
      · rw [h1]
        refine .inr ⟨k + 1, by simp; omega, ?_, ?_⟩
        · rw [if_neg (by omega)]; omega
        · simpa using h2

set_option linter.unusedVariables false
set_option maxRecDepth 100000 in
set_option maxHeartbeats 4000000 in
theorem str_idx (l : List (List UInt8)) (s : List UInt8) (p : Option Addr) (c : Nat) (w : World) (hl : StrsAt w p l) (hlen : l.length ≤ 281474976710656) :
    Calls Tryz.prog 160 #[.slice p l.length c, .string (S s)] w fun e w' => e = .returned (.int .i64 (fstIdx (fun x => s == x) l)) ∧ w = w' := by
  have hki : (l.length : Int) ≤ 281474976710656 := by omega
  have HL := Lib.hid hl
  clear hl
  go_enter Tryz.func160, Tryz.ntmps160
  go_wp2_with fail
  go_loop [5, 8] (fun _ iv => ∃ k : Nat, k ≤ l.length ∧ iv = .int .i64 k ∧ ∀ j, (h : j < l.length) → j < k → (fun x => s == x) l[j] = false) (fun _ iv => l.length - (intOf iv).toNat)
  case atStart => exact ⟨0, Nat.zero_le _, rfl, fun j _ h => absurd h (Nat.not_lt_zero _)⟩
  case round =>
    obtain ⟨k, hk, rfl, hA⟩ := hrel
    have A := Lib.hid hA
    clear hA
    by_cases hlt : k < l.length
    · have hlti : (k : Int) < (l.length : Int) := by omega
      obtain ⟨b, o, rfl, hb, f0⟩ := HL.out k hlt
      obtain ⟨y, hy⟩ : ∃ y, y = l[k] := ⟨_, rfl⟩
      rw [← hy] at f0
      have HY := Lib.hid hy
      clear hy
      cases hp : (s == y) with
      | true =>
        have HP := Lib.hid hp
        have e1 : ((S s).toList == (S y).toList) = true := by rw [S_beq]; exact hp
        clear hp
        go_wp2_with fail
        go_ret
        refine ⟨?_, rfl⟩
        rw [fst_hit (fun x => s == x) l k hlt (fun j hj => A.out j (by omega) hj) (by rw [← HY.out]; exact HP.out)]
        rfl
      | false =>
        have HP := Lib.hid hp
        have e1 : ((S s).toList == (S y).toList) = false := by rw [S_beq]; exact hp
        clear hp
        go_wp2_with fail
        go_round
        case rel => exact ⟨k + 1, by omega, by go_num, fun j hj hjk => by
          by_cases e : j = k
          · subst e; rw [← HY.out]; exact HP.out
          · exact A.out j hj (by omega)⟩
        case measure => simp [intOf]; omega
    · have hlti : ¬ (k : Int) < (l.length : Int) := by omega
      go_wp2_with fail
      go_ret
      refine ⟨?_, rfl⟩
      rw [fst_miss (fun x => s == x) l (fun j hj => A.out j hj (by omega))]
      rfl
set_option maxHeartbeats 1000000 in
theorem str_has (l : List (List UInt8)) (s : List UInt8) (p : Option Addr) (c : Nat) (w : World) (hl : StrsAt w p l) (hlen : l.length ≤ 281474976710656) :
    Calls Tryz.prog 151 #[.slice p l.length c, .string (S s)] w fun e w' => e = .returned (.bool (l.any (fun x => s == x))) ∧ w = w' := by
  have HI := Lib.hid (str_idx l s p c w hl hlen)
  have HG := Lib.hid (fst_any (fun x => s == x) l)
  clear hl
  generalize fstIdx (fun x => s == x) l = k at HI HG
  generalize l.any (fun x => s == x) = a at HG ⊢
  go_enter Tryz.func151, Tryz.ntmps151
  go_wp2_with fail
  refine HI.out.mono ?_
  rintro e w1 ⟨rfl, rfl⟩
  go_wp2_with fail
  go_ret
  exact ⟨by rw [← HG.out]; rfl, rfl⟩

set_option maxRecDepth 100000 in
set_option maxHeartbeats 2000000 in
theorem has_any (l : List EnumP) (n s : List UInt8) (p : Option Addr) (c : Nat) (w : World) (hl : EnumsAt w p l) (hlen : l.length ≤ 281474976710656) (hsy : ∀ e ∈ l, e.syms.length ≤ 281474976710656) :
    Calls Tryz.prog 130 #[.slice p l.length c, .string (S n), .string (S s)] w fun e w' => e = .returned (.bool (hasB l n s)) ∧ Below w.heap.size w w' := by
  have hki : (l.length : Int) ≤ 281474976710656 := by omega
  have ba := (Below.refl w.heap.size w).alloc (Nat.le_refl _) (.cells #[.string (S n)] 9)
  have hla := hl.later ba
  have HI := Lib.hid (enum_idx l n p c w.heap.size (w.alloc (.cells #[.string (S n)] 9)) hla hlen (cell_of_row _ w.heap.size 0 _ _ (0, 0) (heap_alloc_new w _)) (by simp))
  have HLA := Lib.hid hla
  have HBA := Lib.hid ba
  clear hl ba hla
  rcases has_idx l n s with ⟨h1, h2⟩ | ⟨k, hk, h1, h2⟩
  · rw [h1] at HI
    rw [h2]
    clear h1 h2
    go_enter Tryz.func130, Tryz.ntmps130
    go_wp2_with fail
    refine HI.out.mono ?_
    rintro e w1 ⟨rfl, b1⟩
    have HB1 := Lib.hid (HBA.out.trans (b1.mono HBA.out.size))
    clear b1
    go_wp2_with fail
    go_ret
    exact ⟨rfl, HB1.out⟩
  · rw [h1] at HI
    rw [h2]
    clear h1 h2
    have hsl := hsy l[k] (List.getElem_mem hk)
    obtain ⟨y, hy⟩ : ∃ y, y = l[k] := ⟨_, rfl⟩
    rw [← hy] at hsl ⊢
    have HY := Lib.hid hy
    clear hy
    have hki2 : (k : Int) < (l.length : Int) := by omega
    go_enter Tryz.func130, Tryz.ntmps130
    go_wp2_with fail
    refine HI.out.mono ?_
    rintro e w1 ⟨rfl, b1⟩
    have HB1 := Lib.hid (HBA.out.trans (b1.mono HBA.out.size))
    obtain ⟨b, o, q, cc, rfl, hb, f0, f1, fs⟩ := (HLA.out.later b1) k hk
    rw [← HY.out] at f0 f1 fs
    have HC := Lib.hid (str_has y.syms s q cc w1 fs hsl)
    clear b1 fs
    go_wp2_with fail
    refine HC.out.mono ?_
    rintro e w2 ⟨rfl, rfl⟩
    go_wp2_with fail
    go_ret
    exact ⟨rfl, HB1.out⟩

theorem all_bne (l : List TT) (k : Int) : allK l k = !(l.any fun x => x.kind != k) := by
  unfold allK
  induction l with
  | nil => rfl
  | cons x r ih =>
    rw [List.all_cons, List.any_cons, ih, Bool.not_or]
    congr 1
    simp [bne]
set_option maxHeartbeats 1000000 in
theorem ttcont_any (l : List TT) (key : Int) (p : Option Addr) (c B : Nat) (w : World) (hl : TTsAt w p l) (hlen : l.length ≤ 281474976710656) (hB : w.cell? ⟨B, 0, none⟩ = some (.int .i64 key)) (hBl : B < w.heap.size) :
    Calls Tryz.prog 128 #[.slice p l.length c, .func (.func 129) #[] #[.pointer (some ⟨B, 0, none⟩)]] w fun e w' => e = .returned (.bool (l.any (fun x => x.kind != key))) ∧ Below w.heap.size w w' := by
  have HI := Lib.hid (tt_idx l key p c B w hl hlen hB hBl)
  have HG := Lib.hid (fst_any (fun x => x.kind != key) l)
  clear hl hB hBl
  generalize fstIdx (fun x => x.kind != key) l = k at HI HG
  generalize l.any (fun x => x.kind != key) = a at HG ⊢
  go_enter Tryz.func128, Tryz.ntmps128
  go_wp2_with fail
  refine HI.out.mono ?_
  rintro e w1 ⟨rfl, b1⟩
  have HB1 := Lib.hid b1
  clear b1
  go_wp2_with fail
  go_ret
  exact ⟨by rw [← HG.out]; rfl, HB1.out⟩
set_option maxHeartbeats 1000000 in
theorem all_any (l : List TT) (key : Int) (p : Option Addr) (c : Nat) (w : World) (hl : TTsAt w p l) (hlen : l.length ≤ 281474976710656) :
    Calls Tryz.prog 106 #[.slice p l.length c, .int .i64 key] w fun e w' => e = .returned (.bool (allK l key)) ∧ Below w.heap.size w w' := by
  have ba := (Below.refl w.heap.size w).alloc (Nat.le_refl _) (.cells #[.int .i64 key] 3)
  have HI := Lib.hid (ttcont_any l key p c w.heap.size (w.alloc (.cells #[.int .i64 key] 3)) (hl.later ba) hlen (cell_of_row _ w.heap.size 0 _ _ (0, 0) (heap_alloc_new w _)) (by simp))
  have HBA := Lib.hid ba
  clear hl ba
  rw [all_bne]
  generalize l.any (fun x => x.kind != key) = a at *
  go_enter Tryz.func106, Tryz.ntmps106
  go_wp2_with fail
  refine HI.out.mono ?_
  rintro e w1 ⟨rfl, b1⟩
  have HB1 := Lib.hid (HBA.out.trans (b1.mono HBA.out.size))
  clear b1
  go_wp2_with fail
  go_ret
  exact ⟨rfl, HB1.out⟩

set_option maxHeartbeats 1000000 in
theorem kindOf_any (o : Int) (w : World) : Calls Tryz.prog 75 #[.int .i64 o] w fun e w' => e = .returned (.int .i64 (kindOf o)) ∧ w = w' := by
  unfold kindOf
  go_enter Tryz.func75, Tryz.ntmps75
  by_cases h : o = 2 ∨ o = 5 ∨ o = 26 ∨ o = 1 ∨ o = 11 ∨ o = 20 ∨ o = 21 ∨ o = 22 ∨ o = 23 ∨ o = 24 ∨ o = 12 ∨ o = 25
  · rcases h with rfl | rfl | rfl | rfl | rfl | rfl | rfl | rfl | rfl | rfl | rfl | rfl
    all_goals
      go_wp2_with fail
      go_ret
      exact ⟨rfl, rfl⟩
  · have n1 : (o == 2) = false := by simp; omega
    have n2 : (o == 5) = false := by simp; omega
    have n3 : (o == 26) = false := by simp; omega
    have n4 : (o == 1) = false := by simp; omega
    have n5 : (o == 11) = false := by simp; omega
    have n6 : (o == 20) = false := by simp; omega
    have n7 : (o == 21) = false := by simp; omega
    have n8 : (o == 22) = false := by simp; omega
    have n9 : (o == 23) = false := by simp; omega
    have m1 : (o == 24) = false := by simp; omega
    have m2 : (o == 12) = false := by simp; omega
    have m3 : (o == 25) = false := by simp; omega
    rw [if_neg (by omega), if_neg (by omega), if_neg (by omega)]
    clear h
    go_wp2_with fail
    go_ret
    exact ⟨rfl, rfl⟩

end Go.Proofs.YtdgeofmnoabilaaGreatDoor.Ty

namespace Go.Proofs.YtdgeofmnoabilaaGreatDoor.Ty
open Go.RowKit
open Ex Lx

theorem clone_any (s : ByteArray) (hs : s.size ≤ 281474976710656) (w : World) :
    Calls Tryz.prog 46 #[.string s] w fun e w' => e = .returned (.string s) ∧ Below w.heap.size w w' := by
  go_enter Tryz.func46, Tryz.ntmps46
  go_wp2_with fail
  refine (Tryz.stringslite_Clone s _ hs).mono ?_
  rintro e w1 ⟨rfl, b1⟩
  have HB := Lib.hid b1
  clear b1
  go_wp2_with fail
  go_ret
  exact ⟨rfl, HB.out⟩

theorem named_idx : ∀ (l : List AttrP) (n : List UInt8), (fstIdx (fun x => x.name == n) l = -1 ∧ namedTy l n = (TT.zero, 20)) ∨ ∃ k, ∃ h : k < l.length, fstIdx (fun x => x.name == n) l = (k : Int) ∧ namedTy l n = (⟨l[k].kind, l[k].enum, []⟩, 0)
  | [], _ => .inl ⟨rfl, rfl⟩
  | e :: r, n => by
    have e1 : fstIdx (fun x : AttrP => x.name == n) (e :: r) = (if (e.name == n) = true then 0 else if fstIdx (fun x : AttrP => x.name == n) r < 0 then -1 else fstIdx (fun x : AttrP => x.name == n) r + 1) := rfl
    have e2 : namedTy (e :: r) n = if e.name = n then (⟨e.kind, e.enum, []⟩, 0) else namedTy r n := rfl
    rw [e1, e2]
    by_cases hn : e.name = n
    · rw [if_pos hn, if_pos (by simpa using hn)]
      exact .inr ⟨0, by simp, rfl, rfl⟩
    · rw [if_neg hn, if_neg (by simpa using hn)]
      rcases named_idx r n with ⟨h1, h2⟩ | ⟨k, hk, h1, h2⟩
      · rw [h1]; exact .inl ⟨rfl, h2⟩
      · rw [h1]
        refine .inr ⟨k + 1, by simp; omega, ?_, ?_⟩
        · rw [if_neg (by omega)]; omega
        · simpa using h2
/-- A variable of a kind. -/
def TB (w : World) (H : Nat) (k e l : Value) : Prop := w.heap[H]? = some (.cells #[k, e, l] 31 (0, 0))
section
variable {w w' : World} {H : Nat} {a b c : Value}
theorem TB.c0 (h : TB w H a b c) : w.cell? ⟨H, 0, none⟩ = some a := cell_of_row w H 0 _ _ (0, 0) h
theorem TB.c1 (h : TB w H a b c) : w.cell? ⟨H, 1, none⟩ = some b := cell_of_row w H 1 _ _ (0, 0) h
theorem TB.c2 (h : TB w H a b c) : w.cell? ⟨H, 2, none⟩ = some c := cell_of_row w H 2 _ _ (0, 0) h
theorem TB.fz (h : TB w H a b c) (j : Nat) : w.frozen? ⟨H, j, none⟩ = false := frozen_of_row w H j _ _ h
theorem TB.lt (h : TB w H a b c) : H < w.heap.size := World.block_lt_of_cell? w _ h.c0
theorem TB.later (h : TB w H a b c) (k : Below w.heap.size w w') : TB w' H a b c := (k.block H h.lt).trans h
theorem TB.put (h : TB w H a b c) (x y z : Value) : TB (((w.setCell ⟨H, 0, none⟩ x).setCell ⟨H, 1, none⟩ y).setCell ⟨H, 2, none⟩ z) H x y z :=
  heap_setCell_same _ H 2 _ _ _ (heap_setCell_same _ H 1 _ _ _ (heap_setCell_same w H 0 _ _ _ h))
end
theorem set3_other (w : World) (H b j : Nat) (x y z : Value) (h : b ≠ H) : (((w.setCell ⟨H, 0, none⟩ x).setCell ⟨H, 1, none⟩ y).setCell ⟨H, 2, none⟩ z).cell? ⟨b, j, none⟩ = w.cell? ⟨b, j, none⟩ := by
  have o : ∀ (x : World) (i : Nat) (v : Value), (x.setCell ⟨H, i, none⟩ v).cell? ⟨b, j, none⟩ = x.cell? ⟨b, j, none⟩ := fun x i v =>
    World.cell?_setCell_other (w := x) (a := ⟨H, i, none⟩) (b := ⟨b, j, none⟩) (v := v) (h := by intro e; injection e with e2 _ _; exact h e2.symm)
  rw [o, o, o]
theorem TB.new (W : World) (a b c : Value) (k : Nat) (h : W.heap.size = k) : TB (W.alloc (.cells #[a, b, c] 31)) k a b c := new_box W _ _ k h
/-- What a call that finds a kind leaves. -/
def retT (x : TT × Nat) : Ending := .returned (.tuple #[.agg #[.int .i64 x.1.kind, .string (S x.1.enum), .string (S x.1.lit)], .int .i64 (x.2 : Int)])

set_option linter.unusedVariables false
set_option maxRecDepth 100000 in
set_option maxHeartbeats 4000000 in
theorem named_any (l : List AttrP) (n : List UInt8) (p : Option Addr) (c : Nat) (w : World) (hl : AttrsAt w p l) (hlen : l.length ≤ 281474976710656) (hen : ∀ a ∈ l, a.enum.length ≤ 281474976710656) :
    Calls Tryz.prog 73 #[.slice p l.length c, .string (S n)] w fun e w' => e = retT (namedTy l n) ∧ Below w.heap.size w w' := by
  have hki : (l.length : Int) ≤ 281474976710656 := by omega
  have ba := ((Below.refl w.heap.size w).alloc (Nat.le_refl _) (.cells #[.string (S n)] 9)).alloc (by simp) (.cells #[.int .i64 0, .string ⟨#[]⟩, .string ⟨#[]⟩] 31)
  have hla := hl.later ba
  have HI := Lib.hid (attr_idx l n p c w.heap.size _ hla hlen (by simp) (by simp; omega))
  have HL0 := Lib.hid hl
  have HBA := Lib.hid ba
  clear hl ba hla
  unfold retT
  rcases named_idx l n with ⟨h1, h2⟩ | ⟨k, hk, h1, h2⟩
  · rw [h1] at HI
    rw [h2]
    clear h1 h2
    go_enter Tryz.func73, Tryz.ntmps73
    go_wp2_with fail
    refine HI.out.mono ?_
    rintro e w1 ⟨rfl, b1⟩
    have HB1 := Lib.hid (HBA.out.trans (b1.mono HBA.out.size))
    have hnb := (TB.new (w.alloc (.cells #[.string (S n)] 9)) (.int .i64 0) (.string ⟨#[]⟩) (.string ⟨#[]⟩) (w.heap.size + 1) (by simp)).later b1
    have fz := hnb.fz
    have k0 := hnb.c0
    have k1 := hnb.c1
    have k2 := hnb.c2
    have HP := Lib.hid (hnb.put (.int .i64 0) (.string ⟨#[]⟩) (.string ⟨#[]⟩))
    clear b1 hnb
    go_wp2_with fail
    have d0 := HP.out.c0
    have d1 := HP.out.c1
    have d2 := HP.out.c2
    exact bodyPost_ret (v := .tuple #[.agg #[.int .i64 0, .string ⟨#[]⟩, .string ⟨#[]⟩], .int .i64 20]) (by simp [results, d0, d1, d2, Tryz.results73, go_sem]) rfl ⟨rfl, ((HB1.out.setCell (p := ⟨w.heap.size + 1, 0, none⟩) (by simp) _).setCell (p := ⟨w.heap.size + 1, 1, none⟩) (by simp) _).setCell (p := ⟨w.heap.size + 1, 2, none⟩) (by simp) _⟩
  · rw [h1] at HI
    rw [h2]
    clear h1 h2
    have hsl := hen l[k] (List.getElem_mem hk)
    obtain ⟨y, hy⟩ : ∃ y, y = l[k] := ⟨_, rfl⟩
    rw [← hy] at hsl ⊢
    have HY := Lib.hid hy
    clear hy
    have hki2 : (k : Int) < (l.length : Int) := by omega
    go_enter Tryz.func73, Tryz.ntmps73
    go_wp2_with fail
    refine HI.out.mono ?_
    rintro e w1 ⟨rfl, b1⟩
    have HB1 := Lib.hid (HBA.out.trans (b1.mono HBA.out.size))
    have hb0 := HBA.out.trans (b1.mono HBA.out.size)
    obtain ⟨b, o, rfl, hb, f0, f1, f2⟩ := HL0.out k hk
    rw [← hb0.cell (p := ⟨b, _, none⟩) hb] at f0 f1 f2
    have hneb : b ≠ w.heap.size + 1 := by omega
    have hb := Nat.lt_of_lt_of_le hb hb0.size
    rw [← HY.out] at f0 f1 f2
    have HNB := Lib.hid ((TB.new (w.alloc (.cells #[.string (S n)] 9)) (.int .i64 0) (.string ⟨#[]⟩) (.string ⟨#[]⟩) (w.heap.size + 1) (by simp)).later b1)
    have HCL := Lib.hid (fun wr => clone_any (S y.enum) (by rw [S_size]; exact hsl) wr)
    have HF1 := Lib.hid f1
    have HF2 := Lib.hid f2
    have HLT := Lib.hid hb
    have HLH := Lib.hid HNB.out.lt
    clear b1 hb0
    go_wp2_with fail
    go_region_held3 (fun w' => w'.cell? ⟨b, o + k * 3 + 1, none⟩ = some (.int .i64 y.kind) ∧ w'.cell? ⟨b, o + k * 3 + 2, none⟩ = some (.string (S y.enum)))
      (first | assumption | exact ⟨HF1.out, HF2.out⟩ | exact ⟨by assumption, by assumption⟩ | exact ⟨(set3_other _ _ _ _ _ _ _ hneb).trans (by assumption), (set3_other _ _ _ _ _ _ _ hneb).trans (by assumption)⟩ | go_keep)
      (first
        | (go_at_call 46; (with_reducible refine (HCL.out _).mono ?_); rintro e w2 ⟨rfl, b2⟩; have g1 := (b2.cell (p := ⟨b, o + k * 3 + 1, none⟩) HLT.out).trans HF1.out; have g2 := (b2.cell (p := ⟨b, o + k * 3 + 2, none⟩) HLT.out).trans HF2.out; have hnb := (show TB w1.drew _ _ _ _ from HNB.out).later b2; have fz := hnb.fz; have k0 := hnb.c0; have k1 := hnb.c1; have k2 := hnb.c2; have HB2 := Lib.hid (HB1.out.drew.trans (b2.mono HB1.out.size)); have HP := Lib.hid (hnb.put (.int .i64 y.kind) (.string (S y.enum)) (.string ⟨#[]⟩)); clear b2 hnb))
    go_wp2_with fail
    have d0 := HP.out.c0
    have d1 := HP.out.c1
    have d2 := HP.out.c2
    exact bodyPost_ret (v := .tuple #[.agg #[.int .i64 y.kind, .string (S y.enum), .string ⟨#[]⟩], .int .i64 0]) (by simp [results, d0, d1, d2, Tryz.results73, go_sem]) rfl ⟨rfl, ((HB2.out.setCell (p := ⟨w.heap.size + 1, 0, none⟩) (by simp) _).setCell (p := ⟨w.heap.size + 1, 1, none⟩) (by simp) _).setCell (p := ⟨w.heap.size + 1, 2, none⟩) (by simp) _⟩

end Go.Proofs.YtdgeofmnoabilaaGreatDoor.Ty

namespace Go.Proofs.YtdgeofmnoabilaaGreatDoor.Ty
open Go.RowKit
open Ex Lx

theorem S_nil : S [] = ⟨#[]⟩ := rfl
theorem nil_list : (S []).toList = [] := by rw [ByteArray.toList_eq, S_toList]
theorem nil_empty : (S []).toList.isEmpty = true := by rw [nil_list]; rfl
theorem nonempty_a (c : UInt8) (r : List UInt8) : ((S (c :: r)).toList == (⟨#[]⟩ : ByteArray).toList) = false := by
  rw [← S_nil, S_beq]; rfl
theorem nonempty_b (c : UInt8) (r : List UInt8) : (S (c :: r)).toList.isEmpty = false := by rw [ByteArray.toList_eq, S_toList]; rfl

set_option linter.unusedVariables false
set_option linter.unusedSimpArgs false
set_option maxRecDepth 100000 in
set_option maxHeartbeats 4000000 in
theorem alike_any (l : List EnumP) (a b : TT) (p : Option Addr) (c : Nat) (w : World) (hl : EnumsAt w p l) (hlen : l.length ≤ 281474976710656) (hsy : ∀ e ∈ l, e.syms.length ≤ 281474976710656) :
    Calls Tryz.prog 107 #[.slice p l.length c, .agg #[.int .i64 a.kind, .string (S a.enum), .string (S a.lit)], .agg #[.int .i64 b.kind, .string (S b.enum), .string (S b.lit)]] w fun e w' => e = .returned (.bool (alikeB l a b)) ∧ Below w.heap.size w w' := by
  obtain ⟨ka, ea, la⟩ := a
  obtain ⟨kb, eb, lb⟩ := b
  simp only
  have hba := ((Below.refl w.heap.size w).alloc (Nat.le_refl _) (.cells #[.int .i64 ka, .string (S ea), .string (S la)] 31)).alloc (by simp) (.cells #[.int .i64 kb, .string (S eb), .string (S lb)] 31)
  have HH := Lib.hid (fun n s => has_any l n s p c _ (hl.later hba) hlen hsy)
  have HBA := Lib.hid hba
  clear hl hba
  unfold alikeB
  simp only
  by_cases hk : ka = kb
  · rw [if_neg (by simpa using hk)]
    subst hk
    by_cases h4 : ka = 4
    · rw [if_neg (by simpa using h4)]
      subst h4
      cases la with
      | cons ca ra =>
        have na := nonempty_a ca ra
        have na2 := nonempty_b ca ra
        cases lb with
        | cons cb rb =>
          have nb := nonempty_a cb rb
          have nb2 := nonempty_b cb rb
          rw [if_pos (by simp)]
          generalize S (ca :: ra) = Sa at *
          generalize S (cb :: rb) = Sb at *
          go_enter Tryz.func107, Tryz.ntmps107
          go_wp2_with fail
          go_ret
          exact ⟨rfl, HBA.out⟩
        | nil =>
          have e0 := nil_list
          have e1 := nil_empty
          rw [if_neg (by simp), if_pos (by simp)]
          have HC := Lib.hid (HH.out eb (ca :: ra))
          generalize hasB l eb (ca :: ra) = r at *
          generalize S (ca :: ra) = Sa at *
          go_enter Tryz.func107, Tryz.ntmps107
          go_wp2_with fail
          refine HC.out.mono ?_
          rintro e w1 ⟨rfl, b1⟩
          have HB1 := Lib.hid (HBA.out.trans (b1.mono HBA.out.size))
          clear b1
          go_wp2_with fail
          go_ret
          exact ⟨rfl, HB1.out⟩
      | nil =>
        have e0 := nil_list
        have e1 := nil_empty
        cases lb with
        | cons cb rb =>
          have nb := nonempty_a cb rb
          have nb2 := nonempty_b cb rb
          rw [if_neg (by simp), if_neg (by simp), if_pos (by simp)]
          have HC := Lib.hid (HH.out ea (cb :: rb))
          generalize hasB l ea (cb :: rb) = r at *
          generalize S (cb :: rb) = Sb at *
          go_enter Tryz.func107, Tryz.ntmps107
          go_wp2_with fail
          refine HC.out.mono ?_
          rintro e w1 ⟨rfl, b1⟩
          have HB1 := Lib.hid (HBA.out.trans (b1.mono HBA.out.size))
          clear b1
          go_wp2_with fail
          go_ret
          exact ⟨rfl, HB1.out⟩
        | nil =>
          rw [if_neg (by simp), if_neg (by simp), if_neg (by simp)]
          go_enter Tryz.func107, Tryz.ntmps107
          go_wp2_with fail
          go_ret
          exact ⟨by first | rfl | (rw [S_beq]; rfl), HBA.out⟩
    · rw [if_pos (by simpa using h4)]
      have h4b : (ka == 4) = false := by simpa using h4
      go_enter Tryz.func107, Tryz.ntmps107
      go_wp2_with fail
      go_ret
      exact ⟨rfl, HBA.out⟩
  · rw [if_pos (by simpa using hk)]
    have hkb : (ka == kb) = false := by simpa using hk
    have hkc : (ka != kb) = true := by simpa using hk
    go_enter Tryz.func107, Tryz.ntmps107
    go_wp2_with fail
    go_ret
    exact ⟨rfl, HBA.out⟩

end Go.Proofs.YtdgeofmnoabilaaGreatDoor.Ty
