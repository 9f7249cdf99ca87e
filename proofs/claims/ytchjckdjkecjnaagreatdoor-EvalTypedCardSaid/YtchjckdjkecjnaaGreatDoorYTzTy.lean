/- ZTzTy -/
import Derived.Test.YtchjckdjkecjnaaGreatDoorYTzC
import Derived.Test.YtchjckdjkecjnaaGreatDoorYShelf
import Derived.Deep.RegionHeld3
import Derived.Deep.QuietTactic
import Derived.BigQuiet
import Derived.Lib.SmallJoins
import Derived.Test.YtchjckdjkecjnaaGreatDoorYExWrJ
namespace Go.Proofs.YtchjckdjkecjnaaGreatDoor.Ty
open Go.RowKit
open Ex Lx
set_option linter.unusedVariables false
set_option linter.unusedVariables false
set_option linter.unusedVariables false
end Go.Proofs.YtchjckdjkecjnaaGreatDoor.Ty
namespace Go.Proofs.YtchjckdjkecjnaaGreatDoor.Ty
open Go.RowKit
open Ex Lx
theorem has_idx : ∀ (l : List EnumP) (n s : List UInt8), (fstIdx (fun x => x.name == n) l = -1 ∧ hasB l n s = false) ∨ ∃ k, ∃ h : k < l.length, fstIdx (fun x => x.name == n) l = (k : Int) ∧ hasB l n s = l[k].syms.any (fun x => s == x)
  | [], _, _ => .inl ⟨rfl, rfl⟩
  | e :: r, n, s => by
    have e1 : fstIdx (fun x : EnumP => x.name == n) (e :: r) = (if (e.name == n) = true then 0 else if fstIdx (fun x : EnumP => x.name == n) r < 0 then -1 else fstIdx (fun x : EnumP => x.name == n) r + 1) := rfl
    have e2 : hasB (e :: r) n s = if e.name = n then e.syms.any (· == s) else hasB r n s := rfl
    rw [e1, e2]
    by_cases hn : e.name = n
    · rw [if_pos hn, if_pos (by simpa using hn)]
      refine .inr ⟨0, by simp, rfl, ?_⟩
      simp only [List.getElem_cons_zero]
      congr 1
      funext x
      exact Bool.beq_comm
    · rw [if_neg hn, if_neg (by simpa using hn)]
      rcases has_idx r n s with ⟨h1, h2⟩ | ⟨k, hk, h1, h2⟩
      · rw [h1]; exact .inl ⟨rfl, h2⟩
      · rw [h1]
        refine .inr ⟨k + 1, by simp; omega, ?_, ?_⟩
        · rw [if_neg (by omega)]; omega
        · simpa using h2
set_option linter.unusedVariables false
end Go.Proofs.YtchjckdjkecjnaaGreatDoor.Ty
namespace Go.Proofs.YtchjckdjkecjnaaGreatDoor.Ty
open Go.RowKit
open Ex Lx
theorem named_idx : ∀ (l : List AttrP) (n : List UInt8), (fstIdx (fun x => x.name == n) l = -1 ∧ namedTy l n = (TT.zero, 20)) ∨ ∃ k, ∃ h : k < l.length, fstIdx (fun x => x.name == n) l = (k : Int) ∧ namedTy l n = (⟨l[k].kind, l[k].enum, []⟩, 0)
  | [], _ => .inl ⟨rfl, rfl⟩
  | e :: r, n => by
    have e1 : fstIdx (fun x : AttrP => x.name == n) (e :: r) = (if (e.name == n) = true then 0 else if fstIdx (fun x : AttrP => x.name == n) r < 0 then -1 else fstIdx (fun x : AttrP => x.name == n) r + 1) := rfl
    have e2 : namedTy (e :: r) n = if e.name = n then (⟨e.kind, e.enum, []⟩, 0) else namedTy r n := rfl
    rw [e1, e2]
    by_cases hn : e.name = n
    · rw [if_pos hn, if_pos (by simpa using hn)]
      exact .inr ⟨0, by simp, rfl, rfl⟩
    · rw [if_neg hn, if_neg (by simpa using hn)]
      rcases named_idx r n with ⟨h1, h2⟩ | ⟨k, hk, h1, h2⟩
      · rw [h1]; exact .inl ⟨rfl, h2⟩
      · rw [h1]
        refine .inr ⟨k + 1, by simp; omega, ?_, ?_⟩
        · rw [if_neg (by omega)]; omega
        · simpa using h2
section
variable {w w' : World} {H : Nat} {a b c : Value}
end
theorem set3_other (w : World) (H b j : Nat) (x y z : Value) (h : b ≠ H) : (((w.setCell ⟨H, 0, none⟩ x).setCell ⟨H, 1, none⟩ y).setCell ⟨H, 2, none⟩ z).cell? ⟨b, j, none⟩ = w.cell? ⟨b, j, none⟩ := by
  have o : ∀ (x : World) (i : Nat) (v : Value), (x.setCell ⟨H, i, none⟩ v).cell? ⟨b, j, none⟩ = x.cell? ⟨b, j, none⟩ := fun x i v =>
    World.cell?_setCell_other (w := x) (a := ⟨H, i, none⟩) (b := ⟨b, j, none⟩) (v := v) (h := by intro e; injection e with e2 _ _; exact h e2.symm)
  rw [o, o, o]
def retT (x : TT × Nat) : Ending := .returned (.tuple #[.agg #[.int .i64 x.1.kind, .string (S x.1.enum), .string (S x.1.lit)], .int .i64 (x.2 : Int)])
set_option linter.unusedVariables false
end Go.Proofs.YtchjckdjkecjnaaGreatDoor.Ty
namespace Go.Proofs.YtchjckdjkecjnaaGreatDoor.Ty
open Go.RowKit
open Ex Lx
theorem S_nil : S [] = ⟨#[]⟩ := rfl
theorem nil_list : (S []).toList = [] := by rw [ByteArray.toList_eq, S_toList]
theorem nil_empty : (S []).toList.isEmpty = true := by rw [nil_list]; rfl
theorem nonempty_a (c : UInt8) (r : List UInt8) : ((S (c :: r)).toList == (⟨#[]⟩ : ByteArray).toList) = false := by
  rw [← S_nil, S_beq]; rfl
theorem nonempty_b (c : UInt8) (r : List UInt8) : (S (c :: r)).toList.isEmpty = false := by rw [ByteArray.toList_eq, S_toList]; rfl
set_option linter.unusedVariables false
set_option linter.unusedSimpArgs false
end Go.Proofs.YtchjckdjkecjnaaGreatDoor.Ty
namespace Go.Proofs.YtchjckdjkecjnaaGreatDoor.Ty
open Go.RowKit
open Ex Lx
set_option linter.unusedVariables false
set_option linter.unusedSimpArgs false
end Go.Proofs.YtchjckdjkecjnaaGreatDoor.Ty
namespace Go.Proofs.YtchjckdjkecjnaaGreatDoor.Ty
open Go.RowKit
open Ex Lx
set_option linter.unusedVariables false
set_option linter.unusedSimpArgs false
end Go.Proofs.YtchjckdjkecjnaaGreatDoor.Ty
namespace Go.Proofs.YtchjckdjkecjnaaGreatDoor.Ty
open Go.RowKit
open Ex Lx
-- the mathematics of the walk
def joinT (l : List TT) (x : List TT × Nat) : List TT × Nat := if x.2 = 0 then (l ++ x.1, 0) else ([], x.2)
theorem tyF_err (s : Sc) : ∀ l : F, (tyF s l).2 ≠ 0 → (tyF s l).1 = []
  | .nil, h => absurd rfl h
  | .cons o n t a r, h => by
    rw [tyF_cons] at h ⊢
    by_cases h1 : (tyT s ⟨o, n, t, a⟩).2 = 0
    · rw [if_pos h1] at h ⊢
      by_cases h2 : (tyF s r).2 = 0
      · rw [if_pos h2] at h; exact absurd rfl h
      · rw [if_neg h2]
    · rw [if_neg h1]
theorem joinT_nil (s : Sc) (l : F) : tyF s l = joinT [] (tyF s l) := by
  unfold joinT
  by_cases h : (tyF s l).2 = 0
  · rw [if_pos h, List.nil_append]
    exact Prod.ext rfl h
  · rw [if_neg h]
    exact Prod.ext (tyF_err s l h) rfl
theorem joinT_ok (s : Sc) (d : List TT) (o n : Int) (t : List UInt8) (a r : F) (x : TT) (h : tyT s ⟨o, n, t, a⟩ = (x, 0)) : joinT d (tyF s (.cons o n t a r)) = joinT (d ++ [x]) (tyF s r) := by
  rw [tyF_cons, h]
  simp only [if_true]
  unfold joinT
  by_cases h2 : (tyF s r).2 = 0
  · rw [if_pos h2, if_pos h2]; simp
  · rw [if_neg h2, if_neg h2]; simp [h2]
theorem joinT_bad (s : Sc) (d : List TT) (o n : Int) (t : List UInt8) (a r : F) (x : TT) (e : Nat) (he : e ≠ 0) (h : tyT s ⟨o, n, t, a⟩ = (x, e)) : joinT d (tyF s (.cons o n t a r)) = ([], e) := by
  rw [tyF_cons, h]
  simp only [if_neg he]
  unfold joinT
  simp [he]
theorem joinT_end (s : Sc) (d : List TT) : joinT d (tyF s .nil) = (d, 0) := by
  unfold joinT
  simp [tyF]
end Go.Proofs.YtchjckdjkecjnaaGreatDoor.Ty
namespace Go.Proofs.YtchjckdjkecjnaaGreatDoor.Ty
open Go.RowKit
open Ex Lx
set_option linter.unusedVariables false
set_option linter.unusedSimpArgs false
end Go.Proofs.YtchjckdjkecjnaaGreatDoor.Ty
namespace Go.Proofs.YtchjckdjkecjnaaGreatDoor.Ty
open Go.RowKit
open Ex Lx
theorem cnt_len {o : Int} {k : Nat} (h : cntB o k = true) : k ≤ 16 ∧ (o = 25 ∨ o = 26 ∨ o = 30 ∨ o = 31 → k = 2) := by
  unfold cntB at h
  by_cases h5 : o = 5
  · rw [if_pos h5] at h
    exact ⟨by simpa using h, fun e => by omega⟩
  rw [if_neg h5] at h
  by_cases h7 : 1 ≤ o ∧ o ≤ 7
  · rw [if_pos h7] at h
    exact ⟨by simp at h; omega, fun e => by omega⟩
  rw [if_neg h7] at h
  by_cases h12 : 10 ≤ o ∧ o ≤ 12
  · rw [if_pos h12] at h
    exact ⟨by simp at h; omega, fun e => by omega⟩
  rw [if_neg h12] at h
  split at h
  · simp at h
    exact ⟨by omega, fun _ => h⟩
  · cases h
set_option linter.unusedVariables false
set_option linter.unusedSimpArgs false
end Go.Proofs.YtchjckdjkecjnaaGreatDoor.Ty
namespace Go.Proofs.YtchjckdjkecjnaaGreatDoor.Ty
open Go.RowKit
open Ex Lx
def smallS (s : Sc) : Bool := s.enums.all (fun e => decide (s.enums.length ≤ 50) && decide (e.syms.length ≤ 50)) && (decide (s.attrs.length ≤ 50) && decide (s.fields.length ≤ 50))
theorem small_enums {s : Sc} (h : smallS s = true) : s.enums.length ≤ 50 ∧ (∀ e ∈ s.enums, e.syms.length ≤ 50) ∧ s.attrs.length ≤ 50 ∧ s.fields.length ≤ 50 := by
  unfold smallS at h
  simp only [Bool.and_eq_true, List.all_eq_true, decide_eq_true_eq] at h
  obtain ⟨h1, h2, h3⟩ := h
  refine ⟨?_, fun e he => (h1 e he).2, h2, h3⟩
  cases he : s.enums with
  | nil => simp
  | cons e r =>
    have := (h1 e (by rw [he]; simp)).1
    rw [he] at this
    exact this
set_option linter.unusedVariables false
set_option linter.unusedSimpArgs false
set_option maxRecDepth 100000 in
set_option maxHeartbeats 4000000 in
theorem small_any (s : Sc) (pe pa pf : Option Addr) (ce ca cf : Nat) (w : World) (hs : EnumsAt w pe s.enums) (h1 : s.enums.length ≤ 281474976710656) (h2 : s.attrs.length ≤ 281474976710656) (h3 : s.fields.length ≤ 281474976710656) (h4 : ∀ e ∈ s.enums, e.syms.length ≤ 281474976710656) :
    Calls Tryz.prog 10 #[.agg #[.slice pe s.enums.length ce, .slice pa s.attrs.length ca, .slice pf s.fields.length cf]] w fun e w' => e = .returned (.bool (smallS s)) ∧ Below w.heap.size w w' := by
  have hb0 := (Below.refl w.heap.size w).alloc (Nat.le_refl _) (.cells #[.slice pe s.enums.length ce, .slice pa s.attrs.length ca, .slice pf s.fields.length cf] 25)
  have hbx : ∀ wr, Below (w.alloc (.cells #[.slice pe s.enums.length ce, .slice pa s.attrs.length ca, .slice pf s.fields.length cf] 25)).heap.size (w.alloc (.cells #[.slice pe s.enums.length ce, .slice pa s.attrs.length ca, .slice pf s.fields.length cf] 25)) wr → wr.cell? ⟨w.heap.size, 0, none⟩ = some (.slice pe s.enums.length ce) ∧ wr.cell? ⟨w.heap.size, 1, none⟩ = some (.slice pa s.attrs.length ca) ∧ wr.cell? ⟨w.heap.size, 2, none⟩ = some (.slice pf s.fields.length cf) := fun wr k => by
    have h := (k.block w.heap.size (by simp)).trans (heap_alloc_new w _)
    exact ⟨cell_of_row wr _ 0 _ _ (0, 0) h, cell_of_row wr _ 1 _ _ (0, 0) h, cell_of_row wr _ 2 _ _ (0, 0) h⟩
  have HS := Lib.hid hs
  have HB0 := Lib.hid hb0
  have HBX := Lib.hid hbx
  have i1 : (s.enums.length : Int) ≤ 281474976710656 := by omega
  have i2 : (s.attrs.length : Int) ≤ 281474976710656 := by omega
  have i3 : (s.fields.length : Int) ≤ 281474976710656 := by omega
  have H4 := Lib.hid h4
  clear hs hb0 hbx h4
  go_enter Tryz.func10, Tryz.ntmps10
  go_wp2_with fail
  go_loopw [8] (fun iv wr => ∃ k : Nat, k ≤ s.enums.length ∧ iv = .int .i64 k ∧ (∀ j, (h : j < s.enums.length) → j < k → s.enums.length ≤ 50 ∧ s.enums[j].syms.length ≤ 50) ∧ Below (w.alloc (.cells #[.slice pe s.enums.length ce, .slice pa s.attrs.length ca, .slice pf s.fields.length cf] 25)).heap.size (w.alloc (.cells #[.slice pe s.enums.length ce, .slice pa s.attrs.length ca, .slice pf s.fields.length cf] 25)) wr) (fun iv _ => s.enums.length - (intOf iv).toNat)
  case atStart => exact ⟨0, Nat.zero_le _, rfl, fun j _ h => absurd h (Nat.not_lt_zero _), Below.refl _ _⟩
  case round =>
    obtain ⟨k, hk, rfl, hA, hb⟩ := hrel
    have A := Lib.hid hA
    obtain ⟨q0, q1, q2⟩ := HBX.out wr hb
    have hsz : w.heap.size < wr.heap.size := by have := hb.size; simp at this; omega
    have BW := Lib.hid hb
    have BW0 := Lib.hid (HB0.out.trans (hb.mono HB0.out.size))
    clear hA hb
    by_cases hlt : k < s.enums.length
    · have hlti : (k : Int) < (s.enums.length : Int) := by omega
      obtain ⟨b, o, q, cc, rfl, hbl, f0, f1, _⟩ := (HS.out.later BW0.out) k hlt
      have h4 := H4.out s.enums[k] (List.getElem_mem hlt)
      obtain ⟨y, hy⟩ : ∃ y, y = s.enums[k] := ⟨_, rfl⟩
      rw [← hy] at f0 f1 h4
      have HY := Lib.hid hy
      clear hy
      have i4 : (y.syms.length : Int) ≤ 281474976710656 := by omega
      have zb : ∀ o j, (wr.alloc o).cell? ⟨w.heap.size, j, none⟩ = wr.cell? ⟨w.heap.size, j, none⟩ := fun o j => Kept.cell (Kept.alloc (ok := fun _ => True) wr o) trivial hsz
      have HBA := Lib.hid ((Below.refl wr.heap.size wr).alloc (Nat.le_refl _) (.cells #[.string (S y.name), .slice q y.syms.length cc] 73))
      by_cases hgood : s.enums.length ≤ 50 ∧ y.syms.length ≤ 50
      · have g1 : ¬ (50 : Int) < (s.enums.length : Int) := by omega
        have g2 : ¬ (50 : Int) < (y.syms.length : Int) := by omega
        go_wp2_with fail
        go_roundw
        case rel => exact ⟨k + 1, by omega, by go_num, fun j hj hjk => by
          by_cases e : j = k
          · subst e; rw [← HY.out]; exact hgood
          · exact A.out j hj (by omega), BW.out.trans (HBA.out.mono BW.out.size)⟩
        case measure => simp [intOf]; omega
      · have hr : smallS s = false := by
          cases hs : smallS s with
          | false => rfl
          | true =>
            obtain ⟨s1, s2, _⟩ := small_enums hs
            exact absurd ⟨s1, by rw [HY.out]; exact s2 _ (List.getElem_mem hlt)⟩ hgood
        have HR := Lib.hid hr
        clear hr
        by_cases g1 : (50 : Int) < (s.enums.length : Int)
        · go_wp2_with fail
          try simp only [Exit.inBlock, Exit.then]
          go_ret
          rw [HR.out]
          exact ⟨rfl, BW0.out.trans (HBA.out.mono BW0.out.size)⟩
        · have g2 : (50 : Int) < (y.syms.length : Int) := by omega
          go_wp2_with fail
          try simp only [Exit.inBlock, Exit.then]
          go_ret
          rw [HR.out]
          exact ⟨rfl, BW0.out.trans (HBA.out.mono BW0.out.size)⟩
    · have hlti : ¬ (k : Int) < (s.enums.length : Int) := by omega
      have hall : s.enums.all (fun e => decide (s.enums.length ≤ 50) && decide (e.syms.length ≤ 50)) = true := by
        rw [List.all_eq_true]
        intro e he
        obtain ⟨j, hj, rfl⟩ := List.mem_iff_getElem.1 he
        have := A.out j hj (by omega)
        simp [this.1, this.2]
      have HR := Lib.hid (show smallS s = (decide (s.attrs.length ≤ 50) && decide (s.fields.length ≤ 50)) by unfold smallS; rw [hall, Bool.true_and])
      clear hall
      by_cases g1 : (s.attrs.length : Int) ≤ 50
      · by_cases g2 : (s.fields.length : Int) ≤ 50
        · have g3 : smallS s = true := by rw [HR.out, decide_eq_true (by omega), decide_eq_true (by omega)]; rfl
          have G := Lib.hid g3
          clear g3
          go_wp2_with fail
          go_ret
          rw [G.out]
          exact ⟨rfl, BW0.out⟩
        · have g3 : smallS s = false := by rw [HR.out, decide_eq_true (by omega), decide_eq_false (by omega)]; rfl
          have G := Lib.hid g3
          clear g3
          go_wp2_with fail
          go_ret
          rw [G.out]
          exact ⟨rfl, BW0.out⟩
      · have g3 : smallS s = false := by rw [HR.out, decide_eq_false (by omega)]; rfl
        have G := Lib.hid g3
        clear g3
        go_wp2_with fail
        go_ret
        rw [G.out]
        exact ⟨rfl, BW0.out⟩
end Go.Proofs.YtchjckdjkecjnaaGreatDoor.Ty
