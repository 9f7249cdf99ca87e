/-
  TyNode, ExBld, VaRef, VaRight, VaOrder, VaOrd, VaDec.
-/
import Derived.Test.YtlmmfhbdebfgkaaGreatDoorWTyNamQ
import Derived.Test.YtlmmfhbdebfgkaaGreatDoorWExResQ
import Derived.Test.YtlmmfhbdebfgkaaGreatDoorWVaPureQ
import Derived.Lib.Builder
import Derived.Lib.FrozenHead
import Derived.Lib.AppendStr
import Derived.OwnWalk
import Derived.Deep.RegionHeld3
import Derived.WalkLawsBesides
set_option linter.unusedVariables false
set_option linter.unusedSimpArgs false
set_option maxRecDepth 100000
set_option maxHeartbeats 4000000
namespace Go.Proofs.YtlmmfhbdebfgkaaGreatDoor.Ty
open Go.RowKit
open Ex Lx
theorem node_a (s : Sc) (pe pa pf : Option Addr) (ce ca cf : Nat) (op num : Int) (t : List UInt8) (p : Option Addr) (k c : Nat) (l : List TT) (q : Option Addr) (cl : Nat) (w : World) (hs : ScAt w pe pa pf s) (hf : ScFit s) (hl : TTsAt w q l) (hlen : l.length ≤ 281474976710656) (ht : t.length ≤ 281474976710656) (h2 : op = 25 ∨ op = 26 ∨ op = 30 ∨ op = 31 → l.length = 2) (hop : op = 4) :
    Calls Tryz.prog 51 #[.agg #[.slice pe s.enums.length ce, .slice pa s.attrs.length ca, .slice pf s.fields.length cf], .agg #[.int .i64 op, .int .i64 num, .string (S t), .slice p k c], .slice q l.length cl] w fun e w' => e = retT (oneTy s op t l) ∧ Below w.heap.size w w' := by
  have hba := (((Below.refl w.heap.size w).alloc (Nat.le_refl _) (.cells #[.slice pe s.enums.length ce, .slice pa s.attrs.length ca, .slice pf s.fields.length cf] 85)).alloc (by simp) (.cells #[.int .i64 op, .int .i64 num, .string (S t), .slice p k c] 24)).alloc (by simp; omega) (.cells #[.int .i64 0, .string ⟨#[]⟩, .string ⟨#[]⟩] 44)
  have HBA := Lib.hid hba
  subst hop
  have hr : oneTy s 4 t l = (⟨4, [], t⟩, 0) := rfl
  rw [hr]
  have HC := Lib.hid (fun wr => clone_any (S t) (by rw [S_size]; exact ht) wr)
  clear hl hs hba hr
  go_enter Tryz.func51, Tryz.ntmps51
  go_wp2_with fail
  refine (HC.out _).mono ?_
  rintro e w1 ⟨rfl, b1⟩
  have hnb := (TB.new ((w.alloc (.cells #[.slice pe s.enums.length ce, .slice pa s.attrs.length ca, .slice pf s.fields.length cf] 85)).alloc (.cells #[.int .i64 4, .int .i64 num, .string (S t), .slice p k c] 24)) (.int .i64 0) (.string ⟨#[]⟩) (.string ⟨#[]⟩) (w.heap.size + 1 + 1) (by simp)).later b1
  have fz := hnb.fz
  have k0 := hnb.c0
  have k1 := hnb.c1
  have k2 := hnb.c2
  have HP := Lib.hid (hnb.put (.int .i64 4) (.string ⟨#[]⟩) (.string (S t)))
  have HB1 := Lib.hid (HBA.out.trans (b1.mono HBA.out.size))
  clear b1 hnb
  go_wp2_with fail
  have d0 := HP.out.c0
  have d1 := HP.out.c1
  have d2 := HP.out.c2
  exact bodyPost_ret (v := .tuple #[.agg #[.int .i64 4, .string ⟨#[]⟩, .string (S t)], .int .i64 0]) (by simp [results, d0, d1, d2, Tryz.results51, go_sem]) rfl ⟨rfl, ((HB1.out.setCell (p := ⟨w.heap.size + 1 + 1, 0, none⟩) (by simp; omega) _).setCell (p := ⟨w.heap.size + 1 + 1, 1, none⟩) (by simp; omega) _).setCell (p := ⟨w.heap.size + 1 + 1, 2, none⟩) (by simp; omega) _⟩
theorem node_b (s : Sc) (pe pa pf : Option Addr) (ce ca cf : Nat) (op num : Int) (t : List UInt8) (p : Option Addr) (k c : Nat) (l : List TT) (q : Option Addr) (cl : Nat) (w : World) (hs : ScAt w pe pa pf s) (hf : ScFit s) (hl : TTsAt w q l) (hlen : l.length ≤ 281474976710656) (ht : t.length ≤ 281474976710656) (h2 : op = 25 ∨ op = 26 ∨ op = 30 ∨ op = 31 → l.length = 2) (hop : op = 6) :
    Calls Tryz.prog 51 #[.agg #[.slice pe s.enums.length ce, .slice pa s.attrs.length ca, .slice pf s.fields.length cf], .agg #[.int .i64 op, .int .i64 num, .string (S t), .slice p k c], .slice q l.length cl] w fun e w' => e = retT (oneTy s op t l) ∧ Below w.heap.size w w' := by
  have hba := (((Below.refl w.heap.size w).alloc (Nat.le_refl _) (.cells #[.slice pe s.enums.length ce, .slice pa s.attrs.length ca, .slice pf s.fields.length cf] 85)).alloc (by simp) (.cells #[.int .i64 op, .int .i64 num, .string (S t), .slice p k c] 24)).alloc (by simp; omega) (.cells #[.int .i64 0, .string ⟨#[]⟩, .string ⟨#[]⟩] 44)
  have HBA := Lib.hid hba
  subst hop
  have hr : oneTy s 6 t l = namedTy s.attrs t := rfl
  rw [hr]
  have HC := Lib.hid (named_any s.attrs t pa ca _ (hs.attrs.later hba) hf.attrs hf.ae)
  generalize namedTy s.attrs t = r at *
  obtain ⟨⟨rk, re, rl⟩, rb⟩ := r
  unfold retT at HC ⊢
  simp only at HC ⊢
  clear hl hs hba hr
  go_enter Tryz.func51, Tryz.ntmps51
  go_wp2_with fail
  refine HC.out.mono ?_
  rintro e w1 ⟨rfl, b1⟩
  have hnb := (TB.new ((w.alloc (.cells #[.slice pe s.enums.length ce, .slice pa s.attrs.length ca, .slice pf s.fields.length cf] 85)).alloc (.cells #[.int .i64 6, .int .i64 num, .string (S t), .slice p k c] 24)) (.int .i64 0) (.string ⟨#[]⟩) (.string ⟨#[]⟩) (w.heap.size + 1 + 1) (by simp)).later b1
  have fz := hnb.fz
  have k0 := hnb.c0
  have k1 := hnb.c1
  have k2 := hnb.c2
  have HP := Lib.hid (hnb.put (.int .i64 rk) (.string (S re)) (.string (S rl)))
  have HB1 := Lib.hid (HBA.out.trans (b1.mono HBA.out.size))
  clear b1 hnb
  go_wp2_with fail
  have d0 := HP.out.c0
  have d1 := HP.out.c1
  have d2 := HP.out.c2
  exact bodyPost_ret (v := .tuple #[.agg #[.int .i64 rk, .string (S re), .string (S rl)], .int .i64 rb]) (by simp [results, d0, d1, d2, Tryz.results51, go_sem]) rfl ⟨rfl, ((HB1.out.setCell (p := ⟨w.heap.size + 1 + 1, 0, none⟩) (by simp; omega) _).setCell (p := ⟨w.heap.size + 1 + 1, 1, none⟩) (by simp; omega) _).setCell (p := ⟨w.heap.size + 1 + 1, 2, none⟩) (by simp; omega) _⟩
theorem node_c (s : Sc) (pe pa pf : Option Addr) (ce ca cf : Nat) (op num : Int) (t : List UInt8) (p : Option Addr) (k c : Nat) (l : List TT) (q : Option Addr) (cl : Nat) (w : World) (hs : ScAt w pe pa pf s) (hf : ScFit s) (hl : TTsAt w q l) (hlen : l.length ≤ 281474976710656) (ht : t.length ≤ 281474976710656) (h2 : op = 25 ∨ op = 26 ∨ op = 30 ∨ op = 31 → l.length = 2) (hop : op = 7) :
    Calls Tryz.prog 51 #[.agg #[.slice pe s.enums.length ce, .slice pa s.attrs.length ca, .slice pf s.fields.length cf], .agg #[.int .i64 op, .int .i64 num, .string (S t), .slice p k c], .slice q l.length cl] w fun e w' => e = retT (oneTy s op t l) ∧ Below w.heap.size w w' := by
  have hba := (((Below.refl w.heap.size w).alloc (Nat.le_refl _) (.cells #[.slice pe s.enums.length ce, .slice pa s.attrs.length ca, .slice pf s.fields.length cf] 85)).alloc (by simp) (.cells #[.int .i64 op, .int .i64 num, .string (S t), .slice p k c] 24)).alloc (by simp; omega) (.cells #[.int .i64 0, .string ⟨#[]⟩, .string ⟨#[]⟩] 44)
  have HBA := Lib.hid hba
  subst hop
  have hr : oneTy s 7 t l = namedTy s.fields t := rfl
  rw [hr]
  have HC := Lib.hid (named_any s.fields t pf cf _ (hs.fields.later hba) hf.fields hf.fe)
  generalize namedTy s.fields t = r at *
  obtain ⟨⟨rk, re, rl⟩, rb⟩ := r
  unfold retT at HC ⊢
  simp only at HC ⊢
  clear hl hs hba hr
  go_enter Tryz.func51, Tryz.ntmps51
  go_wp2_with fail
  refine HC.out.mono ?_
  rintro e w1 ⟨rfl, b1⟩
  have hnb := (TB.new ((w.alloc (.cells #[.slice pe s.enums.length ce, .slice pa s.attrs.length ca, .slice pf s.fields.length cf] 85)).alloc (.cells #[.int .i64 7, .int .i64 num, .string (S t), .slice p k c] 24)) (.int .i64 0) (.string ⟨#[]⟩) (.string ⟨#[]⟩) (w.heap.size + 1 + 1) (by simp)).later b1
  have fz := hnb.fz
  have k0 := hnb.c0
  have k1 := hnb.c1
  have k2 := hnb.c2
  have HP := Lib.hid (hnb.put (.int .i64 rk) (.string (S re)) (.string (S rl)))
  have HB1 := Lib.hid (HBA.out.trans (b1.mono HBA.out.size))
  clear b1 hnb
  go_wp2_with fail
  have d0 := HP.out.c0
  have d1 := HP.out.c1
  have d2 := HP.out.c2
  exact bodyPost_ret (v := .tuple #[.agg #[.int .i64 rk, .string (S re), .string (S rl)], .int .i64 rb]) (by simp [results, d0, d1, d2, Tryz.results51, go_sem]) rfl ⟨rfl, ((HB1.out.setCell (p := ⟨w.heap.size + 1 + 1, 0, none⟩) (by simp; omega) _).setCell (p := ⟨w.heap.size + 1 + 1, 1, none⟩) (by simp; omega) _).setCell (p := ⟨w.heap.size + 1 + 1, 2, none⟩) (by simp; omega) _⟩
theorem node_d (s : Sc) (pe pa pf : Option Addr) (ce ca cf : Nat) (op num : Int) (t : List UInt8) (p : Option Addr) (k c : Nat) (l : List TT) (q : Option Addr) (cl : Nat) (w : World) (hs : ScAt w pe pa pf s) (hf : ScFit s) (hl : TTsAt w q l) (hlen : l.length ≤ 281474976710656) (ht : t.length ≤ 281474976710656) (h2 : op = 25 ∨ op = 26 ∨ op = 30 ∨ op = 31 → l.length = 2) (hop : op ≠ 4 ∧ op ≠ 6 ∧ op ≠ 7) :
    Calls Tryz.prog 51 #[.agg #[.slice pe s.enums.length ce, .slice pa s.attrs.length ca, .slice pf s.fields.length cf], .agg #[.int .i64 op, .int .i64 num, .string (S t), .slice p k c], .slice q l.length cl] w fun e w' => e = retT (oneTy s op t l) ∧ Below w.heap.size w w' := by
  have hba := (((Below.refl w.heap.size w).alloc (Nat.le_refl _) (.cells #[.slice pe s.enums.length ce, .slice pa s.attrs.length ca, .slice pf s.fields.length cf] 85)).alloc (by simp) (.cells #[.int .i64 op, .int .i64 num, .string (S t), .slice p k c] 24)).alloc (by simp; omega) (.cells #[.int .i64 0, .string ⟨#[]⟩, .string ⟨#[]⟩] 44)
  have HBA := Lib.hid hba
  obtain ⟨h4, h6, h7⟩ := hop
  have hr : oneTy s op t l = if fitB s.enums op l = true then (⟨kindOf op, [], []⟩, 0) else (TT.zero, 23) := by unfold oneTy; rw [if_neg h4, if_neg h6, if_neg h7]
  rw [hr]
  have HC := Lib.hid (fit_any s pe pa pf ce ca cf op l q cl _ (hs.later hba) hf (hl.later hba) hlen h2)
  have HK := Lib.hid (fun wr => kindOf_any op wr)
  have n4 : (op == 4) = false := by simpa using h4
  have n6 : (op == 6) = false := by simpa using h6
  have n7 : (op == 7) = false := by simpa using h7
  clear hl hs hba hr
  cases hfb : fitB s.enums op l with
  | false =>
    rw [hfb] at HC
    rw [if_neg (by decide)]
    clear hfb
    go_enter Tryz.func51, Tryz.ntmps51
    go_wp2_with fail
    refine HC.out.mono ?_
    rintro e w1 ⟨rfl, b1⟩
    have hnb := (TB.new ((w.alloc (.cells #[.slice pe s.enums.length ce, .slice pa s.attrs.length ca, .slice pf s.fields.length cf] 85)).alloc (.cells #[.int .i64 op, .int .i64 num, .string (S t), .slice p k c] 24)) (.int .i64 0) (.string ⟨#[]⟩) (.string ⟨#[]⟩) (w.heap.size + 1 + 1) (by simp)).later b1
    have fz := hnb.fz
    have k0 := hnb.c0
    have k1 := hnb.c1
    have k2 := hnb.c2
    have HP := Lib.hid (hnb.put (.int .i64 0) (.string ⟨#[]⟩) (.string ⟨#[]⟩))
    have HB1 := Lib.hid (HBA.out.trans (b1.mono HBA.out.size))
    clear b1 hnb
    go_wp2_with fail
    have d0 := HP.out.c0
    have d1 := HP.out.c1
    have d2 := HP.out.c2
    exact bodyPost_ret (v := .tuple #[.agg #[.int .i64 0, .string ⟨#[]⟩, .string ⟨#[]⟩], .int .i64 23]) (by simp [results, d0, d1, d2, Tryz.results51, go_sem]) rfl ⟨rfl, ((HB1.out.setCell (p := ⟨w.heap.size + 1 + 1, 0, none⟩) (by simp; omega) _).setCell (p := ⟨w.heap.size + 1 + 1, 1, none⟩) (by simp; omega) _).setCell (p := ⟨w.heap.size + 1 + 1, 2, none⟩) (by simp; omega) _⟩
  | true =>
    rw [hfb] at HC
    rw [if_pos rfl]
    clear hfb
    generalize kindOf op = ko at *
    go_enter Tryz.func51, Tryz.ntmps51
    go_wp2_with fail
    refine HC.out.mono ?_
    rintro e w1 ⟨rfl, b1⟩
    have hx0 : (((w.alloc (.cells #[.slice pe s.enums.length ce, .slice pa s.attrs.length ca, .slice pf s.fields.length cf] 85)).alloc (.cells #[.int .i64 op, .int .i64 num, .string (S t), .slice p k c] 24)).alloc (.cells #[.int .i64 0, .string ⟨#[]⟩, .string ⟨#[]⟩] 44)).cell? ⟨w.heap.size + 1, 0, none⟩ = some (.int .i64 op) := by
      rw [zcell _ _ _ _ (by simp)]
      exact cell_of_row _ (w.heap.size + 1) 0 _ _ (0, 0) (new_box _ _ _ _ (by simp))
    have hx : w1.cell? ⟨w.heap.size + 1, 0, none⟩ = some (.int .i64 op) := (b1.cell (p := ⟨w.heap.size + 1, 0, none⟩) (by simp)).trans hx0
    clear hx0
    have hnb := (TB.new ((w.alloc (.cells #[.slice pe s.enums.length ce, .slice pa s.attrs.length ca, .slice pf s.fields.length cf] 85)).alloc (.cells #[.int .i64 op, .int .i64 num, .string (S t), .slice p k c] 24)) (.int .i64 0) (.string ⟨#[]⟩) (.string ⟨#[]⟩) (w.heap.size + 1 + 1) (by simp)).later b1
    have fz := hnb.fz
    have k0 := hnb.c0
    have k1 := hnb.c1
    have k2 := hnb.c2
    have HP := Lib.hid (hnb.put (.int .i64 ko) (.string ⟨#[]⟩) (.string ⟨#[]⟩))
    have HB1 := Lib.hid (HBA.out.trans (b1.mono HBA.out.size))
    clear b1 hnb
    go_wp2_with fail
    refine (HK.out _).mono ?_
    rintro e w2 ⟨rfl, rfl⟩
    go_wp2_with fail
    have d0 := HP.out.c0
    have d1 := HP.out.c1
    have d2 := HP.out.c2
    exact bodyPost_ret (v := .tuple #[.agg #[.int .i64 ko, .string ⟨#[]⟩, .string ⟨#[]⟩], .int .i64 0]) (by simp [results, d0, d1, d2, Tryz.results51, go_sem]) rfl ⟨rfl, ((HB1.out.setCell (p := ⟨w.heap.size + 1 + 1, 0, none⟩) (by simp; omega) _).setCell (p := ⟨w.heap.size + 1 + 1, 1, none⟩) (by simp; omega) _).setCell (p := ⟨w.heap.size + 1 + 1, 2, none⟩) (by simp; omega) _⟩
theorem node_any (s : Sc) (pe pa pf : Option Addr) (ce ca cf : Nat) (op num : Int) (t : List UInt8) (p : Option Addr) (k c : Nat) (l : List TT) (q : Option Addr) (cl : Nat) (w : World) (hs : ScAt w pe pa pf s) (hf : ScFit s) (hl : TTsAt w q l) (hlen : l.length ≤ 281474976710656) (ht : t.length ≤ 281474976710656) (h2 : op = 25 ∨ op = 26 ∨ op = 30 ∨ op = 31 → l.length = 2) :
    Calls Tryz.prog 51 #[.agg #[.slice pe s.enums.length ce, .slice pa s.attrs.length ca, .slice pf s.fields.length cf], .agg #[.int .i64 op, .int .i64 num, .string (S t), .slice p k c], .slice q l.length cl] w fun e w' => e = retT (oneTy s op t l) ∧ Below w.heap.size w w' := by
  by_cases h4 : op = 4
  · exact node_a s pe pa pf ce ca cf op num t p k c l q cl w hs hf hl hlen ht h2 h4
  by_cases h6 : op = 6
  · exact node_b s pe pa pf ce ca cf op num t p k c l q cl w hs hf hl hlen ht h2 h6
  by_cases h7 : op = 7
  · exact node_c s pe pa pf ce ca cf op num t p k c l q cl w hs hf hl hlen ht h2 h7
  exact node_d s pe pa pf ce ca cf op num t p k c l q cl w hs hf hl hlen ht h2 ⟨h4, h6, h7⟩
end Go.Proofs.YtlmmfhbdebfgkaaGreatDoor.Ty
namespace Go.Proofs.YtlmmfhbdebfgkaaGreatDoor.Ex
open Go.RowKit
open Lx
def WrB (w : World) (b : Nat) (p v : Value) (o d : Int) : Prop := w.heap[b]? = some (.cells #[p, v, .int .i64 o, .int .i64 d] 71 (0, 0))
section
variable {w w' : World} {b : Nat} {p v : Value} {o d : Int}
theorem WrB.c0 (h : WrB w b p v o d) : w.cell? ⟨b, 0, none⟩ = some p := cell_of_row w b 0 _ _ (0, 0) h
theorem WrB.c1 (h : WrB w b p v o d) : w.cell? ⟨b, 1, none⟩ = some v := cell_of_row w b 1 _ _ (0, 0) h
theorem WrB.c2 (h : WrB w b p v o d) : w.cell? ⟨b, 2, none⟩ = some (.int .i64 o) := cell_of_row w b 2 _ _ (0, 0) h
theorem WrB.c3 (h : WrB w b p v o d) : w.cell? ⟨b, 3, none⟩ = some (.int .i64 d) := cell_of_row w b 3 _ _ (0, 0) h
theorem WrB.fz (h : WrB w b p v o d) (j : Nat) : w.frozen? ⟨b, j, none⟩ = false := frozen_of_row w b j _ _ h
theorem WrB.lt (h : WrB w b p v o d) : b < w.heap.size := World.block_lt_of_cell? w _ h.c0
theorem WrB.shape (h : WrB w b p v o d) : w.shape? b = some (71, 4) := by simp [World.shape?, show w.heap[b]? = _ from h]
theorem WrB.set0 (h : WrB w b p v o d) (x : Value) : WrB (w.setCell ⟨b, 0, none⟩ x) b x v o d := heap_setCell_same w b 0 _ _ _ h
theorem WrB.set1 (h : WrB w b p v o d) (x : Value) : WrB (w.setCell ⟨b, 1, none⟩ x) b p x o d := heap_setCell_same w b 1 _ _ _ h
theorem WrB.keep {ok : Nat → Prop} (h : WrB w b p v o d) (k : Kept ok w w') (hb : ok b) : WrB w' b p v o d := (k.block b hb h.lt).trans h
end
theorem wr_info : (Tryz.prog.info? 69).map (·.size) = some 2 := by kernel_rfl
theorem wr_lies : liesAt Tryz.prog Tryz.prog.depth 71 (4 / Tryz.prog.cellsOf 71) 0 69 1 = true := by kernel_rfl
theorem wcheck_fresh (b : Nat) (w : World) (v : Value) (o d : Int) (h : WrB w b (.pointer none) v o d) :
    Calls Tryz.prog 65 #[.pointer (some ⟨b, 0, none⟩)] w fun e w' => e = .returned (.tuple #[]) ∧ w' = w.setCell ⟨b, 0, none⟩ (.pointer (some ⟨b, 0, none⟩)) := by
  obtain ⟨j, hj, hjs⟩ := Option.map_eq_some_iff.1 wr_info
  have h0 := h.c0
  have hsh := h.shape
  have hfz := h.fz 0
  go_enter Tryz.func65, Tryz.ntmps65
  go_wp2
  rw [Lib.run_to_unsafe w ⟨b, 0, none⟩ Tryz.underlying66 Tryz.underlying170 hj (by rw [hjs]; decide) hsh (show 0 < 4 by decide)]
  simp only [Result.andThen]
  rw [Oper.upon_value]
  go_wp2
  rw [run_callFunc_extern Tryz.func112 (by kernel_rfl) (by kernel_rfl) (by kernel_rfl) (e := Extern.AbiNoEscape.same) (by kernel_rfl)]
  rw [Lib.run_noEscape]
  simp only [Result.andThen]
  rw [Oper.upon_value]
  go_wp2
  rw [Lib.run_from_unsafe w ⟨b, 0, none⟩ Tryz.underlying170 Tryz.underlying66 hj hsh wr_lies]
  simp only [Result.andThen]
  rw [Oper.upon_value]
  go_wp2
  go_end0
  exact ⟨rfl, rfl⟩
theorem wcheck_used (b : Nat) (w : World) (v : Value) (o d : Int) (h : WrB w b (.pointer (some ⟨b, 0, none⟩)) v o d) :
    Calls Tryz.prog 65 #[.pointer (some ⟨b, 0, none⟩)] w fun e w' => e = .returned (.tuple #[]) ∧ w = w' := by
  obtain ⟨j, hj, hjs⟩ := Option.map_eq_some_iff.1 wr_info
  have h0 := h.c0
  have hne := fun w1 => Lib.run_neq_ptr_same (P := Tryz.prog) (tp := 66) (te := 69) (w := w1) ⟨b, 0, none⟩ Tryz.underlying66 hj
  clear h
  go_enter Tryz.func65, Tryz.ntmps65
  go_wp2
  go_end0
  exact ⟨rfl, rfl⟩
theorem wpList_apx {P : Program} {ops : Array Oper} {rest : List Oper} {o : Oper} {a : Act} {w : World} {Q : Exit → Act → World → Prop} (hgd : o.guard = none) (s x : Operand) (t u : TypeId)
    (ho : o.op = .call { callee := .builtin .append, args := #[s, x], argTypes := #[t, u] }) {v vx : Value} (hs : a.eval s = v) (hx : a.eval x = vx) (v' : Value) (w' : World)
    (hr : (Builtin.append_ #[t, u] o.type #[v, vx]).run P w = .ok v' w') (h : wpList P ops Q rest (a.put o.dst v') w') : wpList P ops Q (o :: rest) a w := by
  refine wpList_plain hgd fun K hK => ?_
  unfold Oper.wp execOp
  simp only [ho, resolve, invoke, builtin, Sem.run_bind, Sem.run_pure, Result.andThen_ok, List.map_toArray, List.map_cons, List.map_nil, hs, hx, hr]
  exact hK _ _ h
structure Wr (w : World) (b : Nat) (l : List UInt8) (o d : Int) : Prop where
  has : ∃ p v, WrB w b p v o d ∧ (p = .pointer none ∨ p = .pointer (some ⟨b, 0, none⟩)) ∧ w.ownsRow (b + 1) 5 1 v l.length (Lib.byteCells l)
theorem info_u8 : (Tryz.prog.info? 5).map (fun i => (i.zero, i.size, i.bytes)) = some (some (.int .u8 0), 1, 1) := by kernel_rfl
theorem wcheck_any (b : Nat) (w : World) (p v : Value) (o d : Int) (h : WrB w b p v o d) (hp : p = .pointer none ∨ p = .pointer (some ⟨b, 0, none⟩)) :
    Calls Tryz.prog 65 #[.pointer (some ⟨b, 0, none⟩)] w fun e w' => e = .returned (.tuple #[]) ∧ WrB w' b (.pointer (some ⟨b, 0, none⟩)) v o d ∧ Only b w w' ∧ w'.heap.size = w.heap.size := by
  rcases hp with rfl | rfl
  · refine (wcheck_fresh b w v o d h).mono ?_
    rintro e w' ⟨rfl, rfl⟩
    exact ⟨rfl, h.set0 _, Only.set b w 0 _, by simp⟩
  · refine (wcheck_used b w v o d h).mono ?_
    rintro e w' ⟨rfl, rfl⟩
    exact ⟨rfl, h, Only.refl _ _, rfl⟩
end Go.Proofs.YtlmmfhbdebfgkaaGreatDoor.Ex
namespace Go.Proofs.YtlmmfhbdebfgkaaGreatDoor.Va
open Go.RowKit
def anyB (l : List UInt8) (c : UInt8) : Bool := l.any (· == c)
theorem in_any (c : UInt8) (v : Int) (hv : v = (c.toNat : Int)) (s : ByteArray) (hs : s.size ≤ 9223372036854775807) (w : World) :
    Calls Tryz.prog 150 #[.int .u8 v, .string s] w fun e w' => e = .returned (.bool (anyB s.data.toList c)) ∧ w = w' := by
  have hl := list_size s
  have HV := Lib.hid hv
  clear hv
  go_enter Tryz.func150, Tryz.ntmps150
  go_wp2_with fail
  go_loop [5] (fun i => ∃ k : Nat, k ≤ s.size ∧ i = .int .i64 k ∧ anyB (s.data.toList.take k) c = false) (fun i => s.size - (intOf i).toNat)
  case atStart => exact ⟨0, by omega, rfl, by simp [anyB]⟩
  case round =>
    obtain ⟨k, hk, rfl, hno⟩ := hrel
    have HNO := Lib.hid hno
    clear hno
    by_cases hlt : k < s.size
    · have hg := getElem_list s k hlt
      have hts : s.data.toList.take (k + 1) = s.data.toList.take k ++ [s[k]] := by
        rw [List.take_succ_eq_append_getElem (by simpa using hlt)]; rfl
      have HTS := Lib.hid hts
      have hb := byte_lt s[k]
      clear hts hg
      by_cases he : s[k] = c
      · have e1 : (((s[k]).toNat : Int) == v) = true := by rw [HV.out, he]; simp
        have hres : anyB s.data.toList c = true := by
          unfold anyB
          rw [List.any_eq_true]
          exact ⟨s[k], by rw [show s[k] = s.data.toList[k]'(by omega) from rfl]; exact List.getElem_mem _, by simp [he]⟩
        have HRES := Lib.hid hres
        clear he hres
        go_wp2_with fail
        go_ret
        exact ⟨by rw [HRES.out]; rfl, rfl⟩
      · have e1 : (((s[k]).toNat : Int) == v) = false := by
          rw [HV.out]; simp
          intro h
          exact he (UInt8.toNat_inj.1 (by omega))
        have HE := Lib.hid he
        clear he
        go_wp2_with fail
        go_round
        case rel => exact ⟨k + 1, by omega, by go_num, by have := HNO.out; unfold anyB at this ⊢; rw [HTS.out, List.any_append, this]; simp [HE.out]⟩
        case measure => simp [intOf]; omega
    · obtain rfl : k = s.size := by omega
      go_wp2_with fail
      go_ret
      have := HNO.out
      rw [List.take_of_length_le (by omega)] at this
      exact ⟨by rw [this]; rfl, rfl⟩
def LET : ByteArray := ⟨#[97, 98, 99, 100, 101, 102, 103, 104, 105, 106, 107, 108, 109, 110, 111, 112, 113, 114, 115, 116, 117, 118, 119, 120, 121, 122, 65, 66, 67, 68, 69, 70, 71, 72, 73, 74, 75, 76, 77, 78, 79, 80, 81, 82, 83, 84, 85, 86, 87, 88, 89, 90]⟩
def DIG : ByteArray := ⟨#[48, 49, 50, 51, 52, 53, 54, 55, 56, 57, 95]⟩
theorem let_any (c : UInt8) : anyB LET.data.toList c = letB c := by
  have : ∀ i : Fin 256, anyB LET.data.toList (UInt8.ofNat i.val) = letB (UInt8.ofNat i.val) := by decide +kernel
  have h := this ⟨c.toNat, c.toNat_lt⟩
  simpa using h
theorem dig_any (c : UInt8) : anyB DIG.data.toList c = (digB c || c == 95) := by
  have : ∀ i : Fin 256, anyB DIG.data.toList (UInt8.ofNat i.val) = (digB (UInt8.ofNat i.val) || UInt8.ofNat i.val == 95) := by decide +kernel
  have h := this ⟨c.toNat, c.toNat_lt⟩
  simpa using h
theorem in_let (c : UInt8) (w : World) : Calls Tryz.prog 150 #[.int .u8 (c.toNat : Int), .string LET] w fun e w' => e = .returned (.bool (letB c)) ∧ w = w' := by
  have := in_any c _ rfl LET (by decide) w
  rwa [let_any] at this
theorem in_dig (c : UInt8) (w : World) : Calls Tryz.prog 150 #[.int .u8 (c.toNat : Int), .string DIG] w fun e w' => e = .returned (.bool (digB c || c == 95)) ∧ w = w' := by
  have := in_any c _ rfl DIG (by decide) w
  rwa [dig_any] at this
def okAt (i : Nat) (c : UInt8) : Bool := letB c || (decide (0 < i) && (digB c || c == 95))
def okK (l : List UInt8) : Nat → Bool
  | 0 => decide (0 < l.length) && decide (l.length ≤ 24)
  | k + 1 => okK l k && okAt k (l.getD k 0)
theorem okK_mono (l : List UInt8) (k j : Nat) (h : okK l k = false) : okK l (k + j) = false := by
  induction j with
  | zero => exact h
  | succ j ih => show (okK l (k + j) && _) = false; rw [ih]; rfl
theorem okK_all (l : List UInt8) (hl : okK l 0 = true) : ∀ k, k ≤ l.length → okK l k = true → ∀ i, i < k → okAt i (l.getD i 0) = true
  | 0, _, _, i, hi => by omega
  | k + 1, hk, h, i, hi => by
    simp only [okK, Bool.and_eq_true] at h
    by_cases e : i = k
    · subst e; exact h.2
    · exact okK_all l hl k (by omega) h.1 i (by omega)
theorem okK_of (l : List UInt8) (hl : okK l 0 = true) (h : ∀ i, i < l.length → okAt i (l.getD i 0) = true) : ∀ k, k ≤ l.length → okK l k = true
  | 0, _ => hl
  | k + 1, hk => by simp only [okK, Bool.and_eq_true]; exact ⟨okK_of l hl h k (by omega), h k (by omega)⟩
theorem nameB_okK (l : List UInt8) : okK l l.length = nameB l := by
  cases l with
  | nil => rfl
  | cons c r =>
    rw [Bool.eq_iff_iff]
    have h0 : okK (c :: r) 0 = decide (r.length ≤ 23) := by simp [okK]
    constructor
    · intro h
      have hl : okK (c :: r) 0 = true := by
        cases e : okK (c :: r) 0 with
        | true => rfl
        | false => have := okK_mono (c :: r) 0 (c :: r).length e; rw [Nat.zero_add, h] at this; cases this
      have ha := okK_all _ hl _ (Nat.le_refl _) h
      simp only [nameB, Bool.and_eq_true, decide_eq_true_eq, List.all_eq_true]
      refine ⟨⟨?_, fun x hx => ?_⟩, by simpa [h0] using hl⟩
      · have := ha 0 (by simp); simpa [okAt] using this
      · obtain ⟨i, hi, rfl⟩ := List.getElem_of_mem hx
        have := ha (i + 1) (by simpa using hi)
        simp [okAt, List.getD, hi] at this
        simp only [wordB, Bool.or_eq_true, beq_iff_eq]
        rcases this with h1 | h1 | h1
        · exact .inl (.inl h1)
        · exact .inl (.inr h1)
        · exact .inr h1
    · intro h
      simp only [nameB, Bool.and_eq_true, decide_eq_true_eq, List.all_eq_true] at h
      refine okK_of _ (by rw [h0]; simpa using h.2) (fun i hi => ?_) _ (Nat.le_refl _)
      cases i with
      | zero => simp [okAt, h.1.1]
      | succ i =>
        have hi' : i < r.length := by simpa using hi
        have := h.1.2 r[i] (List.getElem_mem _)
        simp only [wordB, Bool.or_eq_true, beq_iff_eq] at this
        simp [okAt, List.getD, hi']
        rcases this with (h1 | h1) | h1
        · exact .inl h1
        · exact .inr (.inl h1)
        · exact .inr (.inr h1)
theorem refName_any (s : ByteArray) (hs : s.size ≤ 9223372036854775807) (w : World) :
    Calls Tryz.prog 98 #[.string s] w fun e w' => e = .returned (.bool (nameB s.data.toList)) ∧ w = w' := by
  have hl := list_size s
  have HNB := Lib.hid (nameB_okK s.data.toList)
  have hfin : ∀ k, k ≤ s.size → (okK s.data.toList k = false ∨ k = s.size) → okK s.data.toList k = nameB s.data.toList := fun k hk h => by
    rw [← HNB.out, hl]
    rcases h with h | h
    · rw [h]
      have := okK_mono s.data.toList k (s.size - k) h
      rw [show k + (s.size - k) = s.size by omega] at this
      exact this.symm
    · rw [h]
  have HFIN := Lib.hid hfin
  have hok0 : okK s.data.toList 0 = (decide (0 < s.size) && decide (s.size ≤ 24)) := by simp [okK]
  have HOK0 := Lib.hid hok0
  clear hok0 hfin
  have hinl := in_let
  have hind := in_dig
  have hLET : LET = ⟨#[97, 98, 99, 100, 101, 102, 103, 104, 105, 106, 107, 108, 109, 110, 111, 112, 113, 114, 115, 116, 117, 118, 119, 120, 121, 122, 65, 66, 67, 68, 69, 70, 71, 72, 73, 74, 75, 76, 77, 78, 79, 80, 81, 82, 83, 84, 85, 86, 87, 88, 89, 90]⟩ := rfl
  have hDIG : DIG = ⟨#[48, 49, 50, 51, 52, 53, 54, 55, 56, 57, 95]⟩ := rfl
  rw [hLET] at hinl
  rw [hDIG] at hind
  have HL := Lib.hid hinl
  have HD := Lib.hid hind
  clear hinl hind hLET hDIG
  by_cases hA : 0 < s.size ∧ s.size ≤ 24
  · obtain ⟨h0, h1⟩ := hA
    have h1i : (s.size : Int) ≤ 24 := by omega
    have hk0 : okK s.data.toList 0 = true := by rw [HOK0.out]; simp [h0, h1]
    have HK0 := Lib.hid hk0
    clear hk0
    go_enter Tryz.func98, Tryz.ntmps98
    go_wp2_with fail
    go_loop [3, 4] (fun ok i => ∃ k : Nat, k ≤ s.size ∧ i = .int .i64 k ∧ ok = .bool (okK s.data.toList k)) (fun _ i => s.size - (intOf i).toNat)
    case atStart => exact ⟨0, by omega, rfl, by rw [HK0.out]⟩
    case round =>
      obtain ⟨k, hk, rfl, rfl⟩ := hrel
      cases hok : okK s.data.toList k with
      | false =>
        have hf := HFIN.out k hk (.inl hok)
        rw [hok] at hf
        have HF := Lib.hid hf
        clear hok hf
        by_cases hlt : k < s.size
        · go_wp2_with fail
          go_ret
          exact ⟨by rw [← HF.out]; rfl, rfl⟩
        · go_wp2_with fail
          go_ret
          exact ⟨by rw [← HF.out]; rfl, rfl⟩
      | true =>
        by_cases hlt : k < s.size
        · have hg := getElem_list s k hlt
          have hn : okK s.data.toList (k + 1) = okAt k s[k] := by show (okK _ k && _) = _; rw [hok, hg]; rfl
          have hb := byte_lt s[k]
          have hcl := HL.out s[k]
          have hcd := HD.out s[k]
          have HN := Lib.hid hn
          have hoa : okAt k s[k] = (letB s[k] || (decide (0 < k) && (digB s[k] || s[k] == 95))) := rfl
          have HOA := Lib.hid hoa
          clear hn hok hg hoa
          generalize (digB s[k] || s[k] == 95) = dd at *
          cases hlb : letB s[k] with
          | true =>
            rw [hlb] at hcl
            have HCL := Lib.hid hcl
            have HLB := Lib.hid hlb
            clear hcl hcd hlb
            go_wp2_with fail
            refine (HCL.out _).mono ?_
            rintro e w' ⟨rfl, rfl⟩
            go_wp2_with fail
            go_round
            case rel => exact ⟨k + 1, by omega, by go_num, by rw [HN.out, HOA.out, HLB.out]; rfl⟩
            case measure => simp [intOf]; omega
          | false =>
            rw [hlb] at hcl
            have HCL := Lib.hid hcl
            have HLB := Lib.hid hlb
            have HCD := Lib.hid hcd
            clear hcl hcd hlb
            by_cases hk0 : 0 < k
            · go_wp2_with fail
              refine (HCL.out _).mono ?_
              rintro e w' ⟨rfl, rfl⟩
              go_wp2_with fail
              refine (HCD.out _).mono ?_
              rintro e w' ⟨rfl, rfl⟩
              go_wp2_with fail
              go_round
              case rel => exact ⟨k + 1, by omega, by go_num, by rw [HN.out, HOA.out, HLB.out, decide_eq_true hk0]; simp⟩
              case measure => simp [intOf]; omega
            · obtain rfl : k = 0 := by omega
              go_wp2_with fail
              refine (HCL.out _).mono ?_
              rintro e w' ⟨rfl, rfl⟩
              go_wp2_with fail
              go_round
              case rel => exact ⟨1, by omega, by go_num, by rw [HN.out, HOA.out, HLB.out]; rfl⟩
              case measure => simp [intOf]; omega
        · obtain rfl : k = s.size := by omega
          have hf := HFIN.out s.size hk (.inr rfl)
          rw [hok] at hf
          have HF := Lib.hid hf
          clear hok hf
          go_wp2_with fail
          go_ret
          exact ⟨by rw [← HF.out]; rfl, rfl⟩
  · have hf := HFIN.out 0 (by omega) (.inl (by rw [HOK0.out]; simp; omega))
    rw [HOK0.out, show (decide (0 < s.size) && decide (s.size ≤ 24)) = false by simp; omega] at hf
    rw [← hf]
    clear hf
    by_cases h0 : 0 < s.size
    · have h24 : ¬ (s.size : Int) ≤ 24 := by omega
      go_enter Tryz.func98, Tryz.ntmps98
      go_wp2_with fail
      refine wp_loop_rounds 1 ?_
      rw [rounds_succ]
      go_wp2_with fail
      go_ret
      exact ⟨rfl, rfl⟩
    · have h00 : s.size = 0 := by omega
      go_enter Tryz.func98, Tryz.ntmps98
      go_wp2_with fail
      refine wp_loop_rounds 1 ?_
      rw [rounds_succ]
      go_wp2_with fail
      go_ret
      exact ⟨rfl, rfl⟩
end Go.Proofs.YtlmmfhbdebfgkaaGreatDoor.Va
namespace Go.Proofs.YtlmmfhbdebfgkaaGreatDoor.Va
open Go.RowKit
def NumsAt (w : World) (a : Option Addr) (l : List Int) : Prop := ∀ i, i < l.length → ∃ b off, a = some ⟨b, off, none⟩ ∧ w.cell? ⟨b, off + i, none⟩ = some (.int .i64 (l.getD i 0)) ∧ b < w.heap.size
theorem NumsAt.below {w w' : World} {a : Option Addr} {l : List Int} (h : NumsAt w a l) (b : Below w.heap.size w w') : NumsAt w' a l := fun i hi => by
  obtain ⟨g, off, e, hc, hl⟩ := h i hi
  exact ⟨g, off, e, (b.cell (p := ⟨g, off + i, none⟩) hl).trans hc, Nat.lt_of_lt_of_le hl b.size⟩
def valC (v : V) (a : Option Addr) (cap : Nat) : Value := .agg #[.int .i64 v.kind, .int .i64 v.num, .string (S v.text), .slice a v.list.length cap]
structure VOk (v : V) : Prop where
  text : v.text.length ≤ 9223372036854775807
  list : v.list.length ≤ 9223372036854775807
theorem ret_b {a b : Bool} (h : a = b) : Ending.returned (.bool a) = .returned (.bool b) := by rw [h]
end Go.Proofs.YtlmmfhbdebfgkaaGreatDoor.Va
namespace Go.Proofs.YtlmmfhbdebfgkaaGreatDoor.Va
open Go.RowKit
def preB (x y : List Int) (k : Nat) : Bool := x.take k == y.take k
theorem preB_zero (x y : List Int) : preB x y 0 = true := by simp [preB]
theorem preB_succ (x y : List Int) (k : Nat) (hx : k < x.length) (hy : k < y.length) : preB x y (k + 1) = (preB x y k && x.getD k 0 == y.getD k 0) := by
  unfold preB
  rw [Bool.eq_iff_iff]
  simp only [beq_iff_eq, Bool.and_eq_true]
  rw [List.take_succ_eq_append_getElem hx, List.take_succ_eq_append_getElem hy]
  have e1 : x.getD k 0 = x[k] := by simp [List.getD, hx]
  have e2 : y.getD k 0 = y[k] := by simp [List.getD, hy]
  rw [e1, e2]
  constructor
  · intro h
    have := List.append_inj h (by simp; omega)
    exact ⟨this.1, by simpa using this.2⟩
  · rintro ⟨h1, h2⟩; rw [h1, h2]
theorem preB_all (x y : List Int) (h : x.length = y.length) : preB x y x.length = (x == y) := by unfold preB; rw [List.take_length, h, List.take_length]
theorem preB_false (x y : List Int) (k : Nat) (h : preB x y k = false) : (x == y) = false := by
  unfold preB at h
  simp only [beq_eq_false_iff_ne, ne_eq] at h ⊢
  exact fun e => h (by rw [e])
theorem ordL_pre : ∀ (x y : List Int) (k : Nat), k ≤ x.length → k ≤ y.length → preB x y k = true → ordL x y = ordL (x.drop k) (y.drop k)
  | _, _, 0, _, _, _ => rfl
  | [], _, k + 1, h, _, _ => by simp at h
  | _ :: _, [], k + 1, _, h, _ => by simp at h
  | a :: r, b :: s, k + 1, h1, h2, h => by
    simp only [preB, List.take_succ_cons, beq_iff_eq, List.cons.injEq] at h
    show (if a = b then ordL r s else _) = ordL (r.drop k) (s.drop k)
    rw [if_pos h.1]
    exact ordL_pre r s k (by simpa using h1) (by simpa using h2) (by simp [preB, h.2])
theorem ordL_at (x y : List Int) (k : Nat) (hx : k < x.length) (hy : k < y.length) (h : preB x y k = true) (hne : x.getD k 0 ≠ y.getD k 0) : ordL x y = ordI (x.getD k 0) (y.getD k 0) := by
  rw [ordL_pre x y k (by omega) (by omega) h, List.drop_eq_getElem_cons hx, List.drop_eq_getElem_cons hy]
  have e1 : x.getD k 0 = x[k] := by simp [List.getD, hx]
  have e2 : y.getD k 0 = y[k] := by simp [List.getD, hy]
  rw [e1, e2] at hne ⊢
  show (if x[k] = y[k] then _ else _) = _
  rw [if_neg hne]
theorem ordL_end (x y : List Int) (k : Nat) (hx : k ≤ x.length) (hy : k ≤ y.length) (he : k = x.length ∨ k = y.length) (h : preB x y k = true) : ordL x y = ordI x.length y.length := by
  rw [ordL_pre x y k hx hy h]
  rcases he with e | e
  · rw [e, List.drop_length]
    by_cases h2 : x.length = y.length
    · rw [h2, List.drop_length]; simp [ordL, ordI]
    · have : y.drop x.length ≠ [] := fun e2 => by have := congrArg List.length e2; simp at this; omega
      cases hd : y.drop x.length with
      | nil => exact absurd hd this
      | cons => unfold ordI; rw [if_pos (by omega)]; rfl
  · rw [e, List.drop_length]
    by_cases h2 : x.length = y.length
    · rw [← h2, List.drop_length]; simp [ordL, ordI]
    · have : x.drop y.length ≠ [] := fun e2 => by have := congrArg List.length e2; simp at this; omega
      cases hd : x.drop y.length with
      | nil => exact absurd hd this
      | cons => unfold ordI; rw [if_neg (by omega), if_pos (by omega)]; rfl
def sameV (a b : V) : Bool := a.kind == b.kind && a.num == b.num && a.text == b.text && a.list == b.list
theorem S_beq (t t' : List UInt8) : ((S t).toList == (S t').toList) = (t == t') := by rw [ByteArray.toList_eq, ByteArray.toList_eq, S_toList, S_toList]
theorem lt_of_heapV {w : World} {k : Nat} {o : Obj} (h : w.heap[k]? = some o) : k < w.heap.size := by
  rw [Array.getElem?_eq_some_iff] at h
  exact h.1
def boxO (k n : Int) (t : List UInt8) (len : Nat) (a : Option Addr) (cap : Nat) : Obj := .cells #[.int .i64 k, .int .i64 n, .string (S t), .slice a len cap] 52
end Go.Proofs.YtlmmfhbdebfgkaaGreatDoor.Va
namespace Go.Proofs.YtlmmfhbdebfgkaaGreatDoor.Va
open Go.RowKit
theorem ret_i {a b : Int} (h : a = b) : Ending.returned (.int .i64 a) = .returned (.int .i64 b) := by rw [h]
end Go.Proofs.YtlmmfhbdebfgkaaGreatDoor.Va
namespace Go.Proofs.YtlmmfhbdebfgkaaGreatDoor.Va
open Go.RowKit
theorem ret_s {a b : ByteArray} (h : a = b) : Ending.returned (.string a) = .returned (.string b) := by rw [h]
theorem digs_small (n : Nat) (h : n < 10) : digs n = [UInt8.ofNat (48 + n)] := by rw [digs, dif_pos h]
theorem digs_big (n : Nat) (h : ¬ n < 10) : digs n = digs (n / 10) ++ [UInt8.ofNat (48 + n % 10)] := by rw [digs, dif_neg h]
theorem digs_len (n : Nat) : ∀ k, n < 10 ^ (k + 1) → (digs n).length ≤ k + 1 := by
  induction n using Nat.strongRecOn with
  | ind n ih =>
    intro k hk
    by_cases h : n < 10
    · rw [digs_small n h]; simp
    · rw [digs_big n h, List.length_append]
      cases k with
      | zero => omega
      | succ k =>
        have := ih (n / 10) (by omega) k (by rw [Nat.pow_succ] at hk; omega)
        simp; omega
theorem digs_len19 (n : Nat) (h : n ≤ 9223372036854775808) : (digs n).length ≤ 19 := digs_len n 18 (by omega)
end Go.Proofs.YtlmmfhbdebfgkaaGreatDoor.Va
