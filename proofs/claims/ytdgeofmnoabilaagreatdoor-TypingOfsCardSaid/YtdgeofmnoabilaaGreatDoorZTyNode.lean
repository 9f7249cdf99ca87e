/-
  The program's typing: the kind of a node.
-/
import Derived.Test.YtdgeofmnoabilaaGreatDoorZTyFit
namespace Go.Proofs.YtdgeofmnoabilaaGreatDoor.Ty
open Go.RowKit
open Ex Lx

set_option linter.unusedVariables false
set_option linter.unusedSimpArgs false
set_option maxRecDepth 100000 in
set_option maxHeartbeats 4000000 in
theorem node_a (s : Sc) (pe pa pf : Option Addr) (ce ca cf : Nat) (op num : Int) (t : List UInt8) (p : Option Addr) (k c : Nat) (l : List TT) (q : Option Addr) (cl : Nat) (w : World) (hs : ScAt w pe pa pf s) (hf : ScFit s) (hl : TTsAt w q l) (hlen : l.length ≤ 281474976710656) (ht : t.length ≤ 281474976710656) (h2 : op = 25 ∨ op = 26 ∨ op = 30 ∨ op = 31 → l.length = 2) (hop : op = 4) :
    Calls Tryz.prog 41 #[.agg #[.slice pe s.enums.length ce, .slice pa s.attrs.length ca, .slice pf s.fields.length cf], .agg #[.int .i64 op, .int .i64 num, .string (S t), .slice p k c], .slice q l.length cl] w fun e w' => e = retT (oneTy s op t l) ∧ Below w.heap.size w w' := by
  have hba := (((Below.refl w.heap.size w).alloc (Nat.le_refl _) (.cells #[.slice pe s.enums.length ce, .slice pa s.attrs.length ca, .slice pf s.fields.length cf] 77)).alloc (by simp) (.cells #[.int .i64 op, .int .i64 num, .string (S t), .slice p k c] 28)).alloc (by simp; omega) (.cells #[.int .i64 0, .string ⟨#[]⟩, .string ⟨#[]⟩] 31)
  have HBA := Lib.hid hba
  subst hop
  have hr : oneTy s 4 t l = (⟨4, [], t⟩, 0) := rfl
  rw [hr]
  have HC := Lib.hid (fun wr => clone_any (S t) (by rw [S_size]; exact ht) wr)
  clear hl hs hba hr
  go_enter Tryz.func41, Tryz.ntmps41
  go_wp2_with fail
  refine (HC.out _).mono ?_
  rintro e w1 ⟨rfl, b1⟩
  have hnb := (TB.new ((w.alloc (.cells #[.slice pe s.enums.length ce, .slice pa s.attrs.length ca, .slice pf s.fields.length cf] 77)).alloc (.cells #[.int .i64 4, .int .i64 num, .string (S t), .slice p k c] 28)) (.int .i64 0) (.string ⟨#[]⟩) (.string ⟨#[]⟩) (w.heap.size + 1 + 1) (by simp)).later b1
  have fz := hnb.fz
  have k0 := hnb.c0
  have k1 := hnb.c1
  have k2 := hnb.c2
  have HP := Lib.hid (hnb.put (.int .i64 4) (.string ⟨#[]⟩) (.string (S t)))
  have HB1 := Lib.hid (HBA.out.trans (b1.mono HBA.out.size))
  clear b1 hnb
  go_wp2_with fail
  have d0 := HP.out.c0
  have d1 := HP.out.c1
  have d2 := HP.out.c2
  exact bodyPost_ret (v := .tuple #[.agg #[.int .i64 4, .string ⟨#[]⟩, .string (S t)], .int .i64 0]) (by simp [results, d0, d1, d2, Tryz.results41, go_sem]) rfl ⟨rfl, ((HB1.out.setCell (p := ⟨w.heap.size + 1 + 1, 0, none⟩) (by simp; omega) _).setCell (p := ⟨w.heap.size + 1 + 1, 1, none⟩) (by simp; omega) _).setCell (p := ⟨w.heap.size + 1 + 1, 2, none⟩) (by simp; omega) _⟩

set_option maxRecDepth 100000 in
set_option maxHeartbeats 4000000 in
theorem node_b (s : Sc) (pe pa pf : Option Addr) (ce ca cf : Nat) (op num : Int) (t : List UInt8) (p : Option Addr) (k c : Nat) (l : List TT) (q : Option Addr) (cl : Nat) (w : World) (hs : ScAt w pe pa pf s) (hf : ScFit s) (hl : TTsAt w q l) (hlen : l.length ≤ 281474976710656) (ht : t.length ≤ 281474976710656) (h2 : op = 25 ∨ op = 26 ∨ op = 30 ∨ op = 31 → l.length = 2) (hop : op = 6) :
    Calls Tryz.prog 41 #[.agg #[.slice pe s.enums.length ce, .slice pa s.attrs.length ca, .slice pf s.fields.length cf], .agg #[.int .i64 op, .int .i64 num, .string (S t), .slice p k c], .slice q l.length cl] w fun e w' => e = retT (oneTy s op t l) ∧ Below w.heap.size w w' := by
  have hba := (((Below.refl w.heap.size w).alloc (Nat.le_refl _) (.cells #[.slice pe s.enums.length ce, .slice pa s.attrs.length ca, .slice pf s.fields.length cf] 77)).alloc (by simp) (.cells #[.int .i64 op, .int .i64 num, .string (S t), .slice p k c] 28)).alloc (by simp; omega) (.cells #[.int .i64 0, .string ⟨#[]⟩, .string ⟨#[]⟩] 31)
  have HBA := Lib.hid hba
  subst hop
  have hr : oneTy s 6 t l = namedTy s.attrs t := rfl
  rw [hr]
  have HC := Lib.hid (named_any s.attrs t pa ca _ (hs.attrs.later hba) hf.attrs hf.ae)
  generalize namedTy s.attrs t = r at *
  obtain ⟨⟨rk, re, rl⟩, rb⟩ := r
  unfold retT at HC ⊢
  simp only at HC ⊢
  clear hl hs hba hr
  go_enter Tryz.func41, Tryz.ntmps41
  go_wp2_with fail
  refine HC.out.mono ?_
  rintro e w1 ⟨rfl, b1⟩
  have hnb := (TB.new ((w.alloc (.cells #[.slice pe s.enums.length ce, .slice pa s.attrs.length ca, .slice pf s.fields.length cf] 77)).alloc (.cells #[.int .i64 6, .int .i64 num, .string (S t), .slice p k c] 28)) (.int .i64 0) (.string ⟨#[]⟩) (.string ⟨#[]⟩) (w.heap.size + 1 + 1) (by simp)).later b1
  have fz := hnb.fz
  have k0 := hnb.c0
  have k1 := hnb.c1
  have k2 := hnb.c2
  have HP := Lib.hid (hnb.put (.int .i64 rk) (.string (S re)) (.string (S rl)))
  have HB1 := Lib.hid (HBA.out.trans (b1.mono HBA.out.size))
  clear b1 hnb
  go_wp2_with fail
  have d0 := HP.out.c0
  have d1 := HP.out.c1
  have d2 := HP.out.c2
  exact bodyPost_ret (v := .tuple #[.agg #[.int .i64 rk, .string (S re), .string (S rl)], .int .i64 rb]) (by simp [results, d0, d1, d2, Tryz.results41, go_sem]) rfl ⟨rfl, ((HB1.out.setCell (p := ⟨w.heap.size + 1 + 1, 0, none⟩) (by simp; omega) _).setCell (p := ⟨w.heap.size + 1 + 1, 1, none⟩) (by simp; omega) _).setCell (p := ⟨w.heap.size + 1 + 1, 2, none⟩) (by simp; omega) _⟩

set_option maxRecDepth 100000 in
set_option maxHeartbeats 4000000 in
theorem node_c (s : Sc) (pe pa pf : Option Addr) (ce ca cf : Nat) (op num : Int) (t : List UInt8) (p : Option Addr) (k c : Nat) (l : List TT) (q : Option Addr) (cl : Nat) (w : World) (hs : ScAt w pe pa pf s) (hf : ScFit s) (hl : TTsAt w q l) (hlen : l.length ≤ 281474976710656) (ht : t.length ≤ 281474976710656) (h2 : op = 25 ∨ op = 26 ∨ op = 30 ∨ op = 31 → l.length = 2) (hop : op = 7) :
    Calls Tryz.prog 41 #[.agg #[.slice pe s.enums.length ce, .slice pa s.attrs.length ca, .slice pf s.fields.length cf], .agg #[.int .i64 op, .int .i64 num, .string (S t), .slice p k c], .slice q l.length cl] w fun e w' => e = retT (oneTy s op t l) ∧ Below w.heap.size w w' := by
  have hba := (((Below.refl w.heap.size w).alloc (Nat.le_refl _) (.cells #[.slice pe s.enums.length ce, .slice pa s.attrs.length ca, .slice pf s.fields.length cf] 77)).alloc (by simp) (.cells #[.int .i64 op, .int .i64 num, .string (S t), .slice p k c] 28)).alloc (by simp; omega) (.cells #[.int .i64 0, .string ⟨#[]⟩, .string ⟨#[]⟩] 31)
  have HBA := Lib.hid hba
  subst hop
  have hr : oneTy s 7 t l = namedTy s.fields t := rfl
  rw [hr]
  have HC := Lib.hid (named_any s.fields t pf cf _ (hs.fields.later hba) hf.fields hf.fe)
  generalize namedTy s.fields t = r at *
  obtain ⟨⟨rk, re, rl⟩, rb⟩ := r
  unfold retT at HC ⊢
  simp only at HC ⊢
  clear hl hs hba hr
  go_enter Tryz.func41, Tryz.ntmps41
  go_wp2_with fail
  refine HC.out.mono ?_
  rintro e w1 ⟨rfl, b1⟩
  have hnb := (TB.new ((w.alloc (.cells #[.slice pe s.enums.length ce, .slice pa s.attrs.length ca, .slice pf s.fields.length cf] 77)).alloc (.cells #[.int .i64 7, .int .i64 num, .string (S t), .slice p k c] 28)) (.int .i64 0) (.string ⟨#[]⟩) (.string ⟨#[]⟩) (w.heap.size + 1 + 1) (by simp)).later b1
  have fz := hnb.fz
  have k0 := hnb.c0
  have k1 := hnb.c1
  have k2 := hnb.c2
  have HP := Lib.hid (hnb.put (.int .i64 rk) (.string (S re)) (.string (S rl)))
  have HB1 := Lib.hid (HBA.out.trans (b1.mono HBA.out.size))
  clear b1 hnb
  go_wp2_with fail
  have d0 := HP.out.c0
  have d1 := HP.out.c1
  have d2 := HP.out.c2
  exact bodyPost_ret (v := .tuple #[.agg #[.int .i64 rk, .string (S re), .string (S rl)], .int .i64 rb]) (by simp [results, d0, d1, d2, Tryz.results41, go_sem]) rfl ⟨rfl, ((HB1.out.setCell (p := ⟨w.heap.size + 1 + 1, 0, none⟩) (by simp; omega) _).setCell (p := ⟨w.heap.size + 1 + 1, 1, none⟩) (by simp; omega) _).setCell (p := ⟨w.heap.size + 1 + 1, 2, none⟩) (by simp; omega) _⟩

set_option maxRecDepth 100000 in
set_option maxHeartbeats 4000000 in
theorem node_d (s : Sc) (pe pa pf : Option Addr) (ce ca cf : Nat) (op num : Int) (t : List UInt8) (p : Option Addr) (k c : Nat) (l : List TT) (q : Option Addr) (cl : Nat) (w : World) (hs : ScAt w pe pa pf s) (hf : ScFit s) (hl : TTsAt w q l) (hlen : l.length ≤ 281474976710656) (ht : t.length ≤ 281474976710656) (h2 : op = 25 ∨ op = 26 ∨ op = 30 ∨ op = 31 → l.length = 2) (hop : op ≠ 4 ∧ op ≠ 6 ∧ op ≠ 7) :
    Calls Tryz.prog 41 #[.agg #[.slice pe s.enums.length ce, .slice pa s.attrs.length ca, .slice pf s.fields.length cf], .agg #[.int .i64 op, .int .i64 num, .string (S t), .slice p k c], .slice q l.length cl] w fun e w' => e = retT (oneTy s op t l) ∧ Below w.heap.size w w' := by
  have hba := (((Below.refl w.heap.size w).alloc (Nat.le_refl _) (.cells #[.slice pe s.enums.length ce, .slice pa s.attrs.length ca, .slice pf s.fields.length cf] 77)).alloc (by simp) (.cells #[.int .i64 op, .int .i64 num, .string (S t), .slice p k c] 28)).alloc (by simp; omega) (.cells #[.int .i64 0, .string ⟨#[]⟩, .string ⟨#[]⟩] 31)
  have HBA := Lib.hid hba
  obtain ⟨h4, h6, h7⟩ := hop
  have hr : oneTy s op t l = if fitB s.enums op l = true then (⟨kindOf op, [], []⟩, 0) else (TT.zero, 23) := by unfold oneTy; rw [if_neg h4, if_neg h6, if_neg h7]
  rw [hr]
  have HC := Lib.hid (fit_any s pe pa pf ce ca cf op l q cl _ (hs.later hba) hf (hl.later hba) hlen h2)
  have HK := Lib.hid (fun wr => kindOf_any op wr)
  have n4 : (op == 4) = false := by simpa using h4
  have n6 : (op == 6) = false := by simpa using h6
  have n7 : (op == 7) = false := by simpa using h7
  clear hl hs hba hr
  cases hfb : fitB s.enums op l with
  | false =>
    rw [hfb] at HC
    rw [if_neg (by decide)]
    clear hfb
    go_enter Tryz.func41, Tryz.ntmps41
    go_wp2_with fail
    refine HC.out.mono ?_
    rintro e w1 ⟨rfl, b1⟩
    have hnb := (TB.new ((w.alloc (.cells #[.slice pe s.enums.length ce, .slice pa s.attrs.length ca, .slice pf s.fields.length cf] 77)).alloc (.cells #[.int .i64 op, .int .i64 num, .string (S t), .slice p k c] 28)) (.int .i64 0) (.string ⟨#[]⟩) (.string ⟨#[]⟩) (w.heap.size + 1 + 1) (by simp)).later b1
    have fz := hnb.fz
    have k0 := hnb.c0
    have k1 := hnb.c1
    have k2 := hnb.c2
    have HP := Lib.hid (hnb.put (.int .i64 0) (.string ⟨#[]⟩) (.string ⟨#[]⟩))
    have HB1 := Lib.hid (HBA.out.trans (b1.mono HBA.out.size))
    clear b1 hnb
    go_wp2_with fail
    have d0 := HP.out.c0
    have d1 := HP.out.c1
    have d2 := HP.out.c2
    exact bodyPost_ret (v := .tuple #[.agg #[.int .i64 0, .string ⟨#[]⟩, .string ⟨#[]⟩], .int .i64 23]) (by simp [results, d0, d1, d2, Tryz.results41, go_sem]) rfl ⟨rfl, ((HB1.out.setCell (p := ⟨w.heap.size + 1 + 1, 0, none⟩) (by simp; omega) _).setCell (p := ⟨w.heap.size + 1 + 1, 1, none⟩) (by simp; omega) _).setCell (p := ⟨w.heap.size + 1 + 1, 2, none⟩) (by simp; omega) _⟩
  | true =>
    rw [hfb] at HC
    rw [if_pos rfl]
    clear hfb
    generalize kindOf op = ko at *
    go_enter Tryz.func41, Tryz.ntmps41
    go_wp2_with fail
    refine HC.out.mono ?_
    rintro e w1 ⟨rfl, b1⟩
    have hx0 : (((w.alloc (.cells #[.slice pe s.enums.length ce, .slice pa s.attrs.length ca, .slice pf s.fields.length cf] 77)).alloc (.cells #[.int .i64 op, .int .i64 num, .string (S t), .slice p k c] 28)).alloc (.cells #[.int .i64 0, .string ⟨#[]⟩, .string ⟨#[]⟩] 31)).cell? ⟨w.heap.size + 1, 0, none⟩ = some (.int .i64 op) := by
      rw [zcell _ _ _ _ (by simp)]
      exact cell_of_row _ (w.heap.size + 1) 0 _ _ (0, 0) (new_box _ _ _ _ (by simp))
    have hx : w1.cell? ⟨w.heap.size + 1, 0, none⟩ = some (.int .i64 op) := (b1.cell (p := ⟨w.heap.size + 1, 0, none⟩) (by simp)).trans hx0
    clear hx0
    have hnb := (TB.new ((w.alloc (.cells #[.slice pe s.enums.length ce, .slice pa s.attrs.length ca, .slice pf s.fields.length cf] 77)).alloc (.cells #[.int .i64 op, .int .i64 num, .string (S t), .slice p k c] 28)) (.int .i64 0) (.string ⟨#[]⟩) (.string ⟨#[]⟩) (w.heap.size + 1 + 1) (by simp)).later b1
    have fz := hnb.fz
    have k0 := hnb.c0
    have k1 := hnb.c1
    have k2 := hnb.c2
    have HP := Lib.hid (hnb.put (.int .i64 ko) (.string ⟨#[]⟩) (.string ⟨#[]⟩))
    have HB1 := Lib.hid (HBA.out.trans (b1.mono HBA.out.size))
    clear b1 hnb
    go_wp2_with fail
    refine (HK.out _).mono ?_
    rintro e w2 ⟨rfl, rfl⟩
    go_wp2_with fail
    have d0 := HP.out.c0
    have d1 := HP.out.c1
    have d2 := HP.out.c2
    exact bodyPost_ret (v := .tuple #[.agg #[.int .i64 ko, .string ⟨#[]⟩, .string ⟨#[]⟩], .int .i64 0]) (by simp [results, d0, d1, d2, Tryz.results41, go_sem]) rfl ⟨rfl, ((HB1.out.setCell (p := ⟨w.heap.size + 1 + 1, 0, none⟩) (by simp; omega) _).setCell (p := ⟨w.heap.size + 1 + 1, 1, none⟩) (by simp; omega) _).setCell (p := ⟨w.heap.size + 1 + 1, 2, none⟩) (by simp; omega) _⟩

theorem node_any (s : Sc) (pe pa pf : Option Addr) (ce ca cf : Nat) (op num : Int) (t : List UInt8) (p : Option Addr) (k c : Nat) (l : List TT) (q : Option Addr) (cl : Nat) (w : World) (hs : ScAt w pe pa pf s) (hf : ScFit s) (hl : TTsAt w q l) (hlen : l.length ≤ 281474976710656) (ht : t.length ≤ 281474976710656) (h2 : op = 25 ∨ op = 26 ∨ op = 30 ∨ op = 31 → l.length = 2) :
    Calls Tryz.prog 41 #[.agg #[.slice pe s.enums.length ce, .slice pa s.attrs.length ca, .slice pf s.fields.length cf], .agg #[.int .i64 op, .int .i64 num, .string (S t), .slice p k c], .slice q l.length cl] w fun e w' => e = retT (oneTy s op t l) ∧ Below w.heap.size w w' := by
  by_cases h4 : op = 4
  · exact node_a s pe pa pf ce ca cf op num t p k c l q cl w hs hf hl hlen ht h2 h4
  by_cases h6 : op = 6
  · exact node_b s pe pa pf ce ca cf op num t p k c l q cl w hs hf hl hlen ht h2 h6
  by_cases h7 : op = 7
  · exact node_c s pe pa pf ce ca cf op num t p k c l q cl w hs hf hl hlen ht h2 h7
  exact node_d s pe pa pf ce ca cf op num t p k c l q cl w hs hf hl hlen ht h2 ⟨h4, h6, h7⟩

end Go.Proofs.YtdgeofmnoabilaaGreatDoor.Ty
