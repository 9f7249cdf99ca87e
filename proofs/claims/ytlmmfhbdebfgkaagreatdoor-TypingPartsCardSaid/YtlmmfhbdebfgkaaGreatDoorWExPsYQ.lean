/-
  ExPsY, ExPsZ, ExPsQ, ExPsQb, ExPsP.
-/
import Derived.Test.YtlmmfhbdebfgkaaGreatDoorWExPsX
import Derived.Test.YtlmmfhbdebfgkaaGreatDoorWExBadQ
import Derived.Test.YtlmmfhbdebfgkaaGreatDoorWExPsBQ
import Derived.Test.YtlmmfhbdebfgkaaGreatDoorWExRefYQ
import Derived.Tactics
import Derived.Tactics2
import Derived.Defers
import Derived.Recover
import Derived.Laws.Pointers
import Derived.RowKit3
import Derived.RegionDies
import Derived.Deep.RegionHeld3
import Derived.Deep.QuietTactic
set_option linter.unusedVariables false
set_option linter.unusedSimpArgs false
set_option maxRecDepth 100000
set_option maxHeartbeats 8000000
namespace Go.Proofs.YtlmmfhbdebfgkaaGreatDoor.Ex
open Go.RowKit
open Lx Va
theorem plevel_all (b g cap : Nat) (ts : List TA) (hE : Env b g ts) : ∀ f : Nat,
    (∀ s : St, StOk ts s → need 5 s < f → ∀ w, Psr w b g cap ts.length s.at_ s.n s.open_ → TsAt w g ts → ConsAt w → Calls Tryz.prog 78 #[.pointer (some ⟨b, 0, none⟩)] w fun e w' => ResP b g cap ts w (lv ts f 5 s) e w') ∧
    (∀ n : Nat, n ≤ 5 → ∀ s : St, StOk ts s → need n s < f → ∀ w, Psr w b g cap ts.length s.at_ s.n s.open_ → TsAt w g ts → ConsAt w → Calls Tryz.prog 48 #[.pointer (some ⟨b, 0, none⟩), .int .i64 (n : Int)] w fun e w' => ResP b g cap ts w (lv ts f n s) e w')
  | 0 => ⟨fun s _ h => absurd h (by omega), fun n _ s _ h => absurd h (by omega)⟩
  | f + 1 => by
    obtain ⟨IU, IL⟩ := plevel_all b g cap ts hE f
    have hU : ∀ s : St, StOk ts s → need 5 s < f + 1 → ∀ w, Psr w b g cap ts.length s.at_ s.n s.open_ → TsAt w g ts → ConsAt w → Calls Tryz.prog 78 #[.pointer (some ⟨b, 0, none⟩)] w fun e w' => ResP b g cap ts w (lv ts (f + 1) 5 s) e w' := by
      intro s hs hnd w h ht hC
      unfold need at hnd
      have e : lv ts (f + 1) 5 s = unaryR (lv ts f 5) (lv ts f 0) ts s := by
        rw [lv, if_pos rfl]; rfl
      rw [e]
      refine punary_any b g cap ts hE s w h ht hC hs (lv ts f 5) (lv ts f 0) (lv_st hE.ends f 5) (lv_st hE.ends f 0) ?_ ?_ ?_
      · intro s1 hs1 ho w1 k1 k2 k3
        refine IU s1 hs1 ?_ w1 k1 k2 k3
        have := hs1.op
        unfold need
        omega
      · intro s1 hs1 ho w1 k1 k2 k3
        refine IL 0 (by omega) s1 hs1 ?_ w1 k1 k2 k3
        have := hs1.op
        unfold need
        omega
      · intro s1 hs1 ho hb
        refine lv_none f 0 (by omega) s1 hs1.op ?_ hb
        have := hs1.op
        unfold need
        omega
    refine ⟨hU, fun n hn5 s hs hnd w h ht hC => ?_⟩
    by_cases h5 : n = 5
    · subst h5
      exact plevel_5 b g cap ts s _ w h ht hC (fun w1 k1 k2 k3 => hU s hs hnd w1 k1 k2 k3)
    · have hL := plevel_lo b g cap ts hE (lv ts f (n + 1)) (lv_st hE.ends f (n + 1)) n (by omega) s w h ht hC hs (fun s1 hs1 ho w1 k1 k2 k3 => by
        have e : ((n : Int) + 1) = ((n + 1 : Nat) : Int) := by omega
        rw [e]
        refine IL (n + 1) (by omega) s1 hs1 ?_ w1 k1 k2 k3
        unfold need at hnd ⊢
        rw [ho]
        omega)
      have e2 : lv ts (f + 1) n s = (lv ts f (n + 1) s).then fun x s1 => loopR (lv ts f (n + 1)) ts n 201 x s1 := by
        rw [lv, if_neg h5]
      rw [e2]
      exact hL
end Go.Proofs.YtlmmfhbdebfgkaaGreatDoor.Ex
namespace Go.Proofs.YtlmmfhbdebfgkaaGreatDoor.Ex
open Go.RowKit
open Lx Va
theorem tok_clos (t : TA) (w : World) : Calls Tryz.prog 46 #[tokC t] w fun e w' => e = .returned (.bool (t.kind == 0)) ∧ Below w.heap.size w w' := by
  unfold tokC
  have HB := Lib.hid ((Below.refl w.heap.size w).alloc (Nat.le_refl _) (.cells #[.int .i64 t.kind, .string (S t.text), .int .i64 t.num, .int .i64 (t.at_ : Int)] 79))
  go_enter Tryz.func46, Tryz.ntmps46
  go_wp2_with fail
  go_ret
  exact ⟨rfl, HB.out⟩
theorem tok_idx (g cap : Nat) (ts : List TA) (hE : Ends ts) (hn : ts.length ≤ 8001) (w : World) (ht : TsAt w g ts) :
    Calls Tryz.prog 45 #[.slice (some ⟨g, 0, none⟩) ts.length cap, .func (.func 46) #[] #[]] w fun e w' => e = .returned (.int .i64 ((ts.length : Int) - 1)) ∧ Below w.heap.size w w' := by
  have hki : (ts.length : Int) ≤ 8001 := by omega
  have HT := Lib.hid ht
  have HE := Lib.hid hE
  have hpos := hE.pos
  clear ht hE
  go_enter Tryz.func45, Tryz.ntmps45
  go_wp2_with fail
  go_loopw [5, 8] (fun _ iv wr => ∃ k : Nat, k < ts.length ∧ iv = .int .i64 k ∧ Below w.heap.size w wr) (fun _ iv _ => ts.length - (intOf iv).toNat)
  case atStart => exact ⟨0, hpos, rfl, Below.refl _ _⟩
  case round =>
    obtain ⟨k, hlt, rfl, bw⟩ := hrel
    have BW := Lib.hid bw
    have hlti : (k : Int) < (ts.length : Int) := by omega
    have ht := HT.out.below bw
    obtain ⟨f0, f1, f2, f3⟩ := ht.tok hlt
    have HC := Lib.hid (tok_clos (tk ts k) wr)
    unfold tokC at HC
    have hk0 : ((tk ts k).kind == 0) = decide (k + 1 = ts.length) := by
      by_cases e : k + 1 = ts.length
      · have : k = ts.length - 1 := by omega
        rw [this, HE.out.last]
        simp; omega
      · have := HE.out.mid k (by omega)
        simp [this, e]
    clear ht bw
    by_cases hl : k + 1 = ts.length
    · rw [hk0, decide_eq_true hl] at HC
      have HL := Lib.hid hl
      clear hk0 hl
      go_wp2_with fail
      refine HC.out.mono ?_
      rintro e w1 ⟨rfl, b1⟩
      have B1 := Lib.hid (BW.out.trans (b1.mono BW.out.size))
      clear b1
      go_wp2_with fail
      go_ret
      refine ⟨?_, B1.out⟩
      have := HL.out
      rw [show (k : Int) = (ts.length : Int) - 1 by omega]
      rfl
    · rw [hk0, decide_eq_false hl] at HC
      have HL := Lib.hid hl
      clear hk0 hl
      go_wp2_with fail
      refine HC.out.mono ?_
      rintro e w1 ⟨rfl, b1⟩
      have B1 := Lib.hid (BW.out.trans (b1.mono BW.out.size))
      clear b1
      go_wp2_with fail
      go_roundw
      case rel => exact ⟨k + 1, by have := HL.out; omega, by go_num, B1.out⟩
      case measure => simp [intOf]; omega
end Go.Proofs.YtlmmfhbdebfgkaaGreatDoor.Ex
namespace Go.Proofs.YtlmmfhbdebfgkaaGreatDoor.Ex
open Go.RowKit
open Lx Va
theorem run_stop (v : Value) (xT : TypeId) (w : World) : (Instr.typeAssert (.iface 114 v) xT 114 true).run Tryz.prog w = .ok (.tuple #[v, .bool true]) w := by
  simp [Instr.typeAssert, run_underlying Tryz.underlying114, go_sem, Result.andThen]
theorem stop_idle (p q : Nat) (w : World) :
    CallsD Tryz.prog 47 #[.pointer (some ⟨p, 0, none⟩), .pointer (some ⟨q, 0, none⟩)] .returning w fun e u' w' => e = .returned (.tuple #[]) ∧ u' = .returning ∧ w' = w.alloc (.cells #[.int .i64 0, .int .i64 0] 114) := by
  refine callsD_of_wpS Tryz.func47 rfl fun c₀ cs hu => ?_
  apply wpS_seq
  apply wpS_region
  simp [wpOpsS, go_sem, recoverD, hu, Tryz.ntmps47, Exit.thenS]
  have hta : ∀ w, (Instr.typeAssert Value.nilIface 20 114 true).run Tryz.prog w = .ok (.tuple #[.agg #[.int .i64 0, .int .i64 0], .bool false]) w := fun w => by kernel_rfl
  apply wpS_seq
  apply wpS_region
  simp [wpOpsS, go_sem, hta, Exit.thenS]
  apply wpS_seq
  apply wpS_region
  simp [wpOpsS, go_sem, Exit.thenS]
  refine wpS_cond (t := false) (by simp [Act.eval, Array.replicate]) ?_
  simp only [Bool.false_eq_true, if_false]
  apply wpS_seq
  apply wpS_region
  simp [wpOpsS, go_sem, Exit.thenS]
  refine wpS_cond (t := false) (by simp [Act.eval, Array.replicate]) ?_
  simp only [Bool.false_eq_true, if_false]
  refine wpS_of_wp (wp_skip ?_)
  cases c₀
  simp_all [bodyPostS, results, Tryz.results47]
end Go.Proofs.YtlmmfhbdebfgkaaGreatDoor.Ex
namespace Go.Proofs.YtlmmfhbdebfgkaaGreatDoor.Ex
open Go.RowKit
open Lx Va
theorem stop_panicking (p q : Nat) (hpq : p ≠ q) (a k x y : Int) (older : List PanicEntry) (w : World) (hp : w.cell? ⟨p, 0, none⟩ = some (.int .i64 x)) (hq : w.cell? ⟨q, 0, none⟩ = some (.int .i64 y)) (zp : w.frozen? ⟨p, 0, none⟩ = false) (zq : w.frozen? ⟨q, 0, none⟩ = false) :
    CallsD Tryz.prog 47 #[.pointer (some ⟨p, 0, none⟩), .pointer (some ⟨q, 0, none⟩)] (.panicking ({ v := .iface 114 (.agg #[.int .i64 a, .int .i64 k]), recovered := false } :: older)) w fun e u' w' =>
      e = .returned (.tuple #[]) ∧ u' = .panicking ({ v := .iface 114 (.agg #[.int .i64 a, .int .i64 k]), recovered := true } :: older) ∧ w' = (((w.setCell ⟨p, 0, none⟩ (.int .i64 a)).setCell ⟨q, 0, none⟩ (.int .i64 k)).alloc (.cells #[.int .i64 a, .int .i64 k] 114)).drew := by
  refine callsD_of_wpS Tryz.func47 rfl fun c₀ cs hu => ?_
  apply wpS_seq
  apply wpS_region
  simp [wpOpsS, go_sem, recoverD, hu, Tryz.ntmps47, Exit.thenS]
  have hta := fun w => run_stop (.agg #[.int .i64 a, .int .i64 k]) 20 w
  have lp : p < w.heap.size := World.block_lt_of_cell? w _ hp
  have lq : q < w.heap.size := World.block_lt_of_cell? w _ hq
  have hqp : ¬ q = p := fun e => hpq e.symm
  have hnp : ¬ w.heap.size = p := by omega
  have hnq : ¬ w.heap.size = q := by omega
  have zp2 : ∀ c t, (w.alloc (.cells c t)).frozen? ⟨p, 0, none⟩ = false := fun c t => by rw [frozen?_alloc_cells]; exact zp
  have zq2 : ∀ c t, (w.alloc (.cells c t)).frozen? ⟨q, 0, none⟩ = false := fun c t => by rw [frozen?_alloc_cells]; exact zq
  apply wpS_seq
  apply wpS_region
  simp [wpOpsS, go_sem, hta, Exit.thenS]
  apply wpS_seq
  apply wpS_region
  simp [wpOpsS, go_sem, Exit.thenS]
  refine wpS_cond (t := true) (by simp [Act.eval, Array.replicate]) ?_
  simp only [if_true]
  refine wpS_of_wp ?_
  simp only [Array.replicate]
  have hb := heap_alloc_new w (.cells #[.int .i64 a, .int .i64 k] 114)
  have e0 := cell_of_row _ w.heap.size 0 _ _ (0, 0) hb
  have e1 := cell_of_row _ w.heap.size 1 _ _ (0, 0) hb
  go_region
  all_goals simp [bodyPostS, results, Tryz.results47]
end Go.Proofs.YtlmmfhbdebfgkaaGreatDoor.Ex
namespace Go.Proofs.YtlmmfhbdebfgkaaGreatDoor.Ex
open Go.RowKit
open Lx Va
def NB (w : World) (b : Nat) (t : TypeId) (v : Value) : Prop := w.heap[b]? = some (.cells #[v] t (0, 0))
section
variable {w w' : World} {b : Nat} {t : TypeId} {v : Value}
theorem NB.c0 (h : NB w b t v) : w.cell? ⟨b, 0, none⟩ = some v := cell_of_row w b 0 _ _ (0, 0) h
theorem NB.fz (h : NB w b t v) : w.frozen? ⟨b, 0, none⟩ = false := frozen_of_row w b 0 _ _ h
theorem NB.lt (h : NB w b t v) : b < w.heap.size := World.block_lt_of_cell? w _ h.c0
theorem NB.keep {ok : Nat → Prop} (h : NB w b t v) (k : Kept ok w w') (hb : ok b) : NB w' b t v := (k.block b hb h.lt).trans h
theorem NB.below (h : NB w b t v) (k : Below w.heap.size w w') : NB w' b t v := (k.block b h.lt).trans h
theorem NB.set (h : NB w b t v) (u : Value) : NB (w.setCell ⟨b, 0, none⟩ u) b t u := heap_setCell_same w b 0 _ _ _ h
theorem NB.other (h : NB w b t v) {c j : Nat} (u : Value) (hne : b ≠ c) : NB (w.setCell ⟨c, j, none⟩ u) b t v := by
  unfold NB
  rw [heap_setCell_other w ⟨c, j, none⟩ b u (by simp; omega)]
  exact h
theorem NB.drew (h : NB w b t v) : NB w.drew b t v := h
theorem Bx.drew' {x0 x1 x2 x3 : Value} (h : Bx w b x0 x1 x2 x3) : Bx w.drew b x0 x1 x2 x3 := h
theorem Kept.drew' {ok : Nat → Prop} (h : Kept ok w w') : Kept ok w w'.drew := ⟨h.1, h.2⟩
theorem NB.alloc (h : NB w b t v) (o : Obj) : NB (w.alloc o) b t v := h.keep (Kept.alloc (ok := fun _ => True) w o) trivial
end
theorem parse_ok (g cap : Nat) (ts : List TA) (he : Ends ts) (hn : ts.length ≤ 8001) (hk : ∀ i, TokS (tk ts i)) (a : Nat) (ha : a < ts.length) (x : T) (s : St) (hpar : parseM ts a = .ok x s) (w : World) (ht : TsAt w g ts) (hC : ConsAt w) :
    Calls Tryz.prog 25 #[.slice (some ⟨g, 0, none⟩) ts.length cap, .int .i64 (a : Int)] w fun e w' => parR w (.ok x s) e w' ∧ Below w.heap.size w w' := by
  have hgl := ht.lt
  have hcl := hC.2
  have hai : (a : Int) < (ts.length : Int) := by omega
  have hni : (ts.length : Int) ≤ 8001 := by omega
  have hb3 := (((Below.refl w.heap.size w).alloc (Nat.le_refl _) (.cells #[.int .i64 0, .int .i64 0, .string ⟨#[]⟩, .slice none 0 0] 24)).alloc (by simp only [World.size_alloc]; omega) (.cells #[.int .i64 0] 3)).alloc (by simp only [World.size_alloc]; omega) (.cells #[.int .i64 0] 26)
  obtain ⟨W3, hW3⟩ : ∃ W3, W3 = (((w.alloc (.cells #[.int .i64 0, .int .i64 0, .string ⟨#[]⟩, .slice none 0 0] 24)).alloc (.cells #[.int .i64 0] 3)).alloc (.cells #[.int .i64 0] 26)) := ⟨_, rfl⟩
  have hx3 : Bx W3 w.heap.size (.int .i64 0) (.int .i64 0) (.string ⟨#[]⟩) (.slice none 0 0) := by
    rw [hW3]
    exact ((Bx.new w _ _ _ _).keep (Kept.alloc (ok := fun _ => True) _ _) trivial).keep (Kept.alloc (ok := fun _ => True) _ _) trivial
  have hn3 : NB W3 (w.heap.size + 1) 3 (.int .i64 0) := by
    rw [hW3]
    refine NB.alloc ?_ _
    have h := heap_alloc_new (w.alloc (.cells #[.int .i64 0, .int .i64 0, .string ⟨#[]⟩, .slice none 0 0] 24)) (.cells #[.int .i64 0] 3)
    rw [World.size_alloc] at h
    exact h
  have hb3' : NB W3 (w.heap.size + 1 + 1) 26 (.int .i64 0) := by
    rw [hW3]
    have h := heap_alloc_new ((w.alloc (.cells #[.int .i64 0, .int .i64 0, .string ⟨#[]⟩, .slice none 0 0] 24)).alloc (.cells #[.int .i64 0] 3)) (.cells #[.int .i64 0] 26)
    rw [World.size_alloc, World.size_alloc] at h
    exact h
  rw [← hW3] at hb3
  have HIX := Lib.hid (tok_idx g cap ts he hn W3 (ht.below hb3))
  have HB3 := Lib.hid hb3
  have HE := Lib.hid hW3
  have HX3 := Lib.hid hx3
  have HN3 := Lib.hid hn3
  have HBB := Lib.hid hb3'
  have HT := Lib.hid ht
  have HC := Lib.hid hC
  have HEnd := Lib.hid he
  have HK := Lib.hid hk
  have HA := Lib.hid ha
  have HN := Lib.hid hn
  clear hb3 hW3 hx3 hn3 hb3' ht hC he hk ha hn
  go_enter_defers Tryz.func25, Tryz.ntmps25
  go_wp2_with fail
  rw [← HE.out]
  refine HIX.out.mono ?_
  rintro e w4 ⟨rfl, b4⟩
  have hb4 := HB3.out.trans (b4.mono HB3.out.size)
  have hx4 := HX3.out.keep (Kept.of_below (ok := fun _ => True) b4) trivial
  have hn4 := HN3.out.below b4
  have he4 := HBB.out.below b4
  have hz4 : w.heap.size + 1 + 1 < w4.heap.size := he4.lt
  have hb5 := hb4.alloc hb4.size (.cells #[.slice (some ⟨g, 0, none⟩) ts.length cap, .int .i64 (a : Int), .int .i64 0, .int .i64 0] 117)
  have hE : Env w4.heap.size g ts := ⟨by omega, by omega, HN.out, HEnd.out, HK.out⟩
  have h5 : Psr (w4.alloc (.cells #[.slice (some ⟨g, 0, none⟩) ts.length cap, .int .i64 (a : Int), .int .i64 0, .int .i64 0] 117)) w4.heap.size g cap ts.length (a : Int) 0 0 := heap_alloc_new w4 _
  have HLV := Lib.hid ((plevel_all w4.heap.size g cap ts hE FUEL).2 0 (by omega) ⟨a, 0, 0⟩ ⟨HA.out, by simp, by simp⟩ (by unfold need FUEL; simp) _ h5 (HT.out.below hb5) (HC.out.keep (Kept.of_below (ok := fun _ => True) hb5) trivial))
  rw [show lv ts FUEL 0 ⟨a, 0, 0⟩ = .ok x s from hpar] at HLV
  have HB5 := Lib.hid hb5
  have HX5 := Lib.hid (hx4.keep (Kept.alloc (ok := fun _ => True) w4 (.cells #[.slice (some ⟨g, 0, none⟩) ts.length cap, .int .i64 (a : Int), .int .i64 0, .int .i64 0] 117)) trivial)
  have HN5 := Lib.hid (hn4.alloc (.cells #[.slice (some ⟨g, 0, none⟩) ts.length cap, .int .i64 (a : Int), .int .i64 0, .int .i64 0] 117))
  have HE5 := Lib.hid (he4.alloc (.cells #[.slice (some ⟨g, 0, none⟩) ts.length cap, .int .i64 (a : Int), .int .i64 0, .int .i64 0] 117))
  have hne0 : ¬ w.heap.size = w4.heap.size := by omega
  have hne1 : ¬ w.heap.size + 1 = w4.heap.size := by omega
  have hne2 : ¬ w.heap.size + 1 + 1 = w4.heap.size := by omega
  have hmf : ∀ (fn : Fn) (first cap : Array Value) (w : World), (Instr.makeFunc fn first cap).run Tryz.prog w = .ok (.func fn first cap) w := fun _ _ _ _ => rfl
  clear b4 hb4 hx4 hn4 he4 hb5 hE h5
  go_wp2_with fail
  refine HLV.out.mono ?_
  rintro e w6 ⟨o6, q, c, rfl, hfa, h6⟩
  have hx6 := HX5.out.keep o6.kept hne0
  have hn6 := HN5.out.keep o6.kept hne1
  have he6 := HE5.out.keep o6.kept hne2
  have p0 := hx6.c0
  have p1 := hx6.c1
  have p2 := hx6.c2
  have p3 := hx6.c3
  have pf := hx6.fz
  have n0 := hn6.c0
  have nf := hn6.fz
  have b0 := he6.c0
  have bf := he6.fz
  have c1 := h6.c1
  have hB6 := Only.below HB5.out o6 HB5.out.size (by omega)
  have HX6 := Lib.hid hx6
  have HN6 := Lib.hid hn6
  have HE6 := Lib.hid he6
  have HB6 := Lib.hid hB6
  have HFA := Lib.hid hfa
  obtain ⟨W7, hW7⟩ : ∃ W7, W7 = put4 w6 w.heap.size (.int .i64 x.op) (.int .i64 x.num) (.string (S x.text)) (.slice q x.args.len c) := ⟨_, rfl⟩
  have hx7 : Bx W7 w.heap.size (.int .i64 x.op) (.int .i64 x.num) (.string (S x.text)) (.slice q x.args.len c) := by rw [hW7]; exact hx6.put _ _ _ _
  have k7 : Kept (· ≠ w.heap.size) w6 W7 := by rw [hW7]; exact Kept.put w6 w.heap.size _ _ _ _ (by simp)
  have hn7 := hn6.keep k7 (by show w.heap.size + 1 ≠ w.heap.size; omega)
  have he7 := he6.keep k7 (by show w.heap.size + 1 + 1 ≠ w.heap.size; omega)
  have h7 := h6.keep k7 (fun e => hne0 e.symm)
  have hB7 : Below w.heap.size w W7 := by rw [hW7]; exact Below.put hB6 w.heap.size (Nat.le_refl _) _ _ _ _
  have hf7 : FAt W7 (w.heap.size + 1 + 1 < ·) x.args q := by
    refine FAt.mono (fun g hg hk => hk) _ _ ((FAt.mono (ok' := (w.heap.size + 1 + 1 < ·)) (fun g2 hg hk => ?_) _ _ hfa).keep (k7.mono (fun g hg => by show g ≠ w.heap.size; have : w.heap.size + 1 + 1 < g := hg; omega)))
    have h1 : (w4.alloc (.cells #[.slice (some ⟨g, 0, none⟩) ts.length cap, .int .i64 (a : Int), .int .i64 0, .int .i64 0] 117)).heap.size ≤ g2 := hk
    rw [World.size_alloc] at h1
    show w.heap.size + 1 + 1 < g2
    omega
  have r0 := hx7.c0
  have r1 := hx7.c1
  have r2 := hx7.c2
  have r3 := hx7.c3
  have rf := hx7.fz
  have m0 := hn7.c0
  have mf := hn7.fz
  have d0 := he7.c0
  have df := he7.fz
  have a1 := h7.c1
  have HW7 := Lib.hid hW7
  unfold put4 at HW7
  have HX7 := Lib.hid hx7
  have HN7 := Lib.hid hn7
  have HE7 := Lib.hid he7
  have HB7 := Lib.hid hB7
  have HF7 := Lib.hid hf7
  clear o6 hx6 hn6 he6 h6 hB6 hfa HLV hW7 hx7 k7 hn7 he7 h7 hB7 hf7
  unfold exprC
  go_upto_region 7 with fail
  rw [← HW7.out]
  clear p0 p1 p2 p3 pf n0 nf b0 bf c1
  obtain ⟨WF, hWF⟩ : ∃ WF, WF = (((put4 W7 w.heap.size (.int .i64 x.op) (.int .i64 x.num) (.string (S x.text)) (.slice q x.args.len c)).setCell ⟨w.heap.size + 1, 0, none⟩ (.int .i64 s.at_)).setCell ⟨w.heap.size + 1 + 1, 0, none⟩ (.int .i64 0)).drew := ⟨_, rfl⟩
  have hXF : Bx WF w.heap.size (.int .i64 x.op) (.int .i64 x.num) (.string (S x.text)) (.slice q x.args.len c) := by
    rw [hWF]
    refine Bx.drew' ?_
    unfold Bx
    rw [heap_setCell_other _ ⟨w.heap.size + 1 + 1, 0, none⟩ _ _ (by show w.heap.size ≠ w.heap.size + 1 + 1; omega), heap_setCell_other _ ⟨w.heap.size + 1, 0, none⟩ _ _ (by show w.heap.size ≠ w.heap.size + 1; omega)]
    exact HX7.out.put _ _ _ _
  have k8 : Kept (· ≠ w.heap.size) W7 (put4 W7 w.heap.size (.int .i64 x.op) (.int .i64 x.num) (.string (S x.text)) (.slice q x.args.len c)) := Kept.put W7 w.heap.size _ _ _ _ (by simp)
  have hNF : NB WF (w.heap.size + 1) 3 (.int .i64 s.at_) := by
    rw [hWF]
    exact NB.drew (((HN7.out.keep k8 (by show w.heap.size + 1 ≠ w.heap.size; omega)).set _).other _ (by omega))
  have hEF : NB WF (w.heap.size + 1 + 1) 26 (.int .i64 0) := by
    rw [hWF]
    exact NB.drew (((HE7.out.keep k8 (by show w.heap.size + 1 + 1 ≠ w.heap.size; omega)).other _ (by omega)).set _)
  have hF : Below w.heap.size w WF := by
    rw [hWF]
    exact (((Below.put HB7.out w.heap.size (Nat.le_refl _) _ _ _ _).setCell (p := ⟨w.heap.size + 1, 0, none⟩) (by show w.heap.size ≤ w.heap.size + 1; omega) _).setCell (p := ⟨w.heap.size + 1 + 1, 0, none⟩) (by show w.heap.size ≤ w.heap.size + 1 + 1; omega) _).drew
  have hFA : FAt (WF.alloc (.cells #[.int .i64 0, .int .i64 0] 114)) (w.heap.size ≤ ·) x.args q := by
    have kk : Kept (w.heap.size + 1 + 1 < ·) W7 WF := by
      rw [hWF]
      refine Kept.trans (k8.mono (fun g2 hg => by show g2 ≠ w.heap.size; have : w.heap.size + 1 + 1 < g2 := hg; omega)) ?_
      exact Kept.drew' ((Kept.set (ok := (w.heap.size + 1 + 1 < ·)) _ (w.heap.size + 1) 0 _ (by show ¬ w.heap.size + 1 + 1 < w.heap.size + 1; omega)).trans (Kept.set (ok := (w.heap.size + 1 + 1 < ·)) _ (w.heap.size + 1 + 1) 0 _ (by show ¬ w.heap.size + 1 + 1 < w.heap.size + 1 + 1; omega)))
    exact FAt.mono (fun g2 _ hg => by have : w.heap.size + 1 + 1 < g2 := hg; show w.heap.size ≤ g2; omega) _ _ ((HF7.out.keep kk).keep (Kept.alloc WF _))
  have HWF := Lib.hid hWF
  unfold put4 at HWF
  have HXF := Lib.hid (hXF.keep (Kept.alloc (ok := fun _ => True) WF (.cells #[.int .i64 0, .int .i64 0] 114)) trivial)
  have HNF := Lib.hid (hNF.alloc (.cells #[.int .i64 0, .int .i64 0] 114))
  have HEF := Lib.hid (hEF.alloc (.cells #[.int .i64 0, .int .i64 0] 114))
  have HF := Lib.hid (hF.alloc hF.size (.cells #[.int .i64 0, .int .i64 0] 114))
  have HFA := Lib.hid hFA
  clear hWF hXF k8 hNF hEF hF hFA
  go_region
  all_goals
    rw [← HWF.out]
    simp only [Exit.then]
    go_wp2_with fail
    simp only [bodyPostD]
    refine leaves_cons (f := 47) (args := #[.pointer (some ⟨w.heap.size + 1, 0, none⟩), .pointer (some ⟨w.heap.size + 1 + 1, 0, none⟩)]) (by simp) (by simp [go_sem]) ?_
    refine (stop_idle (w.heap.size + 1) (w.heap.size + 1 + 1) _).mono ?_
    rintro e u' w'' ⟨rfl, rfl, rfl⟩
    have e0 := HXF.out.c0
    have e1 := HXF.out.c1
    have e2 := HXF.out.c2
    have e3 := HXF.out.c3
    have e4 := HNF.out.c0
    have e5 := HEF.out.c0
    simp only [settle, Leaves]
    refine ⟨.tuple #[.agg #[.int .i64 x.op, .int .i64 x.num, .string (S x.text), .slice q x.args.len c], .int .i64 (s.at_ : Int), .int .i64 0], ?_, ⟨q, c, rfl, HFA.out⟩, HF.out⟩
    simp [results, Tryz.results25, e0, e1, e2, e3, e4, e5, go_sem]
theorem parse_no (g cap : Nat) (ts : List TA) (he : Ends ts) (hn : ts.length ≤ 8001) (hk : ∀ i, TokS (tk ts i)) (a : Nat) (ha : a < ts.length) (er j : Nat) (her : er ≠ 0) (hpar : parseM ts a = .bad er j) (w : World) (ht : TsAt w g ts) (hC : ConsAt w) :
    Calls Tryz.prog 25 #[.slice (some ⟨g, 0, none⟩) ts.length cap, .int .i64 (a : Int)] w fun e w' => parR w (.bad er j) e w' ∧ Below w.heap.size w w' := by
  have hgl := ht.lt
  have hcl := hC.2
  have hai : (a : Int) < (ts.length : Int) := by omega
  have hni : (ts.length : Int) ≤ 8001 := by omega
  have hb3 := (((Below.refl w.heap.size w).alloc (Nat.le_refl _) (.cells #[.int .i64 0, .int .i64 0, .string ⟨#[]⟩, .slice none 0 0] 24)).alloc (by simp only [World.size_alloc]; omega) (.cells #[.int .i64 0] 3)).alloc (by simp only [World.size_alloc]; omega) (.cells #[.int .i64 0] 26)
  obtain ⟨W3, hW3⟩ : ∃ W3, W3 = (((w.alloc (.cells #[.int .i64 0, .int .i64 0, .string ⟨#[]⟩, .slice none 0 0] 24)).alloc (.cells #[.int .i64 0] 3)).alloc (.cells #[.int .i64 0] 26)) := ⟨_, rfl⟩
  have hx3 : Bx W3 w.heap.size (.int .i64 0) (.int .i64 0) (.string ⟨#[]⟩) (.slice none 0 0) := by
    rw [hW3]
    exact ((Bx.new w _ _ _ _).keep (Kept.alloc (ok := fun _ => True) _ _) trivial).keep (Kept.alloc (ok := fun _ => True) _ _) trivial
  have hn3 : NB W3 (w.heap.size + 1) 3 (.int .i64 0) := by
    rw [hW3]
    refine NB.alloc ?_ _
    have h := heap_alloc_new (w.alloc (.cells #[.int .i64 0, .int .i64 0, .string ⟨#[]⟩, .slice none 0 0] 24)) (.cells #[.int .i64 0] 3)
    rw [World.size_alloc] at h
    exact h
  have hb3' : NB W3 (w.heap.size + 1 + 1) 26 (.int .i64 0) := by
    rw [hW3]
    have h := heap_alloc_new ((w.alloc (.cells #[.int .i64 0, .int .i64 0, .string ⟨#[]⟩, .slice none 0 0] 24)).alloc (.cells #[.int .i64 0] 3)) (.cells #[.int .i64 0] 26)
    rw [World.size_alloc, World.size_alloc] at h
    exact h
  rw [← hW3] at hb3
  have HIX := Lib.hid (tok_idx g cap ts he hn W3 (ht.below hb3))
  have HB3 := Lib.hid hb3
  have HE := Lib.hid hW3
  have HX3 := Lib.hid hx3
  have HN3 := Lib.hid hn3
  have HBB := Lib.hid hb3'
  have HT := Lib.hid ht
  have HC := Lib.hid hC
  have HEnd := Lib.hid he
  have HK := Lib.hid hk
  have HA := Lib.hid ha
  have HN := Lib.hid hn
  clear hb3 hW3 hx3 hn3 hb3' ht hC he hk ha hn
  go_enter_defers Tryz.func25, Tryz.ntmps25
  go_wp2_with fail
  rw [← HE.out]
  refine HIX.out.mono ?_
  rintro e w4 ⟨rfl, b4⟩
  have hb4 := HB3.out.trans (b4.mono HB3.out.size)
  have hx4 := HX3.out.keep (Kept.of_below (ok := fun _ => True) b4) trivial
  have hn4 := HN3.out.below b4
  have he4 := HBB.out.below b4
  have hz4 : w.heap.size + 1 + 1 < w4.heap.size := he4.lt
  have hb5 := hb4.alloc hb4.size (.cells #[.slice (some ⟨g, 0, none⟩) ts.length cap, .int .i64 (a : Int), .int .i64 0, .int .i64 0] 117)
  have hE : Env w4.heap.size g ts := ⟨by omega, by omega, HN.out, HEnd.out, HK.out⟩
  have h5 : Psr (w4.alloc (.cells #[.slice (some ⟨g, 0, none⟩) ts.length cap, .int .i64 (a : Int), .int .i64 0, .int .i64 0] 117)) w4.heap.size g cap ts.length (a : Int) 0 0 := heap_alloc_new w4 _
  have HLV := Lib.hid ((plevel_all w4.heap.size g cap ts hE FUEL).2 0 (by omega) ⟨a, 0, 0⟩ ⟨HA.out, by simp, by simp⟩ (by unfold need FUEL; simp) _ h5 (HT.out.below hb5) (HC.out.keep (Kept.of_below (ok := fun _ => True) hb5) trivial))
  rw [show lv ts FUEL 0 ⟨a, 0, 0⟩ = .bad er j from hpar] at HLV
  have HB5 := Lib.hid hb5
  have HX5 := Lib.hid (hx4.keep (Kept.alloc (ok := fun _ => True) w4 (.cells #[.slice (some ⟨g, 0, none⟩) ts.length cap, .int .i64 (a : Int), .int .i64 0, .int .i64 0] 117)) trivial)
  have HN5 := Lib.hid (hn4.alloc (.cells #[.slice (some ⟨g, 0, none⟩) ts.length cap, .int .i64 (a : Int), .int .i64 0, .int .i64 0] 117))
  have HE5 := Lib.hid (he4.alloc (.cells #[.slice (some ⟨g, 0, none⟩) ts.length cap, .int .i64 (a : Int), .int .i64 0, .int .i64 0] 117))
  have hne0 : ¬ w.heap.size = w4.heap.size := by omega
  have hne1 : ¬ w.heap.size + 1 = w4.heap.size := by omega
  have hne2 : ¬ w.heap.size + 1 + 1 = w4.heap.size := by omega
  have hmf : ∀ (fn : Fn) (first cap : Array Value) (w : World), (Instr.makeFunc fn first cap).run Tryz.prog w = .ok (.func fn first cap) w := fun _ _ _ _ => rfl
  clear b4 hb4 hx4 hn4 he4 hb5 hE h5
  go_wp2_with fail
  refine HLV.out.mono ?_
  rintro e w6 ⟨o6, rfl⟩
  have hx6 := HX5.out.keep o6.kept hne0
  have hn6 := HN5.out.keep o6.kept hne1
  have he6 := HE5.out.keep o6.kept hne2
  have n0 := hn6.c0
  have nf := hn6.fz
  have b0 := he6.c0
  have bf := he6.fz
  have hB6 := Only.below HB5.out o6 HB5.out.size (by omega)
  have hF : Below w.heap.size w ((((w6.setCell ⟨w.heap.size + 1, 0, none⟩ (.int .i64 j)).setCell ⟨w.heap.size + 1 + 1, 0, none⟩ (.int .i64 er)).alloc (.cells #[.int .i64 j, .int .i64 er] 114)).drew) :=
    (((hB6.setCell (p := ⟨w.heap.size + 1, 0, none⟩) (by show w.heap.size ≤ w.heap.size + 1; omega) _).setCell (p := ⟨w.heap.size + 1 + 1, 0, none⟩) (by show w.heap.size ≤ w.heap.size + 1 + 1; omega) _).alloc (by have := hB6.size; simp; omega) _).drew
  have hXF : Bx ((((w6.setCell ⟨w.heap.size + 1, 0, none⟩ (.int .i64 j)).setCell ⟨w.heap.size + 1 + 1, 0, none⟩ (.int .i64 er)).alloc (.cells #[.int .i64 j, .int .i64 er] 114)).drew) w.heap.size (.int .i64 0) (.int .i64 0) (.string ⟨#[]⟩) (.slice none 0 0) := by
    show Bx (((w6.setCell ⟨w.heap.size + 1, 0, none⟩ (.int .i64 j)).setCell ⟨w.heap.size + 1 + 1, 0, none⟩ (.int .i64 er)).alloc (.cells #[.int .i64 j, .int .i64 er] 114)) w.heap.size _ _ _ _
    refine Bx.keep ?_ (Kept.alloc (ok := fun _ => True) _ _) trivial
    unfold Bx
    rw [heap_setCell_other _ ⟨w.heap.size + 1 + 1, 0, none⟩ _ _ (by show w.heap.size ≠ w.heap.size + 1 + 1; omega), heap_setCell_other _ ⟨w.heap.size + 1, 0, none⟩ _ _ (by show w.heap.size ≠ w.heap.size + 1; omega)]
    exact hx6
  have hNF : NB ((((w6.setCell ⟨w.heap.size + 1, 0, none⟩ (.int .i64 j)).setCell ⟨w.heap.size + 1 + 1, 0, none⟩ (.int .i64 er)).alloc (.cells #[.int .i64 j, .int .i64 er] 114)).drew) (w.heap.size + 1) 3 (.int .i64 j) :=
    show NB (((w6.setCell ⟨w.heap.size + 1, 0, none⟩ (.int .i64 j)).setCell ⟨w.heap.size + 1 + 1, 0, none⟩ (.int .i64 er)).alloc (.cells #[.int .i64 j, .int .i64 er] 114)) _ _ _ from NB.alloc ((hn6.set _).other _ (by omega)) _
  have hEF : NB ((((w6.setCell ⟨w.heap.size + 1, 0, none⟩ (.int .i64 j)).setCell ⟨w.heap.size + 1 + 1, 0, none⟩ (.int .i64 er)).alloc (.cells #[.int .i64 j, .int .i64 er] 114)).drew) (w.heap.size + 1 + 1) 26 (.int .i64 er) :=
    show NB (((w6.setCell ⟨w.heap.size + 1, 0, none⟩ (.int .i64 j)).setCell ⟨w.heap.size + 1 + 1, 0, none⟩ (.int .i64 er)).alloc (.cells #[.int .i64 j, .int .i64 er] 114)) _ _ _ from NB.alloc ((he6.other _ (by omega)).set _) _
  have HF := Lib.hid hF
  have HXF := Lib.hid hXF
  have HNF := Lib.hid hNF
  have HEF := Lib.hid hEF
  have HER := Lib.hid her
  clear o6 hx6 hn6 he6 hB6 hF hXF hNF hEF HLV her
  unfold panS
  go_wp2_with fail
  simp only [bodyPostD]
  refine leaves_cons (f := 47) (args := #[.pointer (some ⟨w.heap.size + 1, 0, none⟩), .pointer (some ⟨w.heap.size + 1 + 1, 0, none⟩)]) (by simp) (by simp [go_sem]) ?_
  refine (stop_panicking (w.heap.size + 1) (w.heap.size + 1 + 1) (by omega) (j : Int) (er : Int) 0 0 [] _ n0 b0 nf bf).mono ?_
  rintro e u' w'' ⟨rfl, rfl, rfl⟩
  have e0 := HXF.out.c0
  have e1 := HXF.out.c1
  have e2 := HXF.out.c2
  have e3 := HXF.out.c3
  have e4 := HNF.out.c0
  have e5 := HEF.out.c0
  simp only [settle, Leaves, List.dropWhile_nil]
  refine ⟨.tuple #[.agg #[.int .i64 0, .int .i64 0, .string ⟨#[]⟩, .slice none 0 0], .int .i64 (j : Int), .int .i64 (er : Int)], ?_, ⟨HER.out, rfl⟩, HF.out⟩
  simp [results, Tryz.results25, e0, e1, e2, e3, e4, e5, go_sem]
theorem pparse_any (g cap : Nat) (ts : List TA) (he : Ends ts) (hn : ts.length ≤ 8001) (hk : ∀ i, TokS (tk ts i)) (a : Nat) (ha : a < ts.length) (w : World) (ht : TsAt w g ts) (hC : ConsAt w) :
    Calls Tryz.prog 25 #[.slice (some ⟨g, 0, none⟩) ts.length cap, .int .i64 (a : Int)] w fun e w' => parR w (parseM ts a) e w' ∧ Below w.heap.size w w' := by
  cases hr : parseM ts a with
  | ok x s => exact parse_ok g cap ts he hn hk a ha x s hr w ht hC
  | bad er j =>
    refine parse_no g cap ts he hn hk a ha er j ?_ hr w ht hC
    have h := (lv_bad he FUEL 0 (by omega) ⟨a, 0, 0⟩ er j ⟨ha, by simp, by simp⟩ (by unfold need FUEL; simp) hr).1
    omega
end Go.Proofs.YtlmmfhbdebfgkaaGreatDoor.Ex
