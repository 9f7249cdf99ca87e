/-
  ExBad, ExPsY, ExPsZ, ExPsQ, ExPsQb, ExRefS, ExRefZ.
-/
import Derived.Test.YtlmmfhbdebfgkaaGreatDoorYExPureQ
import Derived.Test.YtlmmfhbdebfgkaaGreatDoorYExPsX
import Derived.Test.YtlmmfhbdebfgkaaGreatDoorYExPsAQ
import Derived.Test.YtlmmfhbdebfgkaaGreatDoorYExRdgQ
import Derived.Tactics
import Derived.Tactics2
import Derived.Defers
import Derived.Recover
import Derived.Laws.Pointers
import Derived.RowKit3
import Derived.RegionDies
import Derived.Deep.RegionHeld3
import Derived.Deep.QuietTactic
namespace Go.Proofs.YtlmmfhbdebfgkaaGreatDoor.Ex
open Lx
set_option linter.unusedVariables false
set_option linter.unusedSimpArgs false
def Er (ts : List TA) (e a : Nat) : Prop := (e = 25 ∨ e = 26 ∨ e = 27) ∧ a < ts.length
def RecE (ts : List TA) (o : Nat) (rec : St → R) : Prop := ∀ s e a, StOk ts s → s.open_ = o → rec s = .bad e a → Er ts e a
theorem then_bad {r : R} {k : T → St → R} {e a : Nat} (h : r.then k = .bad e a) : r = .bad e a ∨ ∃ x s1, r = .ok x s1 ∧ k x s1 = .bad e a := by
  cases r with
  | ok x s1 => exact .inr ⟨x, s1, rfl, h⟩
  | bad e' a' => cases h; exact .inl rfl
theorem leaf_bad {ts : List TA} {o n : Int} {t : List UInt8} {s : St} {e a : Nat} (hs : s.at_ < ts.length) (h : leafR o n t s = .bad e a) : Er ts e a := by
  unfold leafR at h
  split at h
  · cases h; exact ⟨by simp, hs⟩
  · cases h
theorem leave_bad {ts : List TA} {g : List UInt8} {x : T} {s : St} {e a : Nat} (hs : s.at_ < ts.length) (h : leaveR ts g x s = .bad e a) : Er ts e a := by
  unfold leaveR at h
  split at h
  · cases h
  · cases h; exact ⟨by simp, hs⟩
theorem enter_bad {ts : List TA} (he : Ends ts) {k : St → R} {s : St} {e a : Nat} (hs : StOk ts s) (hk : (tk ts s.at_).kind ≠ 0) (h : enterR s k = .bad e a) :
    Er ts e a ∨ (StOk ts ⟨s.at_ + 1, s.n + 1, s.open_ + 1⟩ ∧ k ⟨s.at_ + 1, s.n + 1, s.open_ + 1⟩ = .bad e a) := by
  unfold enterR at h
  split at h
  · cases h; exact .inl ⟨by simp, hs.at_⟩
  · split at h
    · cases h; exact .inl ⟨by simp, hs.at_⟩
    · have := he.next hs.at_ hk
      have := hs.n
      have := hs.op
      exact .inr ⟨⟨by simpa using by omega, by simp; omega, by simp; omega⟩, h⟩
theorem loop_bad {ts : List TA} (he : Ends ts) {rec : St → R} (hr : RecOk ts rec) {o : Nat} (hq : RecE ts o rec) {n : Nat} : ∀ (k : Nat) (x : T) (s : St) (e a : Nat), StOk ts s → s.open_ = o → loopR rec ts n k x s = .bad e a → Er ts e a
  | 0, x, s, e, a, hs, ho, h => by cases h
  | k + 1, x, s, e, a, hs, ho, h => by
    unfold loopR at h
    split at h
    · cases h
    · rename_i op turned hop
      split at h
      · cases h; exact ⟨by simp, hs.at_⟩
      · have hn := he.next hs.at_ (by rw [opAt_kind hop]; decide)
        have h3 := hs.n
        have ha : StOk ts ⟨s.at_ + 1, s.n + 1, s.open_⟩ := ⟨hn, by simp; omega, hs.op⟩
        rcases then_bad h with h1 | ⟨y, s2, h1, h2⟩
        · exact hq _ _ _ ha ho h1
        · have hb := hr _ _ _ ha h1
          split at h2
          · cases h2
          · exact loop_bad he hr hq k _ s2 e a (hb.ok hs.op) (by rw [hb.op]; exact ho) h2
theorem args_bad {ts : List TA} (he : Ends ts) {rec : St → R} (hr : RecOk ts rec) {o : Nat} (hq : RecE ts o rec) {op : Int} : ∀ (k : Nat) (acc : F) (s : St) (e a : Nat), StOk ts s → s.open_ = o → argsR rec ts op k acc s = .bad e a → Er ts e a
  | 0, acc, s, e, a, hs, ho, h => leave_bad hs.at_ h
  | k + 1, acc, s, e, a, hs, ho, h => by
    unfold argsR at h
    split at h
    · rename_i hi
      have hn := he.next hs.at_ (isS_ne hi)
      have ha : StOk ts ⟨s.at_ + 1, s.n, s.open_⟩ := ⟨hn, hs.n, hs.op⟩
      rcases then_bad h with h1 | ⟨y, s2, h1, h2⟩
      · exact hq _ _ _ ha ho h1
      · have hb := hr _ _ _ ha h1
        exact args_bad he hr hq k _ s2 e a (hb.ok hs.op) (by rw [hb.op]; exact ho) h2
    · cases h; exact ⟨by simp, hs.at_⟩
theorem elems_bad {ts : List TA} (he : Ends ts) {rec : St → R} (hr : RecOk ts rec) {o : Nat} (hq : RecE ts o rec) : ∀ (k : Nat) (acc : F) (s : St) (e a : Nat), StOk ts s → s.open_ = o → elemsR rec ts k acc s = .bad e a → Er ts e a
  | 0, acc, s, e, a, hs, ho, h => by cases h; exact ⟨by simp, hs.at_⟩
  | k + 1, acc, s, e, a, hs, ho, h => by
    unfold elemsR at h
    split at h
    · cases h
    · split at h
      · rcases then_bad h with h1 | ⟨y, s2, h1, h2⟩
        · exact hq _ _ _ hs ho h1
        · have hb := hr _ _ _ hs h1
          exact elems_bad he hr hq k _ s2 e a (hb.ok hs.op) (by rw [hb.op]; exact ho) h2
      · split at h
        · rename_i hi
          have hn := he.next hs.at_ (isS_ne hi)
          split at h
          · split at h
            · cases h; exact ⟨by simp, hn⟩
            · cases h; exact ⟨by simp, hn⟩
          · have ha : StOk ts ⟨s.at_ + 1, s.n, s.open_⟩ := ⟨hn, hs.n, hs.op⟩
            rcases then_bad h with h1 | ⟨y, s2, h1, h2⟩
            · exact hq _ _ _ ha ho h1
            · have hb := hr _ _ _ ha h1
              exact elems_bad he hr hq k _ s2 e a (hb.ok hs.op) (by rw [hb.op]; exact ho) h2
        · cases h; exact ⟨by simp, hs.at_⟩
theorem call_bad {ts : List TA} (he : Ends ts) {rec : St → R} (hr : RecOk ts rec) {op : Int} {n : Nat} {s : St} (hq : RecE ts (s.open_ + 1) rec) {e a : Nat} (hs : StOk ts s) (hk : (tk ts s.at_).kind ≠ 0) (h : callR rec ts op n s = .bad e a) : Er ts e a := by
  have hn := he.next hs.at_ hk
  unfold callR at h
  split at h
  · rename_i hi
    rcases enter_bad he (⟨hn, hs.n, hs.op⟩ : StOk ts ⟨s.at_ + 1, s.n, s.open_⟩) (isS_ne hi) h with h1 | ⟨ho1, h1⟩
    · exact h1
    · rcases then_bad h1 with h2 | ⟨y, s2, h2, h3⟩
      · exact hq _ _ _ ho1 rfl h2
      · have hb := hr _ _ _ ho1 h2
        exact args_bad he hr hq _ _ s2 e a (hb.ok ho1.op) hb.op h3
  · cases h; exact ⟨by simp, hn⟩
theorem field_bad {ts : List TA} (he : Ends ts) {s : St} {e a : Nat} (hs : StOk ts s) (hk : (tk ts s.at_).kind ≠ 0) (h : fieldR ts s = .bad e a) : Er ts e a := by
  have hn := he.next hs.at_ hk
  unfold fieldR at h
  split at h
  · rename_i hi
    have hn2 := he.next hn (isS_ne hi)
    split at h
    · exact leaf_bad hn2 h
    · cases h; exact ⟨by simp, hn2⟩
  · cases h; exact ⟨by simp, hn⟩
theorem group_bad {ts : List TA} (he : Ends ts) {rec : St → R} (hr : RecOk ts rec) {s : St} (hq : RecE ts (s.open_ + 1) rec) {e a : Nat} (hs : StOk ts s) (hk : (tk ts s.at_).kind ≠ 0) (h : groupR rec ts s = .bad e a) : Er ts e a := by
  unfold groupR at h
  split at h
  · cases h; exact ⟨by simp, hs.at_⟩
  · rename_i ho
    have hn := he.next hs.at_ hk
    have hop := hs.op
    have hs1 : StOk ts ⟨s.at_ + 1, s.n, s.open_ + 1⟩ := ⟨hn, hs.n, by simp; omega⟩
    rcases then_bad h with h1 | ⟨y, s2, h1, h2⟩
    · exact hq _ _ _ hs1 rfl h1
    · exact leave_bad (hr _ _ _ hs1 h1).lt h2
theorem prim_bad {ts : List TA} (he : Ends ts) {rec : St → R} (hr : RecOk ts rec) {s : St} (hq : RecE ts (s.open_ + 1) rec) {e a : Nat} (hs : StOk ts s) (h : primR rec ts s = .bad e a) : Er ts e a := by
  unfold primR at h
  split at h
  · rename_i hk
    have hk0 : (tk ts s.at_).kind ≠ 0 := by rw [hk]; decide
    unfold wordR at h
    repeat' split at h
    all_goals first | exact call_bad he hr hq hs hk0 h | exact field_bad he hs hk0 h | exact leaf_bad hs.at_ h
  · repeat' split at h
    all_goals first
      | exact leaf_bad hs.at_ h
      | (rename_i hi; exact group_bad he hr hq hs (isS_ne hi) h)
      | (rename_i hi
         rcases enter_bad he hs (isS_ne hi) h with h1 | ⟨ho1, h1⟩
         · exact h1
         · exact elems_bad he hr hq _ _ _ e a ho1 rfl h1)
      | (cases h; exact ⟨by simp, hs.at_⟩)
theorem lv_bad {ts : List TA} (he : Ends ts) : ∀ (f n : Nat), n ≤ 5 → ∀ (s : St) (e a : Nat), StOk ts s → need n s < f → lv ts f n s = .bad e a → Er ts e a
  | 0, n, _, s, e, a, hs, hf, h => by omega
  | f + 1, n, hn5, s, e, a, hs, hf, h => by
    unfold need at hf
    unfold lv at h
    split at h
    · rename_i h5
      split at h
      · rename_i op ho
        rcases enter_bad he hs (by rw [unAt_kind ho]; decide) h with h1 | ⟨ho1, h1⟩
        · exact h1
        · rcases then_bad h1 with h2 | ⟨x, s2, h2, h3⟩
          · refine lv_bad he f 5 (by omega) _ e a ho1 ?_ h2
            have := ho1.op
            unfold need
            simp only at this ⊢
            omega
          · cases h3
      · refine prim_bad he (lv_st he f 0) ?_ hs h
        intro s1 e1 a1 hs1 ho1 h1
        refine lv_bad he f 0 (by omega) s1 e1 a1 hs1 ?_ h1
        have := hs1.op
        unfold need
        omega
    · rename_i h5
      rcases then_bad h with h1 | ⟨x, s1, h1, h2⟩
      · refine lv_bad he f (n + 1) (by omega) s e a hs ?_ h1
        unfold need; omega
      · have hb := lv_st he f (n + 1) _ _ _ hs h1
        refine loop_bad he (lv_st he f (n + 1)) (o := s.open_) ?_ _ _ _ _ _ (hb.ok hs.op) hb.op h2
        intro s3 e1 a1 hs3 ho3 h3
        refine lv_bad he f (n + 1) (by omega) s3 e1 a1 hs3 ?_ h3
        unfold need
        rw [ho3]; omega
theorem parse_bad {ts : List TA} (he : Ends ts) {e a : Nat} (h : parseM ts 0 = .bad e a) : Er ts e a :=
  lv_bad he FUEL 0 (by omega) ⟨0, 0, 0⟩ e a ⟨he.pos, by simp, by simp⟩ (by unfold need FUEL; simp) h
theorem lv_none {ts : List TA} : ∀ (f n : Nat), n ≤ 5 → ∀ (s : St), s.open_ ≤ 20 → need n s < f → begins ts s.at_ = false → lv ts f n s = .bad 25 s.at_
  | 0, n, _, s, _, hf, h => by omega
  | f + 1, n, hn5, s, ho, hf, h => by
    unfold need at hf
    by_cases h5 : n = 5
    · have hb := h
      unfold begins at hb
      simp only [Bool.or_eq_false_iff, decide_eq_false_iff_not] at hb
      obtain ⟨⟨⟨⟨h1, h2⟩, h3⟩, h4⟩, h6⟩ := hb
      have hu : unAt (tk ts s.at_) = none := by
        unfold unAt
        split
        · rename_i hk
          rw [if_neg, if_neg]
          · intro e; unfold isS at h6; rw [hk, e] at h6; simp at h6
          · intro e; unfold isS at h4; rw [hk, e] at h4; simp at h4
        · rfl
      rw [lv, if_pos h5, hu]
      show primR _ ts s = _
      unfold primR
      rw [if_neg (by omega), if_neg (by omega), if_neg (by omega), if_neg (by omega), h2, h3]
      rfl
    · rw [lv, if_neg h5, lv_none f (n + 1) (by omega) s ho (by unfold need; omega) h]
      rfl
end Go.Proofs.YtlmmfhbdebfgkaaGreatDoor.Ex
namespace Go.Proofs.YtlmmfhbdebfgkaaGreatDoor.Ex
open Go.RowKit
open Lx Va
set_option linter.unusedVariables false
set_option linter.unusedSimpArgs false
theorem plevel_all (b g cap : Nat) (ts : List TA) (hE : Env b g ts) : ∀ f : Nat,
    (∀ s : St, StOk ts s → need 5 s < f → ∀ w, Psr w b g cap ts.length s.at_ s.n s.open_ → TsAt w g ts → ConsAt w → Calls Tryz.prog 78 #[.pointer (some ⟨b, 0, none⟩)] w fun e w' => ResP b g cap ts w (lv ts f 5 s) e w') ∧
    (∀ n : Nat, n ≤ 5 → ∀ s : St, StOk ts s → need n s < f → ∀ w, Psr w b g cap ts.length s.at_ s.n s.open_ → TsAt w g ts → ConsAt w → Calls Tryz.prog 48 #[.pointer (some ⟨b, 0, none⟩), .int .i64 (n : Int)] w fun e w' => ResP b g cap ts w (lv ts f n s) e w')
  | 0 => ⟨fun s _ h => absurd h (by omega), fun n _ s _ h => absurd h (by omega)⟩
  | f + 1 => by
    obtain ⟨IU, IL⟩ := plevel_all b g cap ts hE f
    have hU : ∀ s : St, StOk ts s → need 5 s < f + 1 → ∀ w, Psr w b g cap ts.length s.at_ s.n s.open_ → TsAt w g ts → ConsAt w → Calls Tryz.prog 78 #[.pointer (some ⟨b, 0, none⟩)] w fun e w' => ResP b g cap ts w (lv ts (f + 1) 5 s) e w' := by
      intro s hs hnd w h ht hC
      unfold need at hnd
      have e : lv ts (f + 1) 5 s = unaryR (lv ts f 5) (lv ts f 0) ts s := by
        rw [lv, if_pos rfl]; rfl
      rw [e]
      refine punary_any b g cap ts hE s w h ht hC hs (lv ts f 5) (lv ts f 0) (lv_st hE.ends f 5) (lv_st hE.ends f 0) ?_ ?_ ?_
      · intro s1 hs1 ho w1 k1 k2 k3
        refine IU s1 hs1 ?_ w1 k1 k2 k3
        have := hs1.op
        unfold need
        omega
      · intro s1 hs1 ho w1 k1 k2 k3
        refine IL 0 (by omega) s1 hs1 ?_ w1 k1 k2 k3
        have := hs1.op
        unfold need
        omega
      · intro s1 hs1 ho hb
        refine lv_none f 0 (by omega) s1 hs1.op ?_ hb
        have := hs1.op
        unfold need
        omega
    refine ⟨hU, fun n hn5 s hs hnd w h ht hC => ?_⟩
    by_cases h5 : n = 5
    · subst h5
      exact plevel_5 b g cap ts s _ w h ht hC (fun w1 k1 k2 k3 => hU s hs hnd w1 k1 k2 k3)
    · have hL := plevel_lo b g cap ts hE (lv ts f (n + 1)) (lv_st hE.ends f (n + 1)) n (by omega) s w h ht hC hs (fun s1 hs1 ho w1 k1 k2 k3 => by
        have e : ((n : Int) + 1) = ((n + 1 : Nat) : Int) := by omega
        rw [e]
        refine IL (n + 1) (by omega) s1 hs1 ?_ w1 k1 k2 k3
        unfold need at hnd ⊢
        rw [ho]
        omega)
      have e2 : lv ts (f + 1) n s = (lv ts f (n + 1) s).then fun x s1 => loopR (lv ts f (n + 1)) ts n 201 x s1 := by
        rw [lv, if_neg h5]
      rw [e2]
      exact hL
end Go.Proofs.YtlmmfhbdebfgkaaGreatDoor.Ex
namespace Go.Proofs.YtlmmfhbdebfgkaaGreatDoor.Ex
open Go.RowKit
open Lx Va
set_option linter.unusedVariables false
set_option linter.unusedSimpArgs false
set_option maxRecDepth 100000 in
set_option maxHeartbeats 2000000 in
theorem tok_clos (t : TA) (w : World) : Calls Tryz.prog 46 #[tokC t] w fun e w' => e = .returned (.bool (t.kind == 0)) ∧ Below w.heap.size w w' := by
  unfold tokC
  have HB := Lib.hid ((Below.refl w.heap.size w).alloc (Nat.le_refl _) (.cells #[.int .i64 t.kind, .string (S t.text), .int .i64 t.num, .int .i64 (t.at_ : Int)] 79))
  go_enter Tryz.func46, Tryz.ntmps46
  go_wp2_with fail
  go_ret
  exact ⟨rfl, HB.out⟩
set_option maxRecDepth 100000 in
set_option maxHeartbeats 4000000 in
theorem tok_idx (g cap : Nat) (ts : List TA) (hE : Ends ts) (hn : ts.length ≤ 8001) (w : World) (ht : TsAt w g ts) :
    Calls Tryz.prog 45 #[.slice (some ⟨g, 0, none⟩) ts.length cap, .func (.func 46) #[] #[]] w fun e w' => e = .returned (.int .i64 ((ts.length : Int) - 1)) ∧ Below w.heap.size w w' := by
  have hki : (ts.length : Int) ≤ 8001 := by omega
  have HT := Lib.hid ht
  have HE := Lib.hid hE
  have hpos := hE.pos
  clear ht hE
  go_enter Tryz.func45, Tryz.ntmps45
  go_wp2_with fail
  go_loopw [5, 8] (fun _ iv wr => ∃ k : Nat, k < ts.length ∧ iv = .int .i64 k ∧ Below w.heap.size w wr) (fun _ iv _ => ts.length - (intOf iv).toNat)
  case atStart => exact ⟨0, hpos, rfl, Below.refl _ _⟩
  case round =>
    obtain ⟨k, hlt, rfl, bw⟩ := hrel
    have BW := Lib.hid bw
    have hlti : (k : Int) < (ts.length : Int) := by omega
    have ht := HT.out.below bw
    obtain ⟨f0, f1, f2, f3⟩ := ht.tok hlt
    have HC := Lib.hid (tok_clos (tk ts k) wr)
    unfold tokC at HC
    have hk0 : ((tk ts k).kind == 0) = decide (k + 1 = ts.length) := by
      by_cases e : k + 1 = ts.length
      · have : k = ts.length - 1 := by omega
        rw [this, HE.out.last]
        simp; omega
      · have := HE.out.mid k (by omega)
        simp [this, e]
    clear ht bw
    by_cases hl : k + 1 = ts.length
    · rw [hk0, decide_eq_true hl] at HC
      have HL := Lib.hid hl
      clear hk0 hl
      go_wp2_with fail
      refine HC.out.mono ?_
      rintro e w1 ⟨rfl, b1⟩
      have B1 := Lib.hid (BW.out.trans (b1.mono BW.out.size))
      clear b1
      go_wp2_with fail
      go_ret
      refine ⟨?_, B1.out⟩
      have := HL.out
      rw [show (k : Int) = (ts.length : Int) - 1 by omega]
      rfl
    · rw [hk0, decide_eq_false hl] at HC
      have HL := Lib.hid hl
      clear hk0 hl
      go_wp2_with fail
      refine HC.out.mono ?_
      rintro e w1 ⟨rfl, b1⟩
      have B1 := Lib.hid (BW.out.trans (b1.mono BW.out.size))
      clear b1
      go_wp2_with fail
      go_roundw
      case rel => exact ⟨k + 1, by have := HL.out; omega, by go_num, B1.out⟩
      case measure => simp [intOf]; omega
end Go.Proofs.YtlmmfhbdebfgkaaGreatDoor.Ex
namespace Go.Proofs.YtlmmfhbdebfgkaaGreatDoor.Ex
open Go.RowKit
open Lx Va
set_option linter.unusedVariables false
set_option linter.unusedSimpArgs false
theorem run_stop (v : Value) (xT : TypeId) (w : World) : (Instr.typeAssert (.iface 114 v) xT 114 true).run Tryz.prog w = .ok (.tuple #[v, .bool true]) w := by
  simp [Instr.typeAssert, run_underlying Tryz.underlying114, go_sem, Result.andThen]
set_option maxRecDepth 100000 in
set_option maxHeartbeats 2000000 in
theorem stop_idle (p q : Nat) (w : World) :
    CallsD Tryz.prog 47 #[.pointer (some ⟨p, 0, none⟩), .pointer (some ⟨q, 0, none⟩)] .returning w fun e u' w' => e = .returned (.tuple #[]) ∧ u' = .returning ∧ w' = w.alloc (.cells #[.int .i64 0, .int .i64 0] 114) := by
  refine callsD_of_wpS Tryz.func47 rfl fun c₀ cs hu => ?_
  apply wpS_seq
  apply wpS_region
  simp [wpOpsS, go_sem, recoverD, hu, Tryz.ntmps47, Exit.thenS]
  have hta : ∀ w, (Instr.typeAssert Value.nilIface 20 114 true).run Tryz.prog w = .ok (.tuple #[.agg #[.int .i64 0, .int .i64 0], .bool false]) w := fun w => by kernel_rfl
  apply wpS_seq
  apply wpS_region
  simp [wpOpsS, go_sem, hta, Exit.thenS]
  apply wpS_seq
  apply wpS_region
  simp [wpOpsS, go_sem, Exit.thenS]
  refine wpS_cond (t := false) (by simp [Act.eval, Array.replicate]) ?_
  simp only [Bool.false_eq_true, if_false]
  apply wpS_seq
  apply wpS_region
  simp [wpOpsS, go_sem, Exit.thenS]
  refine wpS_cond (t := false) (by simp [Act.eval, Array.replicate]) ?_
  simp only [Bool.false_eq_true, if_false]
  refine wpS_of_wp (wp_skip ?_)
  cases c₀
  simp_all [bodyPostS, results, Tryz.results47]
end Go.Proofs.YtlmmfhbdebfgkaaGreatDoor.Ex
namespace Go.Proofs.YtlmmfhbdebfgkaaGreatDoor.Ex
open Go.RowKit
open Lx Va
set_option linter.unusedVariables false
set_option linter.unusedSimpArgs false
set_option maxRecDepth 100000 in
set_option maxHeartbeats 4000000 in
theorem stop_panicking (p q : Nat) (hpq : p ≠ q) (a k x y : Int) (older : List PanicEntry) (w : World) (hp : w.cell? ⟨p, 0, none⟩ = some (.int .i64 x)) (hq : w.cell? ⟨q, 0, none⟩ = some (.int .i64 y)) (zp : w.frozen? ⟨p, 0, none⟩ = false) (zq : w.frozen? ⟨q, 0, none⟩ = false) :
    CallsD Tryz.prog 47 #[.pointer (some ⟨p, 0, none⟩), .pointer (some ⟨q, 0, none⟩)] (.panicking ({ v := .iface 114 (.agg #[.int .i64 a, .int .i64 k]), recovered := false } :: older)) w fun e u' w' =>
      e = .returned (.tuple #[]) ∧ u' = .panicking ({ v := .iface 114 (.agg #[.int .i64 a, .int .i64 k]), recovered := true } :: older) ∧ w' = (((w.setCell ⟨p, 0, none⟩ (.int .i64 a)).setCell ⟨q, 0, none⟩ (.int .i64 k)).alloc (.cells #[.int .i64 a, .int .i64 k] 114)).drew := by
  refine callsD_of_wpS Tryz.func47 rfl fun c₀ cs hu => ?_
  apply wpS_seq
  apply wpS_region
  simp [wpOpsS, go_sem, recoverD, hu, Tryz.ntmps47, Exit.thenS]
  have hta := fun w => run_stop (.agg #[.int .i64 a, .int .i64 k]) 20 w
  have lp : p < w.heap.size := World.block_lt_of_cell? w _ hp
  have lq : q < w.heap.size := World.block_lt_of_cell? w _ hq
  have hqp : ¬ q = p := fun e => hpq e.symm
  have hnp : ¬ w.heap.size = p := by omega
  have hnq : ¬ w.heap.size = q := by omega
  have zp2 : ∀ c t, (w.alloc (.cells c t)).frozen? ⟨p, 0, none⟩ = false := fun c t => by rw [frozen?_alloc_cells]; exact zp
  have zq2 : ∀ c t, (w.alloc (.cells c t)).frozen? ⟨q, 0, none⟩ = false := fun c t => by rw [frozen?_alloc_cells]; exact zq
  apply wpS_seq
  apply wpS_region
  simp [wpOpsS, go_sem, hta, Exit.thenS]
  apply wpS_seq
  apply wpS_region
  simp [wpOpsS, go_sem, Exit.thenS]
  refine wpS_cond (t := true) (by simp [Act.eval, Array.replicate]) ?_
  simp only [if_true]
  refine wpS_of_wp ?_
  simp only [Array.replicate]
  have hb := heap_alloc_new w (.cells #[.int .i64 a, .int .i64 k] 114)
  have e0 := cell_of_row _ w.heap.size 0 _ _ (0, 0) hb
  have e1 := cell_of_row _ w.heap.size 1 _ _ (0, 0) hb
  go_region
  all_goals simp [bodyPostS, results, Tryz.results47]
end Go.Proofs.YtlmmfhbdebfgkaaGreatDoor.Ex
namespace Go.Proofs.YtlmmfhbdebfgkaaGreatDoor.Ex
open Go.RowKit
open Lx
structure FlS (b g cap : Nat) (ts : List TA) (a : Nat) (s : St) (w : World) (N : Nat) (W : World) : Prop where
  only : Only b w W
  box : Bx W w.heap.size (.int .i64 0) (.int .i64 0) (.string ⟨#[]⟩) (.slice none 0 0)
  tok : Bt W N (tk ts a)
  rdg : Rdg W b g cap ts.length a s.n s.open_ 0 0
set_option linter.unusedVariables false
end Go.Proofs.YtlmmfhbdebfgkaaGreatDoor.Ex
namespace Go.Proofs.YtlmmfhbdebfgkaaGreatDoor.Ex
open Go.RowKit
open Lx
theorem res_expr3 {fn : Func} {p u v : Tmp} (h : fn.results = #[.cell p 24, .tmp u, .tmp v]) (tmps : Array Value) (w : World) (g : Nat) (a b c d x y : Value)
    (hp : tmps.getD p undef = .pointer (some ⟨g, 0, none⟩)) (hg : w.heap[g]? = some (.cells #[a, b, c, d] 24 (0, 0))) (hx : tmps.getD u undef = x) (hy : tmps.getD v undef = y) :
    (results fn tmps).run Tryz.prog w = .ok (.tuple #[.agg #[a, b, c, d], x, y]) w := by
  have hp' : tmps[p]?.getD undef = .pointer (some ⟨g, 0, none⟩) := by simpa using hp
  have hx' : tmps[u]?.getD undef = x := by simpa using hx
  have hy' : tmps[v]?.getD undef = y := by simpa using hy
  have hr := run_loadVar_row (P := Tryz.prog) w g 24 24 #[a, b, c, d] (0, 0) _ hg Tryz.underlying24 rfl (by kernel_rfl)
  simp [results, h, hp', hx', hy', asAddr, hr]
theorem Below.put {B : Nat} {w w' : World} (h : Below B w w') (H : Nat) (hH : B ≤ H) (x y z u : Value) : Below B w (put4 w' H x y z u) :=
  (((h.setCell (p := ⟨H, 0, none⟩) hH x).setCell (p := ⟨H, 1, none⟩) hH y).setCell (p := ⟨H, 2, none⟩) hH z).setCell (p := ⟨H, 3, none⟩) hH u
def parR (w : World) (r : R) (e : Ending) (w' : World) : Prop := match r with
  | .ok x s => ∃ p c, e = .returned (.tuple #[exprC x p c, .int .i64 s.at_, .int .i64 0]) ∧ FAt w' (w.heap.size ≤ ·) x.args p
  | .bad er a => er ≠ 0 ∧ e = .returned (.tuple #[noX, .int .i64 a, .int .i64 er])
set_option linter.unusedVariables false
end Go.Proofs.YtlmmfhbdebfgkaaGreatDoor.Ex
