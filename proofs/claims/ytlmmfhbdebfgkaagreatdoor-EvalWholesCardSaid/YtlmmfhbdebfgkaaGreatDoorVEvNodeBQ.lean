/-
  EvNodeB, EvNodeC, EvNamed, EvRec.
-/
import Derived.Test.YtlmmfhbdebfgkaaGreatDoorVEvRnAQ
import Derived.Test.YtlmmfhbdebfgkaaGreatDoorVVlTwinBQ
import Derived.Test.YtlmmfhbdebfgkaaGreatDoorVVlSameQ
import Derived.Test.YtlmmfhbdebfgkaaGreatDoorVVaRightQ
import Derived.Test.YtlmmfhbdebfgkaaGreatDoorVVaPrintBQ
import Derived.Test.YtlmmfhbdebfgkaaGreatDoorVEvNumQ
import Derived.Deep.RegionHeld3
import Derived.Deep.QuietTactic
import Derived.BigQuiet
import Derived.Lib.SmallJoins
import Derived.RegionDies
import Derived.Tactics
import Derived.Tactics2
import Derived.Defers
import Derived.Recover
import Derived.Laws.Pointers
set_option linter.unusedVariables false
set_option linter.unusedSimpArgs false
set_option maxRecDepth 100000
set_option maxHeartbeats 4000000
namespace Go.Proofs.YtlmmfhbdebfgkaaGreatDoor.Ev
open Go.RowKit
open Ex Lx Va
theorem op_5 (n : Int) (t : List UInt8) (vs : List V) : opE 5 n t vs = if allV vs 1 = true then (⟨5, 0, [], vs.map (·.num)⟩, 0) else (zeroV, 23) := rfl
theorem node_5 (n : Int) (t : List UInt8) (p : Option Addr) (kk c : Nat) (vs : List V) (hn : vs.length ≤ 100000) (a : Option Addr) (cap : Nat) (w : World) (hx : ValsAt w a vs) :
    Calls Tryz.prog 57 #[.agg #[.int .i64 5, .int .i64 n, .string (S t), .slice p kk c], .slice a vs.length cap] w fun e w' => CameF w.heap.size (opE 5 n t vs) e w' ∧ Below w.heap.size w w' := by
  have hb := ((Below.refl w.heap.size w).alloc (Nat.le_refl _) (.cells #[.int .i64 5, .int .i64 n, .string (S t), .slice p kk c] 24)).alloc (by simp) (.cells #[.int .i64 0, .int .i64 0, .string ⟨#[]⟩, .slice none 0 0] 52)
  have HV := Lib.hid (VB.new (w.alloc (.cells #[.int .i64 5, .int .i64 n, .string (S t), .slice p kk c] 24)) (.int .i64 0) (.int .i64 0) (.string ⟨#[]⟩) (.slice none 0 0) (w.heap.size + 1) (by simp))
  have HX := Lib.hid (Bx.keep (Bx.new w (.int .i64 5) (.int .i64 n) (.string (S t)) (.slice p kk c)) (Kept.alloc (ok := fun _ => True) _ (.cells #[.int .i64 0, .int .i64 0, .string ⟨#[]⟩, .slice none 0 0] 52)) trivial)
  have HB := Lib.hid hb
  have hnum := fun (W : World) (k : Below ((w.alloc (.cells #[.int .i64 5, .int .i64 n, .string (S t), .slice p kk c] 24)).alloc (.cells #[.int .i64 0, .int .i64 0, .string ⟨#[]⟩, .slice none 0 0] 52)).heap.size ((w.alloc (.cells #[.int .i64 5, .int .i64 n, .string (S t), .slice p kk c] 24)).alloc (.cells #[.int .i64 0, .int .i64 0, .string ⟨#[]⟩, .slice none 0 0] 52)) W) => numbers_any vs hn a cap W ((hx.below hb).below k)
  have HLEN := Lib.hid (show (vs.map (·.num)).length = vs.length from List.length_map ..)
  have HSZ := Lib.hid (show ((w.alloc (.cells #[.int .i64 5, .int .i64 n, .string (S t), .slice p kk c] 24)).alloc (.cells #[.int .i64 0, .int .i64 0, .string ⟨#[]⟩, .slice none 0 0] 52)).heap.size = w.heap.size + 1 + 1 from by simp)
  rw [op_5]
  clear hb hx
  cases ha : allV vs 1 with
  | true =>
    have HN := Lib.hid (fun (W : World) (k : Below ((w.alloc (.cells #[.int .i64 5, .int .i64 n, .string (S t), .slice p kk c] 24)).alloc (.cells #[.int .i64 0, .int .i64 0, .string ⟨#[]⟩, .slice none 0 0] 52)).heap.size ((w.alloc (.cells #[.int .i64 5, .int .i64 n, .string (S t), .slice p kk c] 24)).alloc (.cells #[.int .i64 0, .int .i64 0, .string ⟨#[]⟩, .slice none 0 0] 52)) W) => (hnum W k).mono (R' := fun e w' => (∃ a' c', e = .returned (.slice a' vs.length c') ∧ FrAt W.heap.size w' a' (vs.map (·.num)) c') ∧ Below W.heap.size W w') (fun e w' h => by
      refine ⟨?_, h.2⟩
      rcases h.1 with ⟨_, h⟩ | ⟨h, _⟩
      · exact h
      · rw [ha] at h; cases h))
    rw [if_pos rfl]
    clear hnum hn ha
    generalize vs.map (·.num) = ns at *
    generalize vs.length = ln at *
    go_enter Tryz.func57, Tryz.ntmps57
    go_wp2_with fail
    refine (HN.out _ (by first | exact Below.refl _ _ | exact (Below.refl _ _).drew | exact (Below.refl _ _).alloc (Nat.le_refl _) _)).mono ?_
    rintro e w3 ⟨⟨a', c', rfl, hfr⟩, b3⟩
    have HFR := Lib.hid hfr
    clear hfr
    have hnb := HV.out.later b3
    have fz := hnb.fz
    have k0 := hnb.c0
    have k1 := hnb.c1
    have k2 := hnb.c2
    have k3 := hnb.c3
    have HP := Lib.hid (hnb.put (.int .i64 5) (.int .i64 0) (.string ⟨#[]⟩) (.slice a' ln c'))
    have HBE := Lib.hid (below_put (HB.out.trans (b3.mono HB.out.size)) (w.heap.size + 1) (by omega) (.int .i64 5) (.int .i64 0) (.string ⟨#[]⟩) (.slice a' ln c'))
    clear hnb
    go_wp2_with fail
    exact bodyPost_ret (res_val rfl _ _ _ _ _ _ _ rfl HP.out) rfl ⟨.inl ⟨rfl, a', c', by rw [← HLEN.out]; rfl, (fr_put HFR.out (by rw [HSZ.out]; omega) _ _ _ _).mono HB.out.size⟩, HBE.out⟩
  | false =>
    have HN := Lib.hid (fun (W : World) (k : Below ((w.alloc (.cells #[.int .i64 5, .int .i64 n, .string (S t), .slice p kk c] 24)).alloc (.cells #[.int .i64 0, .int .i64 0, .string ⟨#[]⟩, .slice none 0 0] 52)).heap.size ((w.alloc (.cells #[.int .i64 5, .int .i64 n, .string (S t), .slice p kk c] 24)).alloc (.cells #[.int .i64 0, .int .i64 0, .string ⟨#[]⟩, .slice none 0 0] 52)) W) => (hnum W k).mono (R' := fun e w' => e = panE 23 ∧ Below W.heap.size W w') (fun e w' h => by
      refine ⟨?_, h.2⟩
      rcases h.1 with ⟨h, _⟩ | ⟨_, h⟩
      · rw [ha] at h; cases h
      · exact h))
    rw [if_neg (by decide)]
    clear hnum hn ha
    generalize vs.length = ln at *
    go_enter Tryz.func57, Tryz.ntmps57
    go_wp2_with fail
    refine (HN.out _ (by first | exact Below.refl _ _ | exact (Below.refl _ _).drew | exact (Below.refl _ _).alloc (Nat.le_refl _) _)).mono ?_
    rintro e w3 ⟨rfl, b3⟩
    unfold panE
    go_wp2_with fail
    exact ⟨rfl, .inr ⟨by decide, rfl⟩, HB.out.trans (b3.mono HB.out.size)⟩
theorem op_26 (n : Int) (t : List UInt8) (x y : V) : opE 26 n t [x, y] = if x.kind = 5 ∧ y.kind = 1 then (if x.list.length < 16 then (⟨5, 0, [], x.list ++ [y.num]⟩, 0) else (zeroV, 32)) else (zeroV, 23) := rfl
theorem node_26 (n : Int) (t : List UInt8) (p : Option Addr) (kk c : Nat) (x y : V) (hxl : x.list.length ≤ 1000) (a : Option Addr) (cap : Nat) (w : World) (ok : Nat → Prop) (hx : VsAt ok w a [x, y]) :
    Calls Tryz.prog 57 #[.agg #[.int .i64 26, .int .i64 n, .string (S t), .slice p kk c], .slice a 2 cap] w fun e w' => CameF w.heap.size (opE 26 n t [x, y]) e w' ∧ Below w.heap.size w w' := by
  have hb := ((Below.refl w.heap.size w).alloc (Nat.le_refl _) (.cells #[.int .i64 26, .int .i64 n, .string (S t), .slice p kk c] 24)).alloc (by simp) (.cells #[.int .i64 0, .int .i64 0, .string ⟨#[]⟩, .slice none 0 0] 52)
  have HV := Lib.hid (VB.new (w.alloc (.cells #[.int .i64 26, .int .i64 n, .string (S t), .slice p kk c] 24)) (.int .i64 0) (.int .i64 0) (.string ⟨#[]⟩) (.slice none 0 0) (w.heap.size + 1) (by simp))
  have HX := Lib.hid (Bx.keep (Bx.new w (.int .i64 26) (.int .i64 n) (.string (S t)) (.slice p kk c)) (Kept.alloc (ok := fun _ => True) _ (.cells #[.int .i64 0, .int .i64 0, .string ⟨#[]⟩, .slice none 0 0] 52)) trivial)
  have hxb := hx.below hb
  obtain ⟨b, o, rfl, ⟨q, cc, h0, h1, h2, h3, hn⟩, hl⟩ := hxb 0 (by simp)
  obtain ⟨b', o', e', ⟨q2, cc2, g0, g1, g2, g3, hn2⟩, hl2⟩ := hxb 1 (by simp)
  injection e' with e'
  injection e' with e1 e2 _
  subst e1 e2
  simp only [List.getElem_cons_zero, List.getElem_cons_succ, Nat.zero_mul, Nat.add_zero, Nat.one_mul] at h0 h1 h2 h3 hn g0 g1 g2 g3 hn2
  clear hxb
  have HB := Lib.hid hb
  have HS := Lib.hid (fun (W : World) (k : Below ((w.alloc (.cells #[.int .i64 26, .int .i64 n, .string (S t), .slice p kk c] 24)).alloc (.cells #[.int .i64 0, .int .i64 0, .string ⟨#[]⟩, .slice none 0 0] 52)).heap.size ((w.alloc (.cells #[.int .i64 26, .int .i64 n, .string (S t), .slice p kk c] 24)).alloc (.cells #[.int .i64 0, .int .i64 0, .string ⟨#[]⟩, .slice none 0 0] 52)) W) => push_any x.kind x.num x.text q x.list cc hn.2.1 y.kind y.num y.text q2 y.list.length cc2 W (hn.1.below k) (by omega))
  have HSZ := Lib.hid (show ((w.alloc (.cells #[.int .i64 26, .int .i64 n, .string (S t), .slice p kk c] 24)).alloc (.cells #[.int .i64 0, .int .i64 0, .string ⟨#[]⟩, .slice none 0 0] 52)).heap.size = w.heap.size + 1 + 1 from by simp)
  rw [op_26]
  clear hb hx hn hn2
  obtain ⟨xk, xn, xt, xl⟩ := x
  obtain ⟨yk, yn, yt, yl⟩ := y
  unfold vA at HS
  simp only at h0 h1 h2 h3 g0 g1 g2 g3 HS hxl ⊢
  have HL := Lib.hid (show (xl ++ [yn]).length = xl.length + 1 from by simp)
  by_cases hk : xk = 5 ∧ yk = 1
  · by_cases h16 : xl.length < 16
    · have HS2 := Lib.hid (fun W k => (HS.out W k).mono (R' := fun e w' => (∃ a' c', e = .returned (.slice a' (xl.length + 1) c') ∧ FrAt W.heap.size w' a' (xl ++ [yn]) c') ∧ Below W.heap.size W w') (fun e w' h => by
        refine ⟨?_, h.2⟩
        rcases h.1 with ⟨_, _, _, h⟩ | ⟨_, _, h, _⟩ | ⟨h, _⟩
        · exact h
        · exact absurd h16 h
        · exact absurd hk h))
      rw [if_pos hk, if_pos h16]
      clear HS hk h16
      generalize xl ++ [yn] = ns at *
      generalize xl.length + 1 = ln1 at *
      generalize xl.length = ln at *
      generalize yl.length = ln2 at *
      go_enter Tryz.func57, Tryz.ntmps57
      go_wp2_with fail
      go_region_law (first
        | (go_simp; go_at_call 95; refine (HS2.out _ (by first | exact Below.refl _ _ | exact (Below.refl _ _).drew | exact (Below.refl _ _).alloc (Nat.le_refl _) _)).mono ?_; rintro e w3 ⟨⟨a', c', rfl, hfr⟩, b3⟩; have hnb := (VB.later HV.out (Below.refl _ _).drew).later b3; have fz := hnb.fz; have k0 := hnb.c0; have k1 := hnb.c1; have k2 := hnb.c2; have k3 := hnb.c3))
      all_goals
        have HP := Lib.hid (hnb.put (.int .i64 5) (.int .i64 0) (.string ⟨#[]⟩) (.slice a' ln1 c'))
        have HBE := Lib.hid (below_put (HB.out.drew.trans (b3.mono HB.out.size)) (w.heap.size + 1) (by omega) (.int .i64 5) (.int .i64 0) (.string ⟨#[]⟩) (.slice a' ln1 c'))
        clear hnb
        go_wp2_with fail
        exact bodyPost_ret (res_val rfl _ _ _ _ _ _ _ rfl HP.out) rfl ⟨.inl ⟨rfl, a', c', by rw [← HL.out]; rfl, (fr_put hfr (Nat.lt_of_lt_of_eq (Nat.lt_succ_self _) HSZ.out.symm) _ _ _ _).mono HB.out.size⟩, HBE.out⟩
    · have HS2 := Lib.hid (fun W k => (HS.out W k).mono (R' := fun e w' => e = panE 32 ∧ Below W.heap.size W w') (fun e w' h => by
        refine ⟨?_, h.2⟩
        rcases h.1 with ⟨_, _, h, _⟩ | ⟨_, _, _, h⟩ | ⟨h, _⟩
        · exact absurd h h16
        · exact h
        · exact absurd hk h))
      rw [if_pos hk, if_neg h16]
      clear HS hk h16 HL
      generalize xl.length = ln at *
      generalize yl.length = ln2 at *
      go_enter Tryz.func57, Tryz.ntmps57
      go_wp2_with fail
      go_region_dies
      all_goals
        refine (HS2.out _ (by first | exact Below.refl _ _ | exact (Below.refl _ _).drew | exact (Below.refl _ _).alloc (Nat.le_refl _) _)).mono ?_
        rintro e w2 ⟨rfl, b2⟩
        unfold panE
        go_wp2_with fail
        exact ⟨rfl, .inr ⟨by decide, rfl⟩, HB.out.drew.trans (b2.mono HB.out.size)⟩
  · have HS2 := Lib.hid (fun W k => (HS.out W k).mono (R' := fun e w' => e = panE 23 ∧ Below W.heap.size W w') (fun e w' h => by
      refine ⟨?_, h.2⟩
      rcases h.1 with ⟨h5, h1, _, _⟩ | ⟨h5, h1, _, _⟩ | ⟨_, h⟩
      · exact absurd ⟨h5, h1⟩ hk
      · exact absurd ⟨h5, h1⟩ hk
      · exact h))
    rw [if_neg hk]
    clear HS hk HL
    generalize xl.length = ln at *
    generalize yl.length = ln2 at *
    go_enter Tryz.func57, Tryz.ntmps57
    go_wp2_with fail
    go_region_dies
    all_goals
      refine (HS2.out _ (by first | exact Below.refl _ _ | exact (Below.refl _ _).drew | exact (Below.refl _ _).alloc (Nat.le_refl _) _)).mono ?_
      rintro e w2 ⟨rfl, b2⟩
      unfold panE
      go_wp2_with fail
      exact ⟨rfl, .inr ⟨by decide, rfl⟩, HB.out.drew.trans (b2.mono HB.out.size)⟩
theorem node_num (op n : Int) (ho : op = 1 ∨ op = 11 ∨ op = 12 ∨ op = 20 ∨ op = 21 ∨ op = 22 ∨ op = 23 ∨ op = 24 ∨ op = 25) (t : List UInt8) (p : Option Addr) (kk c : Nat) (R : V × Nat) (hR : (∃ m, R = (intV m, 0)) ∨ ∃ k, k ≠ 0 ∧ R = (zeroV, k)) (a : Option Addr) (ln cap : Nat) (w : World)
    (hN : ∀ W : World, Below w.heap.size w W → Calls Tryz.prog 96 #[.agg #[.int .i64 op, .int .i64 n, .string (S t), .slice p kk c], .slice a ln cap] W fun e w' => e = intR R ∧ Below W.heap.size W w') :
    Calls Tryz.prog 57 #[.agg #[.int .i64 op, .int .i64 n, .string (S t), .slice p kk c], .slice a ln cap] w fun e w' => CameF w.heap.size R e w' ∧ Below w.heap.size w w' := by
  have hb := ((Below.refl w.heap.size w).alloc (Nat.le_refl _) (.cells #[.int .i64 op, .int .i64 n, .string (S t), .slice p kk c] 24)).alloc (by simp) (.cells #[.int .i64 0, .int .i64 0, .string ⟨#[]⟩, .slice none 0 0] 52)
  have HV := Lib.hid (VB.new (w.alloc (.cells #[.int .i64 op, .int .i64 n, .string (S t), .slice p kk c] 24)) (.int .i64 0) (.int .i64 0) (.string ⟨#[]⟩) (.slice none 0 0) (w.heap.size + 1) (by simp))
  have HX := Lib.hid (Bx.keep (Bx.new w (.int .i64 op) (.int .i64 n) (.string (S t)) (.slice p kk c)) (Kept.alloc (ok := fun _ => True) _ (.cells #[.int .i64 0, .int .i64 0, .string ⟨#[]⟩, .slice none 0 0] 52)) trivial)
  have HB := Lib.hid hb
  have q0 := HX.out.c0
  have q1 := HX.out.c1
  have q2 := HX.out.c2
  have q3 := HX.out.c3
  have e2 : (op == 2) = false := by simp; omega
  have e3 : (op == 3) = false := by simp; omega
  have e4 : (op == 4) = false := by simp; omega
  have e5 : (op == 5) = false := by simp; omega
  have e10 : (op == 10) = false := by simp; omega
  have e26 : (op == 26) = false := by simp; omega
  have e30 : (op == 30) = false := by simp; omega
  have e31 : (op == 31) = false := by simp; omega
  have e32 : (op == 32) = false := by simp; omega
  have e33 : (op == 33) = false := by simp; omega
  have HN := Lib.hid (fun (W : World) (k : Below ((w.alloc (.cells #[.int .i64 op, .int .i64 n, .string (S t), .slice p kk c] 24)).alloc (.cells #[.int .i64 0, .int .i64 0, .string ⟨#[]⟩, .slice none 0 0] 52)).heap.size ((w.alloc (.cells #[.int .i64 op, .int .i64 n, .string (S t), .slice p kk c] 24)).alloc (.cells #[.int .i64 0, .int .i64 0, .string ⟨#[]⟩, .slice none 0 0] 52)) W) => hN W (hb.trans (k.mono hb.size)))
  clear hb ho hN
  rcases hR with ⟨m, rfl⟩ | ⟨k, hk, rfl⟩
  · have hr : intR (intV m, 0) = .returned (.int .i64 m) := rfl
    rw [hr] at HN
    clear hr
    go_enter Tryz.func57, Tryz.ntmps57
    go_wp2_with fail
    refine (HN.out _ (by first | exact Below.refl _ _ | exact (Below.refl _ _).drew | exact (Below.refl _ _).alloc (Nat.le_refl _) _)).mono ?_
    rintro e w3 ⟨rfl, b3⟩
    have hnb := HV.out.later b3
    have fz := hnb.fz
    have k0 := hnb.c0
    have k1 := hnb.c1
    have k2 := hnb.c2
    have k3 := hnb.c3
    have HP := Lib.hid (hnb.put (.int .i64 1) (.int .i64 m) (.string ⟨#[]⟩) (.slice none 0 0))
    have HBE := Lib.hid (below_put (HB.out.trans (b3.mono HB.out.size)) (w.heap.size + 1) (by omega) (.int .i64 1) (.int .i64 m) (.string ⟨#[]⟩) (.slice none 0 0))
    clear hnb
    go_wp2_with fail
    exact bodyPost_ret (res_val rfl _ _ _ _ _ _ _ rfl HP.out) rfl ⟨.inl ⟨rfl, none, 0, rfl, fr_nil _ _⟩, HBE.out⟩
  · have hr : intR (zeroV, k) = panE k := by unfold intR; rw [if_neg hk]
    rw [hr] at HN
    clear hr
    go_enter Tryz.func57, Tryz.ntmps57
    go_wp2_with fail
    refine (HN.out _ (by first | exact Below.refl _ _ | exact (Below.refl _ _).drew | exact (Below.refl _ _).alloc (Nat.le_refl _) _)).mono ?_
    rintro e w3 ⟨rfl, b3⟩
    unfold panE
    go_wp2_with fail
    exact ⟨rfl, .inr ⟨hk, rfl⟩, HB.out.trans (b3.mono HB.out.size)⟩
end Go.Proofs.YtlmmfhbdebfgkaaGreatDoor.Ev
namespace Go.Proofs.YtlmmfhbdebfgkaaGreatDoor.Ev
open Go.RowKit
open Ex Lx Va
theorem cnt_cases {o : Int} {k : Nat} (h : cntB o k = true) : (o = 5 ∧ k ≤ 16) ∨ ((o = 1 ∨ o = 2 ∨ o = 3 ∨ o = 4 ∨ o = 6 ∨ o = 7) ∧ k = 0) ∨ ((o = 10 ∨ o = 11 ∨ o = 12) ∧ k = 1) ∨ ((o = 20 ∨ o = 21 ∨ o = 22 ∨ o = 23 ∨ o = 24 ∨ o = 25 ∨ o = 26 ∨ o = 30 ∨ o = 31 ∨ o = 32 ∨ o = 33 ∨ o = 40 ∨ o = 41) ∧ k = 2) := by
  unfold cntB at h
  by_cases h5 : o = 5
  · rw [if_pos h5] at h
    exact .inl ⟨h5, by simpa using h⟩
  rw [if_neg h5] at h
  by_cases h7 : 1 ≤ o ∧ o ≤ 7
  · rw [if_pos h7] at h
    exact .inr (.inl ⟨by omega, by simpa using h⟩)
  rw [if_neg h7] at h
  by_cases h12 : 10 ≤ o ∧ o ≤ 12
  · rw [if_pos h12] at h
    exact .inr (.inr (.inl ⟨by omega, by simpa using h⟩))
  rw [if_neg h12] at h
  split at h
  · rename_i h2
    exact .inr (.inr (.inr ⟨by omega, by simpa using h⟩))
  · cases h
theorem formed_cntE {o n : Int} {t : List UInt8} {k : Nat} (h : formedB o n t k = true) : cntB o k = true := by
  simp [formedB] at h
  exact h.1.1.1.1.1
theorem numE_cases (n : Int) : (∃ m, numE n = (intV m, 0)) ∨ ∃ k, k ≠ 0 ∧ numE n = (zeroV, k) := by
  unfold numE
  split
  · exact .inl ⟨_, rfl⟩
  · exact .inr ⟨30, by decide, rfl⟩
theorem arithL_cases (o : Int) (l : List Int) : (∃ m, arithL o l = (intV m, 0)) ∨ ∃ k, k ≠ 0 ∧ arithL o l = (zeroV, k) := by
  unfold arithL arithE
  repeat' split
  all_goals first | exact numE_cases _ | exact .inr ⟨31, by decide, rfl⟩
theorem Good.vok {x : V} (h : Good x) : VOk x := ⟨by have := h.text; omega, by have := h.list; omega⟩
theorem node_any (ok : Nat → Prop) (o n : Int) (t : List UInt8) (p : Option Addr) (kk c : Nat) (vs : List V) (hg : ∀ v ∈ vs, Good v) (hf : formedB o n t vs.length = true) (h6 : o ≠ 6) (h7 : o ≠ 7) (h40 : o ≠ 40) (h41 : o ≠ 41) (a : Option Addr) (cap : Nat) (w : World) (hx : VsAt ok w a vs) :
    Calls Tryz.prog 57 #[.agg #[.int .i64 o, .int .i64 n, .string (S t), .slice p kk c], .slice a vs.length cap] w fun e w' => CameF w.heap.size (opE o n t vs) e w' ∧ Below w.heap.size w w' := by
  have hcnt := cnt_cases (formed_cntE hf)
  have hv := hx.vals
  rcases hcnt with ⟨rfl, hk⟩ | ⟨ho, hk⟩ | ⟨ho, hk⟩ | ⟨ho, hk⟩
  · exact node_5 n t p kk c vs (by omega) a cap w hv
  · rcases ho with rfl | rfl | rfl | rfl | rfl | rfl
    · exact node_num 1 n (by omega) t p kk c (opE 1 n t vs) (.inl ⟨n, rfl⟩) a vs.length cap w (fun W _ => (number_1 n t p kk c a vs.length cap W).mono (fun e w' h => ⟨h.1.trans rfl, h.2⟩))
    · exact node_2 n t p kk c vs a vs.length cap w
    · exact node_3 n t p kk c vs a vs.length cap w
    · exact node_4 n t p kk c vs a vs.length cap w
    · exact absurd rfl h6
    · exact absurd rfl h7
  · match vs, hk with
    | [x], _ =>
      have gx := hg x (by simp)
      rcases ho with rfl | rfl | rfl
      · exact node_10 n t p kk c x gx a cap w hv
      · refine node_num 11 n (by omega) t p kk c (opE 11 n t [x]) ?_ a 1 cap w (fun W k => number_c 11 n t p kk c [x] hg (.inl ⟨rfl, rfl⟩) a cap W (hv.below k))
        rw [op_arith 11 n t [x] (.inl ⟨rfl, rfl⟩)]
        split
        · exact arithL_cases _ _
        · exact .inr ⟨23, by decide, rfl⟩
      · refine node_num 12 n (by omega) t p kk c (opE 12 n t [x]) ?_ a 1 cap w (fun W k => number_12 n t p kk c x a cap W (hv.below k))
        show (∃ m, (if x.kind = 5 then (intV x.list.length, 0) else if x.kind = 3 then (intV x.text.length, 0) else (zeroV, 23)) = (intV m, 0)) ∨ ∃ k, k ≠ 0 ∧ (if x.kind = 5 then (intV x.list.length, 0) else if x.kind = 3 then (intV x.text.length, 0) else (zeroV, 23)) = (zeroV, k)
        repeat' split
        all_goals first | exact .inl ⟨_, rfl⟩ | exact .inr ⟨23, by decide, rfl⟩
  · match vs, hk with
    | [x, y], _ =>
      have gx := hg x (by simp)
      have gy := hg y (by simp)
      have har : ∀ o : Int, (o = 20 ∨ o = 21 ∨ o = 22 ∨ o = 23 ∨ o = 24) → Calls Tryz.prog 57 #[.agg #[.int .i64 o, .int .i64 n, .string (S t), .slice p kk c], .slice a 2 cap] w fun e w' => CameF w.heap.size (opE o n t [x, y]) e w' ∧ Below w.heap.size w w' := fun o ho => by
        refine node_num o n (by omega) t p kk c (opE o n t [x, y]) ?_ a 2 cap w (fun W k => number_c o n t p kk c [x, y] hg (.inr ⟨ho, rfl⟩) a cap W (hv.below k))
        rw [op_arith o n t [x, y] (.inr ⟨ho, rfl⟩)]
        split
        · exact arithL_cases _ _
        · exact .inr ⟨23, by decide, rfl⟩
      rcases ho with rfl | rfl | rfl | rfl | rfl | rfl | rfl | rfl | rfl | rfl | rfl | rfl | rfl
      · exact har 20 (by decide)
      · exact har 21 (by decide)
      · exact har 22 (by decide)
      · exact har 23 (by decide)
      · exact har 24 (by decide)
      · refine node_num 25 n (by omega) t p kk c (opE 25 n t [x, y]) ?_ a 2 cap w (fun W k => number_25 n t p kk c x y (by have := gx.list; omega) a cap W (hv.below k))
        show (∃ m, (if x.kind = 5 ∧ y.kind = 1 then (if 0 ≤ y.num ∧ y.num < x.list.length then (intV (x.list.getD y.num.toNat 0), 0) else (zeroV, 32)) else (zeroV, 23)) = (intV m, 0)) ∨ ∃ k, k ≠ 0 ∧ (if x.kind = 5 ∧ y.kind = 1 then (if 0 ≤ y.num ∧ y.num < x.list.length then (intV (x.list.getD y.num.toNat 0), 0) else (zeroV, 32)) else (zeroV, 23)) = (zeroV, k)
        repeat' split
        all_goals first | exact .inl ⟨_, rfl⟩ | exact .inr ⟨23, by decide, rfl⟩ | exact .inr ⟨32, by decide, rfl⟩
      · exact node_26 n t p kk c x y (by have := gx.list; omega) a cap w ok hx
      · exact node_cmp 30 n (by decide) t p kk c x y gx.vok gy.vok a cap w hv
      · exact node_cmp 31 n (by decide) t p kk c x y gx.vok gy.vok a cap w hv
      · exact node_cmp 32 n (by decide) t p kk c x y gx.vok gy.vok a cap w hv
      · exact node_cmp 33 n (by decide) t p kk c x y gx.vok gy.vok a cap w hv
      · exact absurd rfl h40
      · exact absurd rfl h41
end Go.Proofs.YtlmmfhbdebfgkaaGreatDoor.Ev
namespace Go.Proofs.YtlmmfhbdebfgkaaGreatDoor.Ev
open Go.RowKit
open Ex Lx Va Ty
theorem named_any (ok : Nat → Prop) (l : List AttrP) (vs : List V) (n : List UInt8) (p q : Option Addr) (c c2 : Nat) (w : World) (hl : AttrsAt w p l) (hlen : l.length ≤ 281474976710656) (hv : VsAt ok w q vs) (hok : ∀ g, ok g → g < w.heap.size) (hvl : vs.length ≤ 281474976710656) :
    Calls Tryz.prog 55 #[.slice p l.length c, .slice q vs.length c2, .string (S n)] w fun e w' => CameIn ok (namedV l vs n) e w' ∧ Below w.heap.size w w' := by
  have hki : (l.length : Int) ≤ 281474976710656 := by omega
  have hkv : (vs.length : Int) ≤ 281474976710656 := by omega
  have ba := ((Below.refl w.heap.size w).alloc (Nat.le_refl _) (.cells #[.string (S n)] 9)).alloc (by simp) (.cells #[.int .i64 0, .int .i64 0, .string ⟨#[]⟩, .slice none 0 0] 52)
  have hla := hl.later ba
  have hva := hv.below ba
  have HI := Lib.hid (attr_idx l n p c w.heap.size _ hla hlen (by simp) (by simp; omega))
  have HVB := Lib.hid (VB.new (w.alloc (.cells #[.string (S n)] 9)) (.int .i64 0) (.int .i64 0) (.string ⟨#[]⟩) (.slice none 0 0) (w.heap.size + 1) (by simp))
  have HV := Lib.hid hva
  have HBA := Lib.hid ba
  have HOK := Lib.hid hok
  clear hl ba hla hv hva hok
  have hall : (namedV l vs n = (zeroV, 22) ∧ (fstIdx (fun x => x.name == n) l = -1 ∨ (∃ k : Nat, fstIdx (fun x => x.name == n) l = (k : Int) ∧ vs.length ≤ k) ∨ ∃ (k : Nat) (h : k < vs.length), fstIdx (fun x => x.name == n) l = (k : Int) ∧ vs[k].kind = 0)) ∨ ∃ (k : Nat) (h : k < vs.length), fstIdx (fun x => x.name == n) l = (k : Int) ∧ namedV l vs n = (vs[k], 0) ∧ vs[k].kind ≠ 0 := by
    rcases namedV_idx l vs n with ⟨h1, h2⟩ | ⟨k, h1, h2⟩
    · exact .inl ⟨h2, .inl h1⟩
    · by_cases hk : k < vs.length
      · rw [List.getElem?_eq_getElem hk] at h2
        simp only at h2
        by_cases h0 : vs[k].kind = 0
        · rw [if_pos h0] at h2
          exact .inl ⟨h2, .inr (.inr ⟨k, hk, h1, h0⟩)⟩
        · rw [if_neg h0] at h2
          exact .inr ⟨k, hk, h1, h2, h0⟩
      · rw [List.getElem?_eq_none (by omega)] at h2
        exact .inl ⟨h2, .inr (.inl ⟨k, h1, by omega⟩)⟩
  rcases hall with ⟨h2, h1 | ⟨k, h1, hk⟩ | ⟨k, hk, h1, h0⟩⟩ | ⟨k, hk, h1, h2, h0⟩
  · rw [h1] at HI
    rw [h2]
    clear h1 h2
    generalize vs.length = ln at *
    go_enter Tryz.func55, Tryz.ntmps55
    go_wp2_with fail
    refine HI.out.mono ?_
    rintro e w2 ⟨rfl, b2⟩
    have HB2 := Lib.hid (HBA.out.trans (b2.mono HBA.out.size))
    clear b2
    go_wp2_with fail
    refine (need_bad 22 _).mono ?_
    rintro e w1 ⟨rfl, rfl⟩
    unfold panE
    go_wp2_with fail
    exact ⟨rfl, .inr ⟨by decide, rfl⟩, HB2.out⟩
  · rw [h1] at HI
    rw [h2]
    clear h1 h2
    have hkn : decide ((k : Int) < (vs.length : Int)) = false := decide_eq_false (by omega)
    have hk0 : decide ((0 : Int) ≤ (k : Int)) = true := decide_eq_true (by omega)
    generalize vs.length = ln at *
    go_enter Tryz.func55, Tryz.ntmps55
    go_wp2_with fail
    refine HI.out.mono ?_
    rintro e w2 ⟨rfl, b2⟩
    have HB2 := Lib.hid (HBA.out.trans (b2.mono HBA.out.size))
    clear b2
    go_wp2_with fail
    refine (need_bad 22 _).mono ?_
    rintro e w1 ⟨rfl, rfl⟩
    unfold panE
    go_wp2_with fail
    exact ⟨rfl, .inr ⟨by decide, rfl⟩, HB2.out⟩
  · rw [h1] at HI
    rw [h2]
    clear h1 h2
    have hki2 : (k : Int) < (vs.length : Int) := by omega
    have hkn : decide ((k : Int) < (vs.length : Int)) = true := decide_eq_true (by omega)
    have hk0 : decide ((0 : Int) ≤ (k : Int)) = true := decide_eq_true (by omega)
    go_enter Tryz.func55, Tryz.ntmps55
    go_wp2_with fail
    refine HI.out.mono ?_
    rintro e w2 ⟨rfl, b2⟩
    have HB2 := Lib.hid (HBA.out.trans (b2.mono HBA.out.size))
    obtain ⟨b, o, rfl, ⟨g, cc, f0, f1, f2, f3, _⟩, hb⟩ := (HV.out.below b2) k hk
    rw [h0] at f0
    clear b2 h0
    generalize vs[k] = x at *
    generalize vs.length = ln at *
    go_wp2_with fail
    refine (need_bad 22 _).mono ?_
    rintro e w1 ⟨rfl, rfl⟩
    unfold panE
    go_wp2_with fail
    exact ⟨rfl, .inr ⟨by decide, rfl⟩, HB2.out⟩
  · rw [h1] at HI
    rw [h2]
    clear h1 h2
    obtain ⟨x, hx⟩ : ∃ x, x = vs[k] := ⟨_, rfl⟩
    rw [← hx] at h0 ⊢
    have HX := Lib.hid hx
    clear hx
    have hki2 : (k : Int) < (vs.length : Int) := by omega
    have hkn : decide ((k : Int) < (vs.length : Int)) = true := decide_eq_true (by omega)
    have hk0 : decide ((0 : Int) ≤ (k : Int)) = true := decide_eq_true (by omega)
    go_enter Tryz.func55, Tryz.ntmps55
    go_wp2_with fail
    refine HI.out.mono ?_
    rintro e w2 ⟨rfl, b2⟩
    have HB2 := Lib.hid (HBA.out.trans (b2.mono HBA.out.size))
    obtain ⟨b, o, rfl, ⟨g, cc, f0, f1, f2, f3, hla⟩, hb⟩ := (HV.out.below b2) k hk
    have hnb := HVB.out.later b2
    have HLA := Lib.hid hla
    clear b2 hla
    rw [← HX.out] at f0 f1 f2 f3 HLA
    clear HX
    obtain ⟨xk, xn, xt, xl⟩ := x
    simp only at f0 f1 f2 f3 h0 HLA
    generalize hxl : xl.length = lx at *
    have hx0 : (xk != 0) = true := by simpa using h0
    have fz := hnb.fz
    have k0 := hnb.c0
    have k1 := hnb.c1
    have k2 := hnb.c2
    have k3 := hnb.c3
    go_wp2_with fail
    refine (need_ok 22 _).mono ?_
    rintro e w1 ⟨rfl, rfl⟩
    have HP := Lib.hid (hnb.put (.int .i64 xk) (.int .i64 xn) (.string (S xt)) (.slice g lx cc))
    have HBE := Lib.hid (below_put HB2.out (w.heap.size + 1) (by omega) (.int .i64 xk) (.int .i64 xn) (.string (S xt)) (.slice g lx cc))
    clear hnb
    go_wp2_with fail
    exact bodyPost_ret (res_val rfl _ _ _ _ _ _ _ rfl HP.out) rfl ⟨.inl ⟨rfl, g, cc, by rw [← hxl]; rfl, HLA.out.keep (Kept.put _ _ _ _ _ _ (fun h => by have := HOK.out _ h; omega))⟩, HBE.out⟩
end Go.Proofs.YtlmmfhbdebfgkaaGreatDoor.Ev
namespace Go.Proofs.YtlmmfhbdebfgkaaGreatDoor.Ev
open Go.RowKit
open Ex Lx Va
theorem catch_idle (p : Addr) (w : World) :
    CallsD Tryz.prog 29 #[.pointer (some p)] .returning w fun e u' w' => e = .returned (.tuple #[]) ∧ u' = .returning ∧ w' = w := by
  refine callsD_of_wpS Tryz.func29 rfl fun c₀ cs hu => ?_
  apply wpS_seq
  apply wpS_region
  simp [wpOpsS, go_sem, recoverD, hu, Tryz.ntmps29, Exit.thenS]
  have hta : ∀ w, (Instr.typeAssert Value.nilIface 20 26 true).run Tryz.prog w = .ok (.tuple #[.int .i64 0, .bool false]) w := fun w => by kernel_rfl
  refine wpS_of_wp ?_
  go_wp2_with fail
  cases c₀
  simp_all [bodyPostS, results, Tryz.results29]
theorem run_errno (v : Value) (xT : TypeId) (w : World) : (Instr.typeAssert (.iface 26 v) xT 26 true).run Tryz.prog w = .ok (.tuple #[v, .bool true]) w := by
  simp [Instr.typeAssert, run_underlying Tryz.underlying26, go_sem, Result.andThen]
theorem catch_panicking (p : Addr) (x k : Int) (older : List PanicEntry) (w : World) (hc : w.cell? p = some (.int .i64 x)) (hz : w.frozen? p = false) :
    CallsD Tryz.prog 29 #[.pointer (some p)] (.panicking ({ v := .iface 26 (.int .i64 k), recovered := false } :: older)) w fun e u' w' =>
      e = .returned (.tuple #[]) ∧ u' = .panicking ({ v := .iface 26 (.int .i64 k), recovered := true } :: older) ∧ w' = w.setCell p (.int .i64 k) := by
  refine callsD_of_wpS Tryz.func29 rfl fun c₀ cs hu => ?_
  apply wpS_seq
  apply wpS_region
  simp [wpOpsS, go_sem, recoverD, hu, Tryz.ntmps29, Exit.thenS]
  have hta := fun w => run_errno (.int .i64 k) 20 w
  apply wpS_seq
  apply wpS_region
  simp [wpOpsS, go_sem, hta, Exit.thenS]
  apply wpS_seq
  apply wpS_region
  simp [wpOpsS, go_sem, Exit.thenS]
  refine wpS_cond (t := true) (by simp [Act.eval, Array.replicate]) ?_
  simp only [if_true]
  apply wpS_region
  simp [wpOpsS, go_sem, hc, hz, bodyPostS, results, Tryz.results29]
end Go.Proofs.YtlmmfhbdebfgkaaGreatDoor.Ev
