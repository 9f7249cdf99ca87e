/-
  EvRnA, EvComp, EvNumb, EvNode, VlCmp.
-/
import Derived.Test.YtlmmfhbdebfgkaaGreatDoorVEvNumQ
import Derived.Test.YtlmmfhbdebfgkaaGreatDoorVVlTwinBQ
import Derived.Test.YtlmmfhbdebfgkaaGreatDoorVEvCmpQ
import Derived.Test.YtlmmfhbdebfgkaaGreatDoorVEvNumsQ
import Derived.Test.YtlmmfhbdebfgkaaGreatDoorVVaOrdQ
import Derived.Deep.QuietTactic
import Derived.BigQuiet
set_option linter.unusedVariables false
set_option linter.unusedSimpArgs false
set_option maxRecDepth 100000
set_option maxHeartbeats 4000000
namespace Go.Proofs.YtlmmfhbdebfgkaaGreatDoor.Ev
open Go.RowKit
open Ex Lx Va Ty
set_option maxRecDepth 100000
def RV (x : V × Nat) (a : Option Addr) (c : Nat) : Value := .tuple #[valC x.1 a c, .int .i64 (x.2 : Int)]
theorem below4 {B : Nat} {w w' : World} (h : Below B w w') (H : Nat) (hH : B ≤ H) (x y z u : Value) : Below B w (put4 w' H x y z u) :=
  (((h.setCell (p := ⟨H, 0, none⟩) hH x).setCell (p := ⟨H, 1, none⟩) hH y).setCell (p := ⟨H, 2, none⟩) hH z).setCell (p := ⟨H, 3, none⟩) hH u
theorem res_val2 {fn : Func} {p u : Tmp} (h : fn.results = #[.cell p 52, .tmp u]) (tmps : Array Value) (w : World) (g : Nat) (a b c d x : Value)
    (hp : tmps.getD p undef = .pointer (some ⟨g, 0, none⟩)) (hg : VB w g a b c d) (hx : tmps.getD u undef = x) :
    (results fn tmps).run Tryz.prog w = .ok (.tuple #[.agg #[a, b, c, d], x]) w := by
  have hp' : tmps[p]?.getD undef = .pointer (some ⟨g, 0, none⟩) := by simpa using hp
  have hx' : tmps[u]?.getD undef = x := by simpa using hx
  have hr := run_loadVar_row (P := Tryz.prog) w g 52 52 #[a, b, c, d] (0, 0) _ hg Tryz.underlying52 rfl (by kernel_rfl)
  simp [results, h, hp', hx', asAddr, hr]
theorem rnumber_any (v n : Int) (ok : Bool) (h : NumR v n ok) (w : World) :
    Calls Tryz.prog 60 #[.int .i64 n, .bool ok] w fun e w' => e = .returned (RV (numE v) none 0) ∧ Below w.heap.size w w' := by
  have HE := Lib.hid (numR_num h)
  clear h
  cases ok with
  | true =>
    have HB := Lib.hid ((Below.refl w.heap.size w).alloc (Nat.le_refl _) (.cells #[.int .i64 1, .int .i64 n, .string ⟨#[]⟩, .slice none 0 0] 52))
    have HX := Lib.hid (VB.new w (.int .i64 1) (.int .i64 n) (.string ⟨#[]⟩) (.slice none 0 0) _ rfl)
    go_enter Tryz.func60, Tryz.ntmps60
    go_wp2_with fail
    refine bodyPost_ret (res_val2 rfl _ _ w.heap.size _ _ _ _ (.int .i64 0) rfl HX.out rfl) rfl ?_
    exact ⟨by rw [HE.out]; rfl, HB.out⟩
  | false =>
    have HB := Lib.hid ((Below.refl w.heap.size w).alloc (Nat.le_refl _) (.cells #[.int .i64 0, .int .i64 0, .string ⟨#[]⟩, .slice none 0 0] 52))
    have HX := Lib.hid (VB.new w (.int .i64 0) (.int .i64 0) (.string ⟨#[]⟩) (.slice none 0 0) _ rfl)
    go_enter Tryz.func60, Tryz.ntmps60
    go_wp2_with fail
    refine bodyPost_ret (res_val2 rfl _ _ w.heap.size _ _ _ _ (.int .i64 30) rfl HX.out rfl) rfl ?_
    exact ⟨by rw [HE.out]; rfl, HB.out⟩
theorem rtruth_any (b : Bool) (w : World) :
    Calls Tryz.prog 61 #[.bool b] w fun e w' => e = .returned (RV (boolV b, 0) none 0) ∧ Below w.heap.size w w' := by
  cases b with
  | true =>
    have HB := Lib.hid ((Below.refl w.heap.size w).alloc (Nat.le_refl _) (.cells #[.int .i64 2, .int .i64 1, .string ⟨#[]⟩, .slice none 0 0] 52))
    have HX := Lib.hid (VB.new w (.int .i64 2) (.int .i64 1) (.string ⟨#[]⟩) (.slice none 0 0) _ rfl)
    go_enter Tryz.func61, Tryz.ntmps61
    go_wp2_with fail
    refine bodyPost_ret (res_val2 rfl _ _ w.heap.size _ _ _ _ (.int .i64 0) rfl HX.out rfl) rfl ?_
    exact ⟨rfl, HB.out⟩
  | false =>
    have HB := Lib.hid ((Below.refl w.heap.size w).alloc (Nat.le_refl _) (.cells #[.int .i64 2, .int .i64 0, .string ⟨#[]⟩, .slice none 0 0] 52))
    have HX := Lib.hid (VB.new w (.int .i64 2) (.int .i64 0) (.string ⟨#[]⟩) (.slice none 0 0) _ rfl)
    go_enter Tryz.func61, Tryz.ntmps61
    go_wp2_with fail
    refine bodyPost_ret (res_val2 rfl _ _ w.heap.size _ _ _ _ (.int .i64 0) rfl HX.out rfl) rfl ?_
    exact ⟨rfl, HB.out⟩
theorem rall_any (vs : List V) (hn : vs.length ≤ 100000) (kd : Int) (a : Option Addr) (cap : Nat) (w : World) (hx : ValsAt w a vs) :
    Calls Tryz.prog 105 #[.slice a vs.length cap, .int .i64 kd] w fun e w' => e = .returned (.bool (allV vs kd)) ∧ Below w.heap.size w w' := by
  have hki : (vs.length : Int) ≤ 100000 := by omega
  have HX := Lib.hid hx
  have HALL := Lib.hid (all_hit vs kd)
  have HMISS := Lib.hid (fun j hj h => all_miss vs kd j hj h)
  clear hx
  go_enter Tryz.func105, Tryz.ntmps105
  go_wp2_with fail
  go_loopw [9] (fun iv wr => ∃ k : Nat, k ≤ vs.length ∧ iv = .int .i64 k ∧ (∀ j (hj : j < vs.length), j < k → vs[j].kind = kd) ∧ Below w.heap.size w wr) (fun iv _ => vs.length - (intOf iv).toNat)
  case atStart => exact ⟨0, Nat.zero_le _, rfl, fun j _ h => absurd h (Nat.not_lt_zero _), Below.refl _ _⟩
  case round =>
    obtain ⟨k, hk, rfl, hA, hbe⟩ := hrel
    by_cases hkl : k < vs.length
    · have hkli : (k : Int) < (vs.length : Int) := by omega
      obtain ⟨b, o, rfl, ⟨q, cc, f0, f1, f2, f3, _⟩, hb⟩ := (HX.out.below hbe) k hkl
      obtain ⟨⟨xk, xn, xt, xl⟩, hy⟩ : ∃ y, y = vs[k] := ⟨_, rfl⟩
      rw [← hy] at f0 f1 f2 f3
      simp only at f0 f1 f2 f3
      have HBA := Lib.hid (hbe.alloc hbe.size (.cells #[.int .i64 xk, .int .i64 xn, .string (S xt), .slice q xl.length cc] 52))
      have HA := Lib.hid hA
      have HY := Lib.hid hy
      clear hA hbe hy
      by_cases h1 : xk = kd
      · subst h1
        go_wp2_with fail
        go_roundw
        case rel => exact ⟨k + 1, by omega, by go_num, fun j hj hjk => by
          by_cases e : j = k
          · subst e; rw [← HY.out]
          · exact HA.out j hj (by omega), HBA.out⟩
        case measure => simp [intOf]; omega
      · have e1 : (xk != kd) = true := by simpa using h1
        have HM := Lib.hid (HMISS.out k hkl (by rw [← HY.out]; exact h1))
        clear h1
        go_wp2_with fail
        go_ret
        exact ⟨by rw [HM.out]; rfl, HBA.out⟩
    · have hkli : ¬ (k : Int) < (vs.length : Int) := by omega
      have HBE := Lib.hid hbe
      have HA := Lib.hid (HALL.out fun j hj => hA j hj (by omega))
      clear hA hbe
      go_wp2_with fail
      go_ret
      exact ⟨by rw [HA.out]; rfl, HBE.out⟩
end Go.Proofs.YtlmmfhbdebfgkaaGreatDoor.Ev
namespace Go.Proofs.YtlmmfhbdebfgkaaGreatDoor.Ev
open Go.RowKit
open Ex Lx Va
def intR (x : V × Nat) : Ending := if x.2 = 0 then .returned (.int .i64 x.1.num) else panE x.2
theorem intR_num (n : Int) : intR (numE n) = numP n := by
  unfold intR numE numP
  by_cases h : fits64 n = true
  · rw [if_pos h, if_pos h]; rfl
  · rw [if_neg h, if_neg h]; rfl
theorem tmod_fits {a b : Int} (ha : I64 a) (hb : I64 b) (h0 : b ≠ 0) : fits64 (a.tmod b) = true := by
  have h1 := ha.lo; have h2 := ha.hi; have h3 := hb.lo; have h4 := hb.hi
  have e : (a.tmod b).natAbs = a.natAbs % b.natAbs := Int.natAbs_tmod a b
  have : a.natAbs % b.natAbs < b.natAbs := Nat.mod_lt _ (by omega)
  simp [fits64]; omega
def arithL (o : Int) (l : List Int) : V × Nat := if o = 11 then numE (-(l.getD 0 0)) else arithE o (l.getD 0 0) (l.getD 1 0)
theorem comp_any (o : Int) (l : List Int) (ho : (o = 11 ∧ l.length = 1) ∨ ((o = 20 ∨ o = 21 ∨ o = 22 ∨ o = 23 ∨ o = 24) ∧ l.length = 2)) (hI : ∀ n ∈ l, I64 n) (a : Option Addr) (c : Nat) (w : World) (hl : NumsAt w a l) :
    Calls Tryz.prog 149 #[.int .i64 o, .slice a l.length c] w fun e w' => e = intR (arithL o l) ∧ Below w.heap.size w w' := by
  rcases ho with ⟨rfl, h1⟩ | ⟨ho, h2⟩
  · match l, h1 with
    | [x], _ =>
      obtain ⟨g, off, rfl, hc, hg⟩ := hl 0 (by simp)
      have := comp_11 x (hI x (by simp)) g off c w hc
      have e : intR (arithL 11 [x]) = numP (0 - x) := by
        rw [show (0 : Int) - x = -x by omega, ← intR_num]; rfl
      rw [e]; exact this
  · match l, h2 with
    | [x, y], _ =>
      obtain ⟨g, off, rfl, hc, hg⟩ := hl 0 (by simp)
      obtain ⟨g', off', e', hc', hg'⟩ := hl 1 (by simp)
      obtain ⟨rfl, rfl⟩ : g = g' ∧ off = off' := by injection e' with e; injection e with e1 e2 _; exact ⟨e1, e2⟩
      have hx := hI x (by simp)
      have hy := hI y (by simp)
      rcases ho with rfl | rfl | rfl | rfl | rfl
      · rw [show intR (arithL 20 [x, y]) = numP (x * y) from (by rw [← intR_num]; rfl)]
        exact comp_20 x y hx hy g off c w hc hc'
      · have := comp_21 x y hx hy g off c w hc hc'
        rw [show intR (arithL 21 [x, y]) = (if y = 0 then panE 31 else numP (x.tdiv y)) from (by
          by_cases h0 : y = 0
          · rw [if_pos h0]; unfold arithL arithE; simp [h0, intR]
          · rw [if_neg h0, ← intR_num]; unfold arithL arithE; simp [h0])]
        exact this
      · have := comp_22 x y hx hy g off c w hc hc'
        rw [show intR (arithL 22 [x, y]) = (if y = 0 then panE 31 else .returned (.int .i64 (x.tmod y))) from (by
          by_cases h0 : y = 0
          · rw [if_pos h0]; unfold arithL arithE; simp [h0, intR]
          · rw [if_neg h0]
            have hf := tmod_fits hx hy h0
            have : intR (numE (x.tmod y)) = .returned (.int .i64 (x.tmod y)) := by rw [intR_num]; unfold numP; rw [if_pos hf]
            rw [← this]; unfold arithL arithE; simp [h0])]
        exact this
      · rw [show intR (arithL 23 [x, y]) = numP (x + y) from (by rw [← intR_num]; rfl)]
        exact comp_23 x y hx hy g off c w hc hc'
      · rw [show intR (arithL 24 [x, y]) = numP (x - y) from (by rw [← intR_num]; rfl)]
        exact comp_24 x y hx hy g off c w hc hc'
theorem intR_cases (x : V × Nat) : intR x = .returned (.int .i64 x.1.num) ∨ ∃ k : Nat, intR x = panE (k : Int) := by
  unfold intR
  split
  · exact .inl rfl
  · exact .inr ⟨_, rfl⟩
end Go.Proofs.YtlmmfhbdebfgkaaGreatDoor.Ev
namespace Go.Proofs.YtlmmfhbdebfgkaaGreatDoor.Ev
open Go.RowKit
open Ex Lx Va
theorem I64.of_b {n : Int} (h : B64 n) : I64 n := ⟨h.1, h.2⟩
theorem op_arith (o n : Int) (t : List UInt8) (vs : List V) (ho : (o = 11 ∧ vs.length = 1) ∨ ((o = 20 ∨ o = 21 ∨ o = 22 ∨ o = 23 ∨ o = 24) ∧ vs.length = 2)) : opE o n t vs = if allV vs 1 = true then arithL o (vs.map (·.num)) else (zeroV, 23) := by
  have hm : ∀ i, (argV vs i).num = (vs.map (·.num)).getD i 0 := fun i => by
    unfold argV
    rw [List.getD_eq_getElem?_getD, List.getD_eq_getElem?_getD, List.getElem?_map]
    cases vs[i]? <;> rfl
  unfold opE arithL
  rw [← hm 0, ← hm 1]
  cases ha : allV vs 1 with
  | true =>
    rcases ho with ⟨rfl, _⟩ | ⟨ho, _⟩
    · simp
    · rcases ho with rfl | rfl | rfl | rfl | rfl <;> simp
  | false =>
    rcases ho with ⟨rfl, _⟩ | ⟨ho, _⟩
    · simp
    · rcases ho with rfl | rfl | rfl | rfl | rfl <;> simp
theorem number_c (o n : Int) (t : List UInt8) (p : Option Addr) (kk c : Nat) (vs : List V) (hg : ∀ v ∈ vs, Good v) (ho : (o = 11 ∧ vs.length = 1) ∨ ((o = 20 ∨ o = 21 ∨ o = 22 ∨ o = 23 ∨ o = 24) ∧ vs.length = 2)) (a : Option Addr) (cap : Nat) (w : World) (hx : ValsAt w a vs) :
    Calls Tryz.prog 96 #[.agg #[.int .i64 o, .int .i64 n, .string (S t), .slice p kk c], .slice a vs.length cap] w fun e w' => e = intR (opE o n t vs) ∧ Below w.heap.size w w' := by
  have hb := (Below.refl w.heap.size w).alloc (Nat.le_refl _) (.cells #[.int .i64 o, .int .i64 n, .string (S t), .slice p kk c] 24)
  have hx2 := hx.below hb.drew
  have hn := numbers_any vs (by rcases ho with ⟨_, h⟩ | ⟨_, h⟩ <;> omega) a cap _ hx2
  have HB := Lib.hid hb.drew
  have e1 : (o == 1) = false := by simp; omega
  have e12 : (o == 12) = false := by simp; omega
  have e25 : (o == 25) = false := by simp; omega
  rw [op_arith o n t vs ho]
  cases ha : allV vs 1 with
  | true =>
    rw [if_pos rfl]
    have HN := Lib.hid (hn.mono (R' := fun e w' => (∃ a' c', e = .returned (.slice a' vs.length c') ∧ NumsAt w' a' (vs.map (·.num))) ∧ Below (w.alloc (.cells #[.int .i64 o, .int .i64 n, .string (S t), .slice p kk c] 24)).drew.heap.size (w.alloc (.cells #[.int .i64 o, .int .i64 n, .string (S t), .slice p kk c] 24)).drew w') (fun e w' h => by
      refine ⟨?_, h.2⟩
      rcases h.1 with ⟨_, a', c', h, hf⟩ | ⟨h, _⟩
      · exact ⟨a', c', h, hf.1⟩
      · rw [ha] at h; cases h))
    have HC := Lib.hid (fun a' c' w' (h : NumsAt w' a' (vs.map (·.num))) => comp_any o (vs.map (·.num)) (by simpa using ho) (fun m hm => by
      obtain ⟨v, hv, rfl⟩ := List.mem_map.1 hm
      exact I64.of_b (hg v hv).num) a' c' w' h)
    simp only [List.length_map] at HC
    clear hb hx hx2 hn ho hg
    generalize vs.map (·.num) = ns at *
    rcases intR_cases (arithL o ns) with hR | ⟨k, hR⟩
    · rw [hR] at HC ⊢
      generalize (arithL o ns).1.num = m at *
      clear hR
      go_enter Tryz.func96, Tryz.ntmps96
      go_wp2_with fail
      go_region_law (first
        | (go_simp; go_at_call 94; refine HN.out.mono ?_; rintro e w5 ⟨⟨a', c', rfl, hn5⟩, b5⟩; have q0 : w5.cell? ⟨w.heap.size, 0, none⟩ = some (.int .i64 o) := (b5.cell (p := ⟨w.heap.size, 0, none⟩) (by simp)).trans (by simp))
        | (go_simp; go_at_call 149; refine (HC.out _ _ _ (by assumption)).mono ?_; rintro e w6 ⟨rfl, b6⟩))
      all_goals
        have HBE := Lib.hid (HB.out.trans (b5.mono HB.out.size))
        go_wp2_with fail
        go_ret
        exact ⟨rfl, HBE.out.trans (b6.mono HBE.out.size)⟩
    · rw [hR] at HC ⊢
      clear hR
      go_enter Tryz.func96, Tryz.ntmps96
      go_wp2_with fail
      go_region_dies
      all_goals
        rename_i hK
        refine HN.out.mono ?_
        rintro e w5 ⟨⟨a', c', rfl, hn5⟩, b5⟩
        have q0 : w5.cell? ⟨w.heap.size, 0, none⟩ = some (.int .i64 o) := (b5.cell (p := ⟨w.heap.size, 0, none⟩) (by simp)).trans (by simp)
        have HBE := Lib.hid (HB.out.trans (b5.mono HB.out.size))
        refine hK _ _ ?_
        clear hK
      · refine wpAny_ready (rs := [4]) (by kernel_rfl) (by simp) ?_
        refine AllReady.cons rfl (fun K2 hK2 => ?_) AllReady.nil
        go_simp
        refine (HC.out _ _ _ hn5).mono ?_
        rintro e w6 ⟨rfl, b6⟩
        unfold panE
        go_simp
        exact ⟨rfl, rfl, HBE.out.trans (b6.mono HBE.out.size)⟩
      · refine wpAny_ready (rs := [1]) (by kernel_rfl) (by simp) ?_
        refine AllReady.cons rfl (fun K1 hK1 => ?_) AllReady.nil
        go_simp
        refine hK1 _ _ ?_
        clear hK1
        refine wpAny_ready (rs := [4]) (by kernel_rfl) (by simp) ?_
        refine AllReady.cons rfl (fun K2 hK2 => ?_) AllReady.nil
        go_simp
        refine (HC.out _ _ _ hn5).mono ?_
        rintro e w6 ⟨rfl, b6⟩
        unfold panE
        go_simp
        exact ⟨rfl, rfl, HBE.out.trans (b6.mono HBE.out.size)⟩
  | false =>
    rw [if_neg (by decide)]
    have HN := Lib.hid (hn.mono (R' := fun e w' => e = panE 23 ∧ Below (w.alloc (.cells #[.int .i64 o, .int .i64 n, .string (S t), .slice p kk c] 24)).drew.heap.size (w.alloc (.cells #[.int .i64 o, .int .i64 n, .string (S t), .slice p kk c] 24)).drew w') (fun e w' h => by
      refine ⟨?_, h.2⟩
      rcases h.1 with ⟨h, _⟩ | ⟨_, h⟩
      · rw [ha] at h; cases h
      · exact h))
    clear hb hx hx2 hn ho hg
    go_enter Tryz.func96, Tryz.ntmps96
    go_wp2_with fail
    go_region_dies
    all_goals
      refine HN.out.mono ?_
      rintro e w5 ⟨rfl, b5⟩
      unfold panE
      go_wp2_with fail
      exact ⟨rfl, rfl, HB.out.trans (b5.mono HB.out.size)⟩
end Go.Proofs.YtlmmfhbdebfgkaaGreatDoor.Ev
namespace Go.Proofs.YtlmmfhbdebfgkaaGreatDoor.Ev
open Go.RowKit
open Ex Lx Va
theorem number_1 (n : Int) (t : List UInt8) (p : Option Addr) (kk c : Nat) (a : Option Addr) (k cap : Nat) (w : World) :
    Calls Tryz.prog 96 #[.agg #[.int .i64 1, .int .i64 n, .string (S t), .slice p kk c], .slice a k cap] w fun e w' => e = .returned (.int .i64 n) ∧ Below w.heap.size w w' := by
  have HB := Lib.hid ((Below.refl w.heap.size w).alloc (Nat.le_refl _) (.cells #[.int .i64 1, .int .i64 n, .string (S t), .slice p kk c] 24))
  go_enter Tryz.func96, Tryz.ntmps96
  go_wp2_with fail
  go_ret
  exact ⟨rfl, HB.out⟩
theorem number_12 (n : Int) (t : List UInt8) (p : Option Addr) (kk c : Nat) (x : V) (a : Option Addr) (cap : Nat) (w : World) (hx : ValsAt w a [x]) :
    Calls Tryz.prog 96 #[.agg #[.int .i64 12, .int .i64 n, .string (S t), .slice p kk c], .slice a 1 cap] w fun e w' => e = intR (opE 12 n t [x]) ∧ Below w.heap.size w w' := by
  have hb := (Below.refl w.heap.size w).alloc (Nat.le_refl _) (.cells #[.int .i64 12, .int .i64 n, .string (S t), .slice p kk c] 24)
  obtain ⟨b, o, rfl, ⟨q, cc, h0, h1, h2, h3, _⟩, hl⟩ := hx.below hb 0 (by simp)
  simp only [List.getElem_cons_zero, Nat.zero_mul, Nat.add_zero] at h0 h1 h2 h3
  have HB := Lib.hid hb
  have HR := Lib.hid (show intR (opE 12 n t [x]) = (if x.kind = 5 then .returned (.int .i64 (x.list.length : Int)) else if x.kind = 3 then .returned (.int .i64 (x.text.length : Int)) else panE 23) from by
    unfold opE argV
    simp only [List.getD_cons_zero]
    by_cases h5 : x.kind = 5
    · simp [h5, intR, intV]
    · by_cases h3 : x.kind = 3
      · simp [h3, intR, intV]
      · simp [h5, h3, intR])
  rw [HR.out]
  clear hb HR
  obtain ⟨xk, xn, xt, xl⟩ := x
  simp only at h0 h1 h2 h3 ⊢
  have HS := Lib.hid (fun W => size_any xk xn xt q xl.length cc W)
  unfold vA at HS
  generalize xl.length = ln at *
  by_cases h5 : xk = 5
  · subst h5
    simp only [if_true] at HS ⊢
    go_enter Tryz.func96, Tryz.ntmps96
    go_wp2_with fail
    refine (HS.out _).mono ?_
    rintro e w2 ⟨rfl, b2⟩
    have HB2 := Lib.hid (HB.out.trans (b2.mono HB.out.size))
    clear b2
    go_wp2_with fail
    go_ret
    exact ⟨rfl, HB2.out⟩
  by_cases h3 : xk = 3
  · subst h3
    simp only [if_neg h5, if_true] at HS ⊢
    go_enter Tryz.func96, Tryz.ntmps96
    go_wp2_with fail
    refine (HS.out _).mono ?_
    rintro e w2 ⟨rfl, b2⟩
    have HB2 := Lib.hid (HB.out.trans (b2.mono HB.out.size))
    clear b2
    go_wp2_with fail
    go_ret
    exact ⟨rfl, HB2.out⟩
  · simp only [if_neg h5, if_neg h3] at HS ⊢
    go_enter Tryz.func96, Tryz.ntmps96
    go_wp2_with fail
    refine (HS.out _).mono ?_
    rintro e w2 ⟨rfl, b2⟩
    have HB2 := Lib.hid (HB.out.trans (b2.mono HB.out.size))
    clear b2
    unfold panE
    go_wp2_with fail
    exact ⟨rfl, rfl, HB2.out⟩
end Go.Proofs.YtlmmfhbdebfgkaaGreatDoor.Ev
namespace Go.Proofs.YtlmmfhbdebfgkaaGreatDoor.Va
open Go.RowKit
theorem isNaN_int (a : Int) (w : World) : Calls Tryz.prog 216 #[.int .i64 a] w fun e w' => e = .returned (.bool false) ∧ w = w' := by
  go_enter Tryz.func216, Tryz.ntmps216
  go_wp2_with fail
  go_ret
  exact ⟨rfl, rfl⟩
theorem isNaN_int64 (a : Int) (w : World) : Calls Tryz.prog 217 #[.int .i64 a] w fun e w' => e = .returned (.bool false) ∧ w = w' := by
  go_enter Tryz.func217, Tryz.ntmps217
  go_wp2_with fail
  go_ret
  exact ⟨rfl, rfl⟩
theorem isNaN_string (s : ByteArray) (w : World) : Calls Tryz.prog 218 #[.string s] w fun e w' => e = .returned (.bool false) ∧ w = w' := by
  have e1 : (s.toList == s.toList) = true := by simp
  go_enter Tryz.func218, Tryz.ntmps218
  go_wp2_with fail
  go_ret
  exact ⟨rfl, rfl⟩
theorem compare_int (a b : Int) (w : World) :
    Calls Tryz.prog 180 #[.int .i64 a, .int .i64 b] w fun e w' => e = .returned (.int .i64 (ordI a b)) ∧ w = w' := by
  have hn := isNaN_int
  have HN := Lib.hid hn
  clear hn
  by_cases h1 : a < b
  · have e : ordI a b = -1 := if_pos h1
    rw [e]
    clear e
    go_enter Tryz.func180, Tryz.ntmps180
    go_wp2_with fail
    refine (HN.out _ _).mono ?_
    rintro e w' ⟨rfl, rfl⟩
    go_wp2_with fail
    refine (HN.out _ _).mono ?_
    rintro e w' ⟨rfl, rfl⟩
    go_wp2_with fail
    go_ret
    exact ⟨rfl, rfl⟩
  · by_cases h2 : b < a
    · have e : ordI a b = 1 := by unfold ordI; rw [if_neg h1, if_pos h2]
      rw [e]
      clear e
      go_enter Tryz.func180, Tryz.ntmps180
      go_wp2_with fail
      refine (HN.out _ _).mono ?_
      rintro e w' ⟨rfl, rfl⟩
      go_wp2_with fail
      refine (HN.out _ _).mono ?_
      rintro e w' ⟨rfl, rfl⟩
      go_wp2_with fail
      go_ret
      exact ⟨rfl, rfl⟩
    · have e : ordI a b = 0 := by unfold ordI; rw [if_neg h1, if_neg h2]
      rw [e]
      clear e
      go_enter Tryz.func180, Tryz.ntmps180
      go_wp2_with fail
      refine (HN.out _ _).mono ?_
      rintro e w' ⟨rfl, rfl⟩
      go_wp2_with fail
      refine (HN.out _ _).mono ?_
      rintro e w' ⟨rfl, rfl⟩
      go_wp2_with fail
      go_ret
      exact ⟨rfl, rfl⟩
theorem compare_int64 (a b : Int) (w : World) :
    Calls Tryz.prog 181 #[.int .i64 a, .int .i64 b] w fun e w' => e = .returned (.int .i64 (ordI a b)) ∧ w = w' := by
  have hn := isNaN_int64
  have HN := Lib.hid hn
  clear hn
  by_cases h1 : a < b
  · have e : ordI a b = -1 := if_pos h1
    rw [e]
    clear e
    go_enter Tryz.func181, Tryz.ntmps181
    go_wp2_with fail
    refine (HN.out _ _).mono ?_
    rintro e w' ⟨rfl, rfl⟩
    go_wp2_with fail
    refine (HN.out _ _).mono ?_
    rintro e w' ⟨rfl, rfl⟩
    go_wp2_with fail
    go_ret
    exact ⟨rfl, rfl⟩
  · by_cases h2 : b < a
    · have e : ordI a b = 1 := by unfold ordI; rw [if_neg h1, if_pos h2]
      rw [e]
      clear e
      go_enter Tryz.func181, Tryz.ntmps181
      go_wp2_with fail
      refine (HN.out _ _).mono ?_
      rintro e w' ⟨rfl, rfl⟩
      go_wp2_with fail
      refine (HN.out _ _).mono ?_
      rintro e w' ⟨rfl, rfl⟩
      go_wp2_with fail
      go_ret
      exact ⟨rfl, rfl⟩
    · have e : ordI a b = 0 := by unfold ordI; rw [if_neg h1, if_neg h2]
      rw [e]
      clear e
      go_enter Tryz.func181, Tryz.ntmps181
      go_wp2_with fail
      refine (HN.out _ _).mono ?_
      rintro e w' ⟨rfl, rfl⟩
      go_wp2_with fail
      refine (HN.out _ _).mono ?_
      rintro e w' ⟨rfl, rfl⟩
      go_wp2_with fail
      go_ret
      exact ⟨rfl, rfl⟩
theorem bytesLess_asymm : ∀ (a b : List UInt8), a ≠ b → Op.bytesLess b a = !Op.bytesLess a b := by
  intro a b h
  have h1 := less_T a b h
  have h2 := less_T b a (fun e => h e.symm)
  have h3 := cmpT.swap a b
  cases x : Op.bytesLess a b <;> cases y : Op.bytesLess b a <;> rw [x] at h1 <;> rw [y] at h2 <;> simp at h1 h2 ⊢ <;> omega
theorem bytesLess_self : ∀ (a : List UInt8), Op.bytesLess a a = false
  | [] => rfl
  | c :: r => by unfold Op.bytesLess; simp [bytesLess_self r, UInt8.lt_irrefl]
theorem compare_string (a b : List UInt8) (w : World) :
    Calls Tryz.prog 182 #[.string (S a), .string (S b)] w fun e w' => e = .returned (.int .i64 (ordT a b)) ∧ w = w' := by
  have hn := isNaN_string
  have HN := Lib.hid hn
  clear hn
  by_cases hab : a = b
  · subst hab
    have e : ordT a a = 0 := (cmpT.zero a a).2 rfl
    have l1 : Op.bytesLess (S a).toList (S a).toList = false := by rw [S_less]; exact bytesLess_self a
    rw [e]
    clear e
    go_enter Tryz.func182, Tryz.ntmps182
    go_wp2_with fail
    refine (HN.out _ _).mono ?_
    rintro e w' ⟨rfl, rfl⟩
    go_wp2_with fail
    refine (HN.out _ _).mono ?_
    rintro e w' ⟨rfl, rfl⟩
    go_wp2_with fail
    go_ret
    exact ⟨rfl, rfl⟩
  · have hl := less_T a b hab
    have hs := bytesLess_asymm a b hab
    cases hb : Op.bytesLess a b with
    | true =>
      rw [hb, if_pos rfl] at hl
      have l1 : Op.bytesLess (S a).toList (S b).toList = true := by rw [S_less]; exact hb
      rw [hl]
      clear hl hs hab hb
      go_enter Tryz.func182, Tryz.ntmps182
      go_wp2_with fail
      refine (HN.out _ _).mono ?_
      rintro e w' ⟨rfl, rfl⟩
      go_wp2_with fail
      refine (HN.out _ _).mono ?_
      rintro e w' ⟨rfl, rfl⟩
      go_wp2_with fail
      go_ret
      exact ⟨rfl, rfl⟩
    | false =>
      rw [hb, if_neg (by simp)] at hl
      have l1 : Op.bytesLess (S a).toList (S b).toList = false := by rw [S_less]; exact hb
      have l2 : Op.bytesLess (S b).toList (S a).toList = true := by rw [S_less, hs, hb]; rfl
      have l3 : ((S a).toList == (S b).toList) = false := by rw [S_beq]; simpa using hab
      rw [hl]
      clear hl hs hab hb
      go_enter Tryz.func182, Tryz.ntmps182
      go_wp2_with fail
      refine (HN.out _ _).mono ?_
      rintro e w' ⟨rfl, rfl⟩
      go_wp2_with fail
      refine (HN.out _ _).mono ?_
      rintro e w' ⟨rfl, rfl⟩
      go_wp2_with fail
      go_ret
      exact ⟨rfl, rfl⟩
theorem compare_list (x y : List Int) (hx1 : x.length ≤ 9223372036854775807) (hy1 : y.length ≤ 9223372036854775807) (ax ay : Option Addr) (cx cy : Nat) (w : World) (hx : NumsAt w ax x) (hy : NumsAt w ay y) :
    Calls Tryz.prog 183 #[.slice ax x.length cx, .slice ay y.length cy] w fun e w' => e = .returned (.int .i64 (ordL x y)) ∧ w = w' := by
  have HX := Lib.hid hx
  have HY := Lib.hid hy
  have HC := Lib.hid compare_int64
  clear hx hy
  go_enter Tryz.func183, Tryz.ntmps183
  go_wp2_with fail
  go_loop [11] (fun i => ∃ k : Nat, k ≤ x.length ∧ k ≤ y.length ∧ i = .int .i64 k ∧ preB x y k = true) (fun i => x.length - (intOf i).toNat)
  case atStart => exact ⟨0, by omega, by omega, rfl, preB_zero x y⟩
  case round =>
    obtain ⟨k, hk1, hk2, rfl, hp⟩ := hrel
    have HP := Lib.hid hp
    clear hp
    by_cases h1 : k < x.length
    · by_cases h2 : k < y.length
      · obtain ⟨g1, o1, rfl, q1, hg1⟩ := HX.out k h1
        obtain ⟨g2, o2, rfl, q2, hg2⟩ := HY.out k h2
        have hn := preB_succ x y k h1 h2
        rw [HP.out, Bool.true_and] at hn
        have hat := ordL_at x y k h1 h2 HP.out
        have hji1 : (k : Int) < (x.length : Int) := by omega
        have hji2 : (k : Int) < (y.length : Int) := by omega
        generalize x.getD k 0 = u at *
        generalize y.getD k 0 = u' at *
        have HN := Lib.hid hn
        have HAT := Lib.hid hat
        clear hn hat hg1 hg2
        by_cases he : u = u'
        · have e0 : ordI u u' = 0 := by rw [he]; unfold ordI; rw [if_neg (by omega), if_neg (by omega)]
          have HE := Lib.hid (show (u == u') = true by simpa using he)
          have hc : ∀ w, Calls Tryz.prog 181 #[.int .i64 u, .int .i64 u'] w fun e w' => e = .returned (.int .i64 0) ∧ w = w' := fun w => by
            have := HC.out u u' w
            rwa [e0] at this
          have HC2 := Lib.hid hc
          clear he e0 hc
          go_wp2_with fail
          refine (HC2.out _).mono ?_
          rintro e w' ⟨rfl, rfl⟩
          go_wp2_with fail
          go_round
          case rel => exact ⟨k + 1, by omega, by omega, by go_num, by rw [HN.out, HE.out]⟩
          case measure => simp [intOf]; omega
        · have e0 : (ordI u u' == 0) = false := by
            have := (cmpI.zero u u')
            simp only [beq_eq_false_iff_ne, ne_eq, this]; exact he
          have e1 : (ordI u u' != 0) = true := by simp only [bne, e0]; rfl
          have HRES := Lib.hid (HAT.out he).symm
          have hc : ∀ w, Calls Tryz.prog 181 #[.int .i64 u, .int .i64 u'] w fun e w' => e = .returned (.int .i64 (ordI u u')) ∧ w = w' := HC.out u u'
          generalize ordI u u' = r at *
          have HC2 := Lib.hid hc
          clear he hc
          go_wp2_with fail
          refine (HC2.out _).mono ?_
          rintro e w' ⟨rfl, rfl⟩
          go_wp2_with fail
          go_ret
          exact ⟨ret_i HRES.out, rfl⟩
      · obtain rfl : k = y.length := by omega
        obtain ⟨g1, o1, rfl, q1, hg1⟩ := HX.out y.length h1
        have hend := ordL_end x y _ hk1 hk2 (.inr rfl) HP.out
        have hres : ordI (x.length : Int) (y.length : Int) = 1 := by unfold ordI; rw [if_neg (by omega), if_pos (by omega)]
        rw [hres] at hend
        have HRES := Lib.hid hend.symm
        have hji1 : (y.length : Int) < (x.length : Int) := by omega
        clear hend hres hg1
        go_wp2_with fail
        go_ret
        exact ⟨ret_i HRES.out, rfl⟩
    · obtain rfl : k = x.length := by omega
      have hend := ordL_end x y _ hk1 hk2 (.inl rfl) HP.out
      by_cases h2 : x.length < y.length
      · have hres : ordI (x.length : Int) (y.length : Int) = -1 := by unfold ordI; rw [if_pos (by omega)]
        rw [hres] at hend
        have HRES := Lib.hid hend.symm
        have hji : (x.length : Int) < (y.length : Int) := by omega
        clear hend hres
        go_wp2_with fail
        go_ret
        exact ⟨ret_i HRES.out, rfl⟩
      · have hres : ordI (x.length : Int) (y.length : Int) = 0 := by unfold ordI; rw [if_neg (by omega), if_neg (by omega)]
        rw [hres] at hend
        have HRES := Lib.hid hend.symm
        have hji : ¬ (x.length : Int) < (y.length : Int) := by omega
        clear hend hres
        go_wp2_with fail
        go_ret
        exact ⟨ret_i HRES.out, rfl⟩
def or4 (a b c d : Int) : Int := if a ≠ 0 then a else if b ≠ 0 then b else if c ≠ 0 then c else d
def nth4 (a b c d : Int) (k : Nat) : Int := if k = 0 then a else if k = 1 then b else if k = 2 then c else d
theorem or4_hit (a b c d : Int) (k : Nat) (hk : k < 4) (h0 : ∀ j, j < k → nth4 a b c d j = 0) (h : nth4 a b c d k ≠ 0) : nth4 a b c d k = or4 a b c d := by
  have := h0 0
  have := h0 1
  have := h0 2
  have hk' : k = 0 ∨ k = 1 ∨ k = 2 ∨ k = 3 := by omega
  rcases hk' with rfl | rfl | rfl | rfl <;> simp_all [nth4, or4]
theorem or4_none (a b c d : Int) (h0 : ∀ j, j < 4 → nth4 a b c d j = 0) : or4 a b c d = 0 := by
  have := h0 0
  have := h0 1
  have := h0 2
  have := h0 3
  simp_all [nth4, or4]
theorem or_any (a b c d : Int) (g cap : Nat) (w : World) (h : ∀ k, k < 4 → w.cell? ⟨g, k, none⟩ = some (.int .i64 (nth4 a b c d k))) :
    Calls Tryz.prog 179 #[.slice (some ⟨g, 0, none⟩) 4 cap] w fun e w' => e = .returned (.int .i64 (or4 a b c d)) ∧ w = w' := by
  have HH := Lib.hid h
  clear h
  go_enter Tryz.func179, Tryz.ntmps179
  go_wp2_with fail
  go_loop [8] (fun i => ∃ k : Nat, k ≤ 4 ∧ i = .int .i64 k ∧ Hid (∀ j, j < k → nth4 a b c d j = 0)) (fun i => 4 - (intOf i).toNat)
  case atStart => exact ⟨0, by omega, rfl, Lib.hid (fun j hj => absurd hj (by omega))⟩
  case round =>
    obtain ⟨k, hk, rfl, hno⟩ := hrel
    by_cases hlt : k < 4
    · have q := HH.out k hlt
      have hki : (k : Int) < 4 := by omega
      have hhit := or4_hit a b c d k hlt hno.out
      have hstep : nth4 a b c d k = 0 → Hid (∀ j, j < k + 1 → nth4 a b c d j = 0) := fun e => Lib.hid (fun j hj => by
        by_cases ej : j = k
        · subst ej; exact e
        · exact hno.out j (by omega))
      generalize nth4 a b c d k = u at *
      have HHIT := Lib.hid hhit
      have HST := Lib.hid hstep
      clear hhit hstep
      by_cases hu : u = 0
      · subst hu
        have HN := HST.out rfl
        clear hno
        go_wp2_with fail
        go_round
        case rel => exact ⟨k + 1, by omega, by go_num, HN⟩
        case measure => simp [intOf]; omega
      · have e1 : (u == 0) = false := by simpa using hu
        have e2 : (u != 0) = true := by simpa using hu
        have HR := Lib.hid (HHIT.out hu)
        clear hu hno
        go_wp2_with fail
        go_ret
        exact ⟨ret_i HR.out, rfl⟩
    · obtain rfl : k = 4 := by omega
      have HR := Lib.hid (or4_none a b c d hno.out).symm
      clear hno
      go_wp2_with fail
      go_ret
      exact ⟨ret_i HR.out, rfl⟩
theorem equal_list (x y : List Int) (hx1 : x.length ≤ 9223372036854775807) (ax ay : Option Addr) (cx cy : Nat) (w : World) (hx : NumsAt w ax x) (hy : NumsAt w ay y) :
    Calls Tryz.prog 178 #[.slice ax x.length cx, .slice ay y.length cy] w fun e w' => e = .returned (.bool (x == y)) ∧ Below w.heap.size w w' := by
  have HX := Lib.hid hx
  have HY := Lib.hid hy
  clear hx hy
  by_cases hl : x.length = y.length
  · have HL := Lib.hid hl
    rw [← hl]
    have HALL := Lib.hid (preB_all x y hl)
    clear hl
    go_enter Tryz.func178, Tryz.ntmps178
    go_wp2_with fail
    go_loopw [13] (fun i wr => ∃ k : Nat, k ≤ x.length ∧ i = .int .i64 k ∧ Hid (preB x y k = true) ∧ Below w.heap.size w wr) (fun i _ => x.length - (intOf i).toNat)
    case atStart => exact ⟨0, by omega, rfl, Lib.hid (preB_zero x y), Below.refl _ _⟩
    case round =>
      obtain ⟨k, hk, rfl, HP, hb⟩ := hrel
      have HB := Lib.hid hb
      clear hb
      by_cases h1 : k < x.length
      · have h2 : k < y.length := by rw [← HL.out]; exact h1
        obtain ⟨g1, o1, rfl, q1, hg1⟩ := HX.out k h1
        obtain ⟨g2, o2, rfl, q2, hg2⟩ := HY.out k h2
        have r1 := (HB.out.cell (p := ⟨g1, o1 + k, none⟩) hg1).trans q1
        have r2 := (HB.out.cell (p := ⟨g2, o2 + k, none⟩) hg2).trans q2
        have hn := preB_succ x y k h1 h2
        rw [HP.out, Bool.true_and] at hn
        have hf := preB_false x y (k + 1)
        rw [hn] at hf
        have hji1 : (k : Int) < (x.length : Int) := by omega
        generalize x.getD k 0 = u at *
        generalize y.getD k 0 = u' at *
        have HN := Lib.hid hn
        have HF := Lib.hid hf
        have HBD := Lib.hid (show Below w.heap.size w wr.drew from ⟨HB.out.os, HB.out.tape, HB.out.output, HB.out.size, HB.out.block⟩)
        clear hn hf q1 q2 hg1 hg2
        by_cases he : u = u'
        · have e1 : (u == u') = true := by simpa using he
          have e2 : (u != u') = false := by simpa using he
          have HE := Lib.hid e1
          clear he
          go_wp2_with fail
          go_quiet (fail)
          go_wp2_with fail
          go_roundw
          case rel => exact ⟨k + 1, by omega, by go_num, Lib.hid (by rw [HN.out, HE.out]), ⟨HB.out.os, HB.out.tape, HB.out.output, HB.out.size, HB.out.block⟩⟩
          case measure => simp [intOf]; omega
        · have e1 : (u == u') = false := by simpa using he
          have e2 : (u != u') = true := by simpa using he
          have HR := Lib.hid (HF.out e1).symm
          clear he
          go_wp2_with fail
          go_quiet (fail)
          go_wp2_with fail
          go_ret
          exact ⟨ret_b HR.out, ⟨HB.out.os, HB.out.tape, HB.out.output, HB.out.size, HB.out.block⟩⟩
      · obtain rfl : k = x.length := by omega
        have HR := Lib.hid (show true = (x == y) by rw [← HALL.out, HP.out])
        go_wp2_with fail
        go_ret
        exact ⟨ret_b HR.out, HB.out⟩
  · have HR := Lib.hid (show false = (x == y) from (by symm; simp only [beq_eq_false_iff_ne, ne_eq]; exact fun e => hl (by rw [e])))
    have e1 : ((x.length : Int) == (y.length : Int)) = false := by simp; omega
    have e2 : (x.length == y.length) = false := by simpa using hl
    have e3 : ((x.length : Int) != (y.length : Int)) = true := by simp; omega
    clear hl
    go_enter Tryz.func178, Tryz.ntmps178
    go_wp2_with fail
    go_ret
    exact ⟨ret_b HR.out, Below.refl _ _⟩
end Go.Proofs.YtlmmfhbdebfgkaaGreatDoor.Va
