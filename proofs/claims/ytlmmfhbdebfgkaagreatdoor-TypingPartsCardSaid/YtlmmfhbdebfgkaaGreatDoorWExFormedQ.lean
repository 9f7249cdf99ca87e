/-
  ExFormed, ExFormd.
-/
import Derived.Test.YtlmmfhbdebfgkaaGreatDoorWVlNameQ
import Derived.Deep.RegionWith
set_option linter.unusedVariables false
set_option linter.unusedSimpArgs false
set_option maxRecDepth 100000
set_option maxHeartbeats 8000000
namespace Go.Proofs.YtlmmfhbdebfgkaaGreatDoor.Ex
open Go.RowKit
open Lx
theorem two_boxes (w : World) (a b : Obj) : Below w.heap.size w ((w.alloc a).alloc b).drew := (((Below.refl _ _).alloc (Nat.le_refl _) a).alloc (by simp) b).drew
theorem formed_1 (num : Int) (t : List UInt8) (q : Option Addr) (k c : Nat) (hk : k ≤ 281474976710656) (htl : t.length ≤ 281474976710656) (w : World) :
    Calls Tryz.prog 34 #[.agg #[.int .i64 1, .int .i64 num, .string (S t), .slice q k c]] w fun e w' => e = .returned (.bool (formedB 1 num t k)) ∧ Below w.heap.size w w' := by
  have hx : ((S t).toList == ([] : List UInt8)) = t.isEmpty := by rw [eqB]; cases t <;> rfl
  have hs : (S t).size = t.length := S_size t
  go_enter Tryz.func34, Tryz.ntmps34
  go_wp2_with fail
  go_region_with (fail)
  all_goals go_wp2_with fail
  all_goals go_ret
  all_goals refine ⟨congrArg (fun b => Ending.returned (Value.bool b)) ?_, two_boxes _ _ _⟩
  all_goals have hkc : ((k : Int) == 0) = (k == 0) := by (rw [Bool.eq_iff_iff]; simp)
  all_goals (rcases t with _ | ⟨a, r⟩ <;> by_cases hk0 : k = 0 <;> by_cases hn0 : num = 0 <;> by_cases hn1 : num = 1 <;> simp_all [formedB, cntB, S_size] <;> omega)
theorem formed_2 (num : Int) (t : List UInt8) (q : Option Addr) (k c : Nat) (hk : k ≤ 281474976710656) (htl : t.length ≤ 281474976710656) (w : World) :
    Calls Tryz.prog 34 #[.agg #[.int .i64 2, .int .i64 num, .string (S t), .slice q k c]] w fun e w' => e = .returned (.bool (formedB 2 num t k)) ∧ Below w.heap.size w w' := by
  have hx : ((S t).toList == ([] : List UInt8)) = t.isEmpty := by rw [eqB]; cases t <;> rfl
  have hs : (S t).size = t.length := S_size t
  go_enter Tryz.func34, Tryz.ntmps34
  go_wp2_with fail
  go_region_with (fail)
  all_goals go_wp2_with fail
  all_goals go_ret
  all_goals refine ⟨congrArg (fun b => Ending.returned (Value.bool b)) ?_, two_boxes _ _ _⟩
  all_goals have hkc : ((k : Int) == 0) = (k == 0) := by (rw [Bool.eq_iff_iff]; simp)
  all_goals (rcases t with _ | ⟨a, r⟩ <;> by_cases hk0 : k = 0 <;> by_cases hn0 : num = 0 <;> by_cases hn1 : num = 1 <;> simp_all [formedB, cntB, S_size] <;> omega)
theorem formed_3 (num : Int) (t : List UInt8) (q : Option Addr) (k c : Nat) (hk : k ≤ 281474976710656) (htl : t.length ≤ 281474976710656) (w : World) :
    Calls Tryz.prog 34 #[.agg #[.int .i64 3, .int .i64 num, .string (S t), .slice q k c]] w fun e w' => e = .returned (.bool (formedB 3 num t k)) ∧ Below w.heap.size w w' := by
  have hx : ((S t).toList == ([] : List UInt8)) = t.isEmpty := by rw [eqB]; cases t <;> rfl
  have hs : (S t).size = t.length := S_size t
  go_enter Tryz.func34, Tryz.ntmps34
  go_wp2_with fail
  go_region_with (fail)
  all_goals go_wp2_with fail
  all_goals go_ret
  all_goals refine ⟨congrArg (fun b => Ending.returned (Value.bool b)) ?_, two_boxes _ _ _⟩
  all_goals have hkc : ((k : Int) == 0) = (k == 0) := by (rw [Bool.eq_iff_iff]; simp)
  all_goals (rcases t with _ | ⟨a, r⟩ <;> by_cases hk0 : k = 0 <;> by_cases hn0 : num = 0 <;> by_cases hn1 : num = 1 <;> simp_all [formedB, cntB, S_size] <;> omega)
theorem formed_4 (num : Int) (t : List UInt8) (q : Option Addr) (k c : Nat) (hk : k ≤ 281474976710656) (htl : t.length ≤ 281474976710656) (w : World) :
    Calls Tryz.prog 34 #[.agg #[.int .i64 4, .int .i64 num, .string (S t), .slice q k c]] w fun e w' => e = .returned (.bool (formedB 4 num t k)) ∧ Below w.heap.size w w' := by
  have hx : ((S t).toList == ([] : List UInt8)) = t.isEmpty := by rw [eqB]; cases t <;> rfl
  have hs : (S t).size = t.length := S_size t
  go_enter Tryz.func34, Tryz.ntmps34
  go_wp2_with fail
  go_region_with (fail)
  all_goals go_wp2_with fail
  all_goals go_ret
  all_goals refine ⟨congrArg (fun b => Ending.returned (Value.bool b)) ?_, two_boxes _ _ _⟩
  all_goals have hkc : ((k : Int) == 0) = (k == 0) := by (rw [Bool.eq_iff_iff]; simp)
  all_goals (rcases t with _ | ⟨a, r⟩ <;> by_cases hk0 : k = 0 <;> by_cases hn0 : num = 0 <;> by_cases hn1 : num = 1 <;> simp_all [formedB, cntB, S_size] <;> omega)
theorem formed_5 (num : Int) (t : List UInt8) (q : Option Addr) (k c : Nat) (hk : k ≤ 281474976710656) (htl : t.length ≤ 281474976710656) (w : World) :
    Calls Tryz.prog 34 #[.agg #[.int .i64 5, .int .i64 num, .string (S t), .slice q k c]] w fun e w' => e = .returned (.bool (formedB 5 num t k)) ∧ Below w.heap.size w w' := by
  have hx : ((S t).toList == ([] : List UInt8)) = t.isEmpty := by rw [eqB]; cases t <;> rfl
  have hs : (S t).size = t.length := S_size t
  go_enter Tryz.func34, Tryz.ntmps34
  go_wp2_with fail
  go_region_with (fail)
  all_goals go_wp2_with fail
  all_goals go_ret
  all_goals refine ⟨congrArg (fun b => Ending.returned (Value.bool b)) ?_, two_boxes _ _ _⟩
  all_goals have hkc : ((k : Int) == 0) = (k == 0) := by (rw [Bool.eq_iff_iff]; simp)
  all_goals (rcases t with _ | ⟨a, r⟩ <;> by_cases hk0 : k = 0 <;> by_cases hn0 : num = 0 <;> by_cases hn1 : num = 1 <;> simp_all [formedB, cntB, S_size] <;> omega)
theorem formed_6 (num : Int) (t : List UInt8) (q : Option Addr) (k c : Nat) (hk : k ≤ 281474976710656) (htl : t.length ≤ 281474976710656) (w : World) :
    Calls Tryz.prog 34 #[.agg #[.int .i64 6, .int .i64 num, .string (S t), .slice q k c]] w fun e w' => e = .returned (.bool (formedB 6 num t k)) ∧ Below w.heap.size w w' := by
  have hx : ((S t).toList == ([] : List UInt8)) = t.isEmpty := by rw [eqB]; cases t <;> rfl
  have hs : (S t).size = t.length := S_size t
  go_enter Tryz.func34, Tryz.ntmps34
  go_wp2_with fail
  go_region_with (fail)
  all_goals go_wp2_with fail
  all_goals go_ret
  all_goals refine ⟨congrArg (fun b => Ending.returned (Value.bool b)) ?_, two_boxes _ _ _⟩
  all_goals have hkc : ((k : Int) == 0) = (k == 0) := by (rw [Bool.eq_iff_iff]; simp)
  all_goals (rcases t with _ | ⟨a, r⟩ <;> by_cases hk0 : k = 0 <;> by_cases hn0 : num = 0 <;> by_cases hn1 : num = 1 <;> simp_all [formedB, cntB, S_size] <;> omega)
theorem formed_7 (num : Int) (t : List UInt8) (q : Option Addr) (k c : Nat) (hk : k ≤ 281474976710656) (htl : t.length ≤ 281474976710656) (w : World) :
    Calls Tryz.prog 34 #[.agg #[.int .i64 7, .int .i64 num, .string (S t), .slice q k c]] w fun e w' => e = .returned (.bool (formedB 7 num t k)) ∧ Below w.heap.size w w' := by
  have hx : ((S t).toList == ([] : List UInt8)) = t.isEmpty := by rw [eqB]; cases t <;> rfl
  have hs : (S t).size = t.length := S_size t
  go_enter Tryz.func34, Tryz.ntmps34
  go_wp2_with fail
  go_region_with (fail)
  all_goals go_wp2_with fail
  all_goals go_ret
  all_goals refine ⟨congrArg (fun b => Ending.returned (Value.bool b)) ?_, two_boxes _ _ _⟩
  all_goals have hkc : ((k : Int) == 0) = (k == 0) := by (rw [Bool.eq_iff_iff]; simp)
  all_goals (rcases t with _ | ⟨a, r⟩ <;> by_cases hk0 : k = 0 <;> by_cases hn0 : num = 0 <;> by_cases hn1 : num = 1 <;> simp_all [formedB, cntB, S_size] <;> omega)
end Go.Proofs.YtlmmfhbdebfgkaaGreatDoor.Ex
namespace Go.Proofs.YtlmmfhbdebfgkaaGreatDoor.Ex
open Go.RowKit
open Lx
def cntC (x : Option Con) (k : Nat) : Bool := match x with
  | some c => (k : Int) == c.operands
  | none => false
theorem cntC_eq (op : Int) (k : Nat) (h : ¬ (1 ≤ op ∧ op ≤ 7)) : cntC (conOf op) k = cntB op k := by
  have hk1 : ((k : Int) == 1) = (k == 1) := by rw [Bool.eq_iff_iff]; simp; omega
  have hk2 : ((k : Int) == 2) = (k == 2) := by rw [Bool.eq_iff_iff]; simp; omega
  have hc : op = 41 ∨ op = 40 ∨ op = 30 ∨ op = 31 ∨ op = 32 ∨ op = 33 ∨ op = 23 ∨ op = 24 ∨ op = 20 ∨ op = 21 ∨ op = 22 ∨ op = 10 ∨ op = 11 ∨ op = 12 ∨ op = 25 ∨ op = 26 ∨
      (op ≠ 41 ∧ op ≠ 40 ∧ op ≠ 30 ∧ op ≠ 31 ∧ op ≠ 32 ∧ op ≠ 33 ∧ op ≠ 23 ∧ op ≠ 24 ∧ op ≠ 20 ∧ op ≠ 21 ∧ op ≠ 22 ∧ op ≠ 10 ∧ op ≠ 11 ∧ op ≠ 12 ∧ op ≠ 25 ∧ op ≠ 26) := by omega
  rcases hc with rfl | rfl | rfl | rfl | rfl | rfl | rfl | rfl | rfl | rfl | rfl | rfl | rfl | rfl | rfl | rfl | ⟨n1, n2, n3, n4, n5, n6, n7, n8, n9, n10, n11, n12, n13, n14, n15, n16⟩
  · exact hk2
  · exact hk2
  · exact hk2
  · exact hk2
  · exact hk2
  · exact hk2
  · exact hk2
  · exact hk2
  · exact hk2
  · exact hk2
  · exact hk2
  · exact hk1
  · exact hk1
  · exact hk1
  · exact hk2
  · exact hk2
  · have e : conOf op = none := by
      unfold conOf conL
      rw [List.find?_eq_none]
      intro x hx
      simp only [List.mem_cons, List.not_mem_nil, or_false] at hx
      rcases hx with rfl | rfl | rfl | rfl | rfl | rfl | rfl | rfl | rfl | rfl | rfl | rfl | rfl | rfl | rfl | rfl | rfl | rfl <;> simp <;> omega
    rw [e]
    unfold cntC cntB
    rw [if_neg (by omega), if_neg (by omega), if_neg (by omega), if_neg (by omega)]
theorem formedB_far (op num : Int) (t : List UInt8) (k : Nat) (h : ¬ (1 ≤ op ∧ op ≤ 7)) : formedB op num t k = (cntC (conOf op) k && (num == 0) && t.isEmpty) := by
  rw [cntC_eq op k h]
  have e1 : (op == 1) = false := by rw [beq_eq_false_iff_ne]; omega
  have e2 : (op == 2) = false := by rw [beq_eq_false_iff_ne]; omega
  have e3 : (op == 3) = false := by rw [beq_eq_false_iff_ne]; omega
  have e4 : (op == 4) = false := by rw [beq_eq_false_iff_ne]; omega
  have e6 : (op == 6) = false := by rw [beq_eq_false_iff_ne]; omega
  have e7 : (op == 7) = false := by rw [beq_eq_false_iff_ne]; omega
  unfold formedB
  rw [e1, e2, e3, e4, e6, e7]
  by_cases hn : num = 0
  · subst hn; simp
  · have : (num == 0) = false := by simpa using hn
    rw [this]; simp
theorem formed_far (op num : Int) (t : List UInt8) (q : Option Addr) (k c : Nat) (hk : k ≤ 281474976710656) (htl : t.length ≤ 281474976710656) (hop : ¬ (1 ≤ op ∧ op ≤ 7)) (w : World) (hC : ConsAt w) :
    Calls Tryz.prog 34 #[.agg #[.int .i64 op, .int .i64 num, .string (S t), .slice q k c]] w fun e w' => e = .returned (.bool (formedB op num t k)) ∧ Below w.heap.size w w' := by
  rw [formedB_far op num t k hop]
  have hx : ((S t).toList == ([] : List UInt8)) = t.isEmpty := by rw [eqB]; cases t <;> rfl
  have n1 : ¬ op = 1 := by omega
  have n2 : ¬ op = 2 := by omega
  have n3 : ¬ op = 3 := by omega
  have n4 : ¬ op = 4 := by omega
  have n5 : ¬ op = 5 := by omega
  have n6 : ¬ op = 6 := by omega
  have n7 : ¬ op = 7 := by omega
  have HC := Lib.hid (fun (w1 : World) (k : Below w.heap.size w w1) => constructOf_any op w1 (hC.keep (Kept.of_below (ok := fun _ => True) k) trivial))
  have HB0 := Lib.hid (two_boxes w (.cells #[.int .i64 op, .int .i64 num, .string (S t), .slice q k c] 24) (.cells #[.int .i64 op, .int .i64 num, .string (S t), .slice q k c] 24))
  have HX0 := Lib.hid (show Bx (((w.alloc (.cells #[.int .i64 op, .int .i64 num, .string (S t), .slice q k c] 24)).alloc (.cells #[.int .i64 op, .int .i64 num, .string (S t), .slice q k c] 24)).drew) w.heap.size (.int .i64 op) (.int .i64 num) (.string (S t)) (.slice q k c) from (Bx.new w _ _ _ _).keep (Kept.alloc (ok := fun _ => True) _ _ |>.trans (Kept.of_below (Below.refl _ _).drew)) trivial)
  have HY0 := Lib.hid (show Bx (((w.alloc (.cells #[.int .i64 op, .int .i64 num, .string (S t), .slice q k c] 24)).alloc (.cells #[.int .i64 op, .int .i64 num, .string (S t), .slice q k c] 24)).drew) (w.heap.size + 1) (.int .i64 op) (.int .i64 num) (.string (S t)) (.slice q k c) from heap_alloc2_new w _ _)
  clear hC hop
  cases hcn : conOf op with
  | none =>
    rw [hcn] at HC
    simp only [conV] at HC
    go_enter Tryz.func34, Tryz.ntmps34
    go_wp2_with fail
    go_region_with (fail)
    all_goals go_wp2_with fail
    all_goals
      refine (HC.out _ HB0.out).mono ?_
      rintro e w2 ⟨rfl, b2⟩
      have hx2 := HX0.out.keep (Kept.of_below (ok := fun _ => True) b2) trivial
      have hy2 := HY0.out.keep (Kept.of_below (ok := fun _ => True) b2) trivial
      have HB2 := Lib.hid (HB0.out.trans (b2.mono HB0.out.size))
      have hl2 := hy2.lt
      have p3 := hx2.c3
      have y0 := hy2.c0
      have y1 := hy2.c1
      have y2 := hy2.c2
      have y3 := hy2.c3
      have yz := hy2.fz
      have zy : ∀ o j, (w2.alloc o).cell? ⟨w.heap.size + 1, j, none⟩ = w2.cell? ⟨w.heap.size + 1, j, none⟩ := fun o j => Kept.cell (Kept.alloc (ok := fun _ => True) w2 o) trivial hl2
      have zf : ∀ o j, (w2.alloc o).frozen? ⟨w.heap.size + 1, j, none⟩ = false := fun o j => (hy2.keep (Kept.alloc (ok := fun _ => True) w2 o) trivial).fz j
      have hz2 := HB2.out.size
      clear hx2 hy2 b2
      go_wp2_with fail
      go_ret
      refine ⟨by simp [cntC], ?_⟩
      exact ((HB2.out.setCell (p := ⟨w.heap.size + 1, 3, none⟩) (Nat.le_succ _) _).alloc (by simp; omega) _)
  | some cc =>
    rw [hcn] at HC
    simp only [conV] at HC
    go_enter Tryz.func34, Tryz.ntmps34
    go_wp2_with fail
    go_region_with (fail)
    all_goals go_wp2_with fail
    all_goals
      refine (HC.out _ HB0.out).mono ?_
      rintro e w2 ⟨rfl, b2⟩
      have hx2 := HX0.out.keep (Kept.of_below (ok := fun _ => True) b2) trivial
      have hy2 := HY0.out.keep (Kept.of_below (ok := fun _ => True) b2) trivial
      have HB2 := Lib.hid (HB0.out.trans (b2.mono HB0.out.size))
      have hl2 := hy2.lt
      have hlx2 := hx2.lt
      have p3 := hx2.c3
      have y0 := hy2.c0
      have y1 := hy2.c1
      have y2 := hy2.c2
      have y3 := hy2.c3
      have yz := hy2.fz
      have zy : ∀ o j, (w2.alloc o).cell? ⟨w.heap.size + 1, j, none⟩ = w2.cell? ⟨w.heap.size + 1, j, none⟩ := fun o j => Kept.cell (Kept.alloc (ok := fun _ => True) w2 o) trivial hl2
      have zx : ∀ o j, (w2.alloc o).cell? ⟨w.heap.size, j, none⟩ = w2.cell? ⟨w.heap.size, j, none⟩ := fun o j => Kept.cell (Kept.alloc (ok := fun _ => True) w2 o) trivial hlx2
      have zf : ∀ o j, (w2.alloc o).frozen? ⟨w.heap.size + 1, j, none⟩ = false := fun o j => (hy2.keep (Kept.alloc (ok := fun _ => True) w2 o) trivial).fz j
      have hz2 := HB2.out.size
      clear hx2 hy2 b2
      cases hkc : ((k : Int) == cc.operands) with
      | false =>
        go_wp2_with fail
        go_ret
        refine ⟨by simp [cntC, hkc], ?_⟩
        exact ((HB2.out.setCell (p := ⟨w.heap.size + 1, 3, none⟩) (Nat.le_succ _) _).alloc (by simp; omega) _)
      | true =>
        by_cases hn : num = 0
        · subst hn
          by_cases ht : t = []
          · subst ht
            have hx3 : ((S []).toList == ([] : List UInt8)) = true := by rw [eqB]; rfl
            go_wp2_with fail
            go_ret
            refine ⟨by simp [cntC, hkc], ?_⟩
            exact ((HB2.out.setCell (p := ⟨w.heap.size + 1, 3, none⟩) (Nat.le_succ _) _).alloc (by simp; omega) _)
          · have hx3 : ((S t).toList == ([] : List UInt8)) = false := by rw [hx]; cases t <;> simp_all
            rw [hx3] at hx
            go_wp2_with fail
            go_ret
            refine ⟨by simp [cntC, hkc, ← hx], ?_⟩
            exact ((HB2.out.setCell (p := ⟨w.heap.size + 1, 3, none⟩) (Nat.le_succ _) _).alloc (by simp; omega) _)
        · have hn2 : (num == 0) = false := by simpa using hn
          go_wp2_with fail
          go_ret
          refine ⟨by simp [cntC, hkc, hn2], ?_⟩
          exact ((HB2.out.setCell (p := ⟨w.heap.size + 1, 3, none⟩) (Nat.le_succ _) _).alloc (by simp; omega) _)
theorem formed_any (op num : Int) (t : List UInt8) (q : Option Addr) (k c : Nat) (hk : k ≤ 281474976710656) (htl : t.length ≤ 281474976710656) (w : World) (hC : ConsAt w) :
    Calls Tryz.prog 34 #[.agg #[.int .i64 op, .int .i64 num, .string (S t), .slice q k c]] w fun e w' => e = .returned (.bool (formedB op num t k)) ∧ Below w.heap.size w w' := by
  by_cases h : 1 ≤ op ∧ op ≤ 7
  · obtain rfl | rfl | rfl | rfl | rfl | rfl | rfl : op = 1 ∨ op = 2 ∨ op = 3 ∨ op = 4 ∨ op = 5 ∨ op = 6 ∨ op = 7 := by omega
    · exact formed_1 num t q k c hk htl w
    · exact formed_2 num t q k c hk htl w
    · exact formed_3 num t q k c hk htl w
    · exact formed_4 num t q k c hk htl w
    · exact formed_5 num t q k c hk htl w
    · exact formed_6 num t q k c hk htl w
    · exact formed_7 num t q k c hk htl w
  · exact formed_far op num t q k c hk htl h w hC
end Go.Proofs.YtlmmfhbdebfgkaaGreatDoor.Ex
