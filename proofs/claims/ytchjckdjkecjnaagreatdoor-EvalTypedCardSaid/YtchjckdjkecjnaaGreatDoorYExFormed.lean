/- ZExFormed -/
import Derived.Test.YtchjckdjkecjnaaGreatDoorYTzJ
import Derived.Deep.RegionWith
namespace Go.Proofs.YtchjckdjkecjnaaGreatDoor.Ex
open Go.RowKit
open Lx
theorem two_boxes (w : World) (a b : Obj) : Below w.heap.size w ((w.alloc a).alloc b).drew := (((Below.refl _ _).alloc (Nat.le_refl _) a).alloc (by simp) b).drew
set_option linter.unusedVariables false in
set_option linter.unusedSimpArgs false in
set_option maxRecDepth 100000 in
set_option maxHeartbeats 4000000 in
theorem formed_1 (num : Int) (t : List UInt8) (q : Option Addr) (k c : Nat) (hk : k ≤ 281474976710656) (htl : t.length ≤ 281474976710656) (w : World) :
    Calls Tryz.prog 64 #[.agg #[.int .i64 1, .int .i64 num, .string (S t), .slice q k c]] w fun e w' => e = .returned (.bool (formedB 1 num t k)) ∧ Below w.heap.size w w' := by
  have hx : ((S t).toList == ([] : List UInt8)) = t.isEmpty := by rw [eqB]; cases t <;> rfl
  have hs : (S t).size = t.length := S_size t
  go_enter Tryz.func64, Tryz.ntmps64
  go_wp2_with fail
  go_region_with (fail)
  all_goals go_wp2_with fail
  all_goals go_ret
  all_goals refine ⟨congrArg (fun b => Ending.returned (Value.bool b)) ?_, two_boxes _ _ _⟩
  all_goals have hkc : ((k : Int) == 0) = (k == 0) := by (rw [Bool.eq_iff_iff]; simp)
  all_goals (rcases t with _ | ⟨a, r⟩ <;> by_cases hk0 : k = 0 <;> by_cases hn0 : num = 0 <;> by_cases hn1 : num = 1 <;> simp_all [formedB, cntB, S_size] <;> omega)
set_option linter.unusedVariables false in
set_option linter.unusedSimpArgs false in
set_option maxRecDepth 100000 in
set_option maxHeartbeats 4000000 in
theorem formed_2 (num : Int) (t : List UInt8) (q : Option Addr) (k c : Nat) (hk : k ≤ 281474976710656) (htl : t.length ≤ 281474976710656) (w : World) :
    Calls Tryz.prog 64 #[.agg #[.int .i64 2, .int .i64 num, .string (S t), .slice q k c]] w fun e w' => e = .returned (.bool (formedB 2 num t k)) ∧ Below w.heap.size w w' := by
  have hx : ((S t).toList == ([] : List UInt8)) = t.isEmpty := by rw [eqB]; cases t <;> rfl
  have hs : (S t).size = t.length := S_size t
  go_enter Tryz.func64, Tryz.ntmps64
  go_wp2_with fail
  go_region_with (fail)
  all_goals go_wp2_with fail
  all_goals go_ret
  all_goals refine ⟨congrArg (fun b => Ending.returned (Value.bool b)) ?_, two_boxes _ _ _⟩
  all_goals have hkc : ((k : Int) == 0) = (k == 0) := by (rw [Bool.eq_iff_iff]; simp)
  all_goals (rcases t with _ | ⟨a, r⟩ <;> by_cases hk0 : k = 0 <;> by_cases hn0 : num = 0 <;> by_cases hn1 : num = 1 <;> simp_all [formedB, cntB, S_size] <;> omega)
set_option linter.unusedVariables false in
set_option linter.unusedSimpArgs false in
set_option maxRecDepth 100000 in
set_option maxHeartbeats 4000000 in
theorem formed_3 (num : Int) (t : List UInt8) (q : Option Addr) (k c : Nat) (hk : k ≤ 281474976710656) (htl : t.length ≤ 281474976710656) (w : World) :
    Calls Tryz.prog 64 #[.agg #[.int .i64 3, .int .i64 num, .string (S t), .slice q k c]] w fun e w' => e = .returned (.bool (formedB 3 num t k)) ∧ Below w.heap.size w w' := by
  have hx : ((S t).toList == ([] : List UInt8)) = t.isEmpty := by rw [eqB]; cases t <;> rfl
  have hs : (S t).size = t.length := S_size t
  go_enter Tryz.func64, Tryz.ntmps64
  go_wp2_with fail
  go_region_with (fail)
  all_goals go_wp2_with fail
  all_goals go_ret
  all_goals refine ⟨congrArg (fun b => Ending.returned (Value.bool b)) ?_, two_boxes _ _ _⟩
  all_goals have hkc : ((k : Int) == 0) = (k == 0) := by (rw [Bool.eq_iff_iff]; simp)
  all_goals (rcases t with _ | ⟨a, r⟩ <;> by_cases hk0 : k = 0 <;> by_cases hn0 : num = 0 <;> by_cases hn1 : num = 1 <;> simp_all [formedB, cntB, S_size] <;> omega)
set_option linter.unusedVariables false in
set_option linter.unusedSimpArgs false in
set_option maxRecDepth 100000 in
set_option maxHeartbeats 4000000 in
theorem formed_4 (num : Int) (t : List UInt8) (q : Option Addr) (k c : Nat) (hk : k ≤ 281474976710656) (htl : t.length ≤ 281474976710656) (w : World) :
    Calls Tryz.prog 64 #[.agg #[.int .i64 4, .int .i64 num, .string (S t), .slice q k c]] w fun e w' => e = .returned (.bool (formedB 4 num t k)) ∧ Below w.heap.size w w' := by
  have hx : ((S t).toList == ([] : List UInt8)) = t.isEmpty := by rw [eqB]; cases t <;> rfl
  have hs : (S t).size = t.length := S_size t
  go_enter Tryz.func64, Tryz.ntmps64
  go_wp2_with fail
  go_region_with (fail)
  all_goals go_wp2_with fail
  all_goals go_ret
  all_goals refine ⟨congrArg (fun b => Ending.returned (Value.bool b)) ?_, two_boxes _ _ _⟩
  all_goals have hkc : ((k : Int) == 0) = (k == 0) := by (rw [Bool.eq_iff_iff]; simp)
  all_goals (rcases t with _ | ⟨a, r⟩ <;> by_cases hk0 : k = 0 <;> by_cases hn0 : num = 0 <;> by_cases hn1 : num = 1 <;> simp_all [formedB, cntB, S_size] <;> omega)
set_option linter.unusedVariables false in
set_option linter.unusedSimpArgs false in
set_option maxRecDepth 100000 in
set_option maxHeartbeats 4000000 in
theorem formed_5 (num : Int) (t : List UInt8) (q : Option Addr) (k c : Nat) (hk : k ≤ 281474976710656) (htl : t.length ≤ 281474976710656) (w : World) :
    Calls Tryz.prog 64 #[.agg #[.int .i64 5, .int .i64 num, .string (S t), .slice q k c]] w fun e w' => e = .returned (.bool (formedB 5 num t k)) ∧ Below w.heap.size w w' := by
  have hx : ((S t).toList == ([] : List UInt8)) = t.isEmpty := by rw [eqB]; cases t <;> rfl
  have hs : (S t).size = t.length := S_size t
  go_enter Tryz.func64, Tryz.ntmps64
  go_wp2_with fail
  go_region_with (fail)
  all_goals go_wp2_with fail
  all_goals go_ret
  all_goals refine ⟨congrArg (fun b => Ending.returned (Value.bool b)) ?_, two_boxes _ _ _⟩
  all_goals have hkc : ((k : Int) == 0) = (k == 0) := by (rw [Bool.eq_iff_iff]; simp)
  all_goals (rcases t with _ | ⟨a, r⟩ <;> by_cases hk0 : k = 0 <;> by_cases hn0 : num = 0 <;> by_cases hn1 : num = 1 <;> simp_all [formedB, cntB, S_size] <;> omega)
set_option linter.unusedVariables false in
set_option linter.unusedSimpArgs false in
set_option maxRecDepth 100000 in
set_option maxHeartbeats 4000000 in
theorem formed_6 (num : Int) (t : List UInt8) (q : Option Addr) (k c : Nat) (hk : k ≤ 281474976710656) (htl : t.length ≤ 281474976710656) (w : World) :
    Calls Tryz.prog 64 #[.agg #[.int .i64 6, .int .i64 num, .string (S t), .slice q k c]] w fun e w' => e = .returned (.bool (formedB 6 num t k)) ∧ Below w.heap.size w w' := by
  have hx : ((S t).toList == ([] : List UInt8)) = t.isEmpty := by rw [eqB]; cases t <;> rfl
  have hs : (S t).size = t.length := S_size t
  go_enter Tryz.func64, Tryz.ntmps64
  go_wp2_with fail
  go_region_with (fail)
  all_goals go_wp2_with fail
  all_goals go_ret
  all_goals refine ⟨congrArg (fun b => Ending.returned (Value.bool b)) ?_, two_boxes _ _ _⟩
  all_goals have hkc : ((k : Int) == 0) = (k == 0) := by (rw [Bool.eq_iff_iff]; simp)
  all_goals (rcases t with _ | ⟨a, r⟩ <;> by_cases hk0 : k = 0 <;> by_cases hn0 : num = 0 <;> by_cases hn1 : num = 1 <;> simp_all [formedB, cntB, S_size] <;> omega)
set_option linter.unusedVariables false in
set_option linter.unusedSimpArgs false in
set_option maxRecDepth 100000 in
set_option maxHeartbeats 4000000 in
theorem formed_7 (num : Int) (t : List UInt8) (q : Option Addr) (k c : Nat) (hk : k ≤ 281474976710656) (htl : t.length ≤ 281474976710656) (w : World) :
    Calls Tryz.prog 64 #[.agg #[.int .i64 7, .int .i64 num, .string (S t), .slice q k c]] w fun e w' => e = .returned (.bool (formedB 7 num t k)) ∧ Below w.heap.size w w' := by
  have hx : ((S t).toList == ([] : List UInt8)) = t.isEmpty := by rw [eqB]; cases t <;> rfl
  have hs : (S t).size = t.length := S_size t
  go_enter Tryz.func64, Tryz.ntmps64
  go_wp2_with fail
  go_region_with (fail)
  all_goals go_wp2_with fail
  all_goals go_ret
  all_goals refine ⟨congrArg (fun b => Ending.returned (Value.bool b)) ?_, two_boxes _ _ _⟩
  all_goals have hkc : ((k : Int) == 0) = (k == 0) := by (rw [Bool.eq_iff_iff]; simp)
  all_goals (rcases t with _ | ⟨a, r⟩ <;> by_cases hk0 : k = 0 <;> by_cases hn0 : num = 0 <;> by_cases hn1 : num = 1 <;> simp_all [formedB, cntB, S_size] <;> omega)
end Go.Proofs.YtchjckdjkecjnaaGreatDoor.Ex
