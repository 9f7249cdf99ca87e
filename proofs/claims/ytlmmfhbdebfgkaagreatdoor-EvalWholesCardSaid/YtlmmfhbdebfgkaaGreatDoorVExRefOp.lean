/-
  ExRefOp.
-/
import Derived.Test.YtlmmfhbdebfgkaaGreatDoorVExRefA
set_option linter.unusedVariables false
set_option linter.unusedSimpArgs false
set_option maxRecDepth 100000
set_option maxHeartbeats 1000000
namespace Go.Proofs.YtlmmfhbdebfgkaaGreatDoor.Ex
open Go.RowKit
open Lx
theorem eqB (x y : List UInt8) : ((S x).toList == y) = (x == y) := by rw [ByteArray.toList_eq, S_toList]
def opC (x : Option (Int × Bool)) : Value := match x with
  | some (o, t) => .tuple #[.int .i64 o, .bool t]
  | none => .tuple #[.int .i64 0, .bool false]
theorem rop_kind (b g cap a : Nat) (n o bad fault : Int) (ts : List TA) (w : World) (h : Rdg w b g cap ts.length a n o bad fault) (ht : TsAt w g ts) (ha : a < ts.length) (hn : ts.length ≤ 8001) (lv : Nat) (hk : (tk ts a).kind ≠ 5) :
    Calls Tryz.prog 139 #[.pointer (some ⟨b, 0, none⟩), .int .i64 lv] w fun e w' => e = .returned (.tuple #[.int .i64 0, .bool false]) ∧ Below w.heap.size w w' := by
  obtain ⟨p0, p1, _, _⟩ := ht.tok ha
  have c0 := h.c0
  have c1 := h.c1
  have hai : (a : Int) < (ts.length : Int) := by omega
  have hni : (ts.length : Int) ≤ 8001 := by omega
  clear h ht ha hn
  generalize tk ts a = t at *
  obtain ⟨k, x, m, q⟩ := t
  simp only at p0 p1 hk
  have hk2 : (k == 5) = false := by simpa using hk
  have hk3 : (k != 5) = true := by simpa using hk
  go_enter Tryz.func139, Tryz.ntmps139
  go_wp2_with fail
  go_quiet (fail)
  go_wp2_with fail
  go_ret2
  exact ⟨rfl, Go.Joins.below_draws _ _ _⟩
theorem rop_0_124_124 (b g cap a : Nat) (n o bad fault : Int) (ts : List TA) (w : World) (h : Rdg w b g cap ts.length a n o bad fault) (ht : TsAt w g ts) (ha : a < ts.length) (hn : ts.length ≤ 8001) (hk : (tk ts a).kind = 5) (hx : (tk ts a).text = [124, 124]) :
    Calls Tryz.prog 139 #[.pointer (some ⟨b, 0, none⟩), .int .i64 0] w fun e w' => e = .returned (.tuple #[.int .i64 41, .bool false]) ∧ Below w.heap.size w w' := by
  obtain ⟨p0, p1, _, _⟩ := ht.tok ha
  have c0 := h.c0
  have c1 := h.c1
  have hai : (a : Int) < (ts.length : Int) := by omega
  have hni : (ts.length : Int) ≤ 8001 := by omega
  clear h ht ha hn
  rw [hk] at p0
  rw [hx] at p1
  clear hk hx
  have q124_124 : ((S [124, 124]).toList == ([124, 124] : List UInt8)) = true := by rw [eqB]; rfl
  go_enter Tryz.func139, Tryz.ntmps139
  go_wp2_with fail
  go_quiet (fail)
  go_wp2_with fail
  go_quiet (fail)
  go_wp2_with fail
  go_ret2
  exact ⟨rfl, Go.Joins.below_draws _ _ _⟩
theorem rop_0_none (b g cap a : Nat) (n o bad fault : Int) (ts : List TA) (w : World) (h : Rdg w b g cap ts.length a n o bad fault) (ht : TsAt w g ts) (ha : a < ts.length) (hn : ts.length ≤ 8001) (hk : (tk ts a).kind = 5) (n124_124 : (tk ts a).text ≠ [124, 124]) :
    Calls Tryz.prog 139 #[.pointer (some ⟨b, 0, none⟩), .int .i64 0] w fun e w' => e = .returned (.tuple #[.int .i64 0, .bool false]) ∧ Below w.heap.size w w' := by
  obtain ⟨p0, p1, _, _⟩ := ht.tok ha
  have c0 := h.c0
  have c1 := h.c1
  have hai : (a : Int) < (ts.length : Int) := by omega
  have hni : (ts.length : Int) ≤ 8001 := by omega
  clear h ht ha hn
  generalize tk ts a = t at *
  obtain ⟨k, x, m, q⟩ := t
  simp only at p0 p1 hk n124_124
  subst hk
  have q124_124 : ((S x).toList == ([124, 124] : List UInt8)) = false := by rw [eqB]; simpa using n124_124
  go_enter Tryz.func139, Tryz.ntmps139
  go_wp2_with fail
  go_quiet (fail)
  go_wp2_with fail
  go_quiet (fail)
  go_wp2_with fail
  go_ret2
  exact ⟨rfl, Go.Joins.below_draws _ _ _⟩
theorem rop_1_38_38 (b g cap a : Nat) (n o bad fault : Int) (ts : List TA) (w : World) (h : Rdg w b g cap ts.length a n o bad fault) (ht : TsAt w g ts) (ha : a < ts.length) (hn : ts.length ≤ 8001) (hk : (tk ts a).kind = 5) (hx : (tk ts a).text = [38, 38]) :
    Calls Tryz.prog 139 #[.pointer (some ⟨b, 0, none⟩), .int .i64 1] w fun e w' => e = .returned (.tuple #[.int .i64 40, .bool false]) ∧ Below w.heap.size w w' := by
  obtain ⟨p0, p1, _, _⟩ := ht.tok ha
  have c0 := h.c0
  have c1 := h.c1
  have hai : (a : Int) < (ts.length : Int) := by omega
  have hni : (ts.length : Int) ≤ 8001 := by omega
  clear h ht ha hn
  rw [hk] at p0
  rw [hx] at p1
  clear hk hx
  have q38_38 : ((S [38, 38]).toList == ([38, 38] : List UInt8)) = true := by rw [eqB]; rfl
  go_enter Tryz.func139, Tryz.ntmps139
  go_wp2_with fail
  go_quiet (fail)
  go_wp2_with fail
  go_quiet (fail)
  go_wp2_with fail
  go_ret2
  exact ⟨rfl, Go.Joins.below_draws _ _ _⟩
theorem rop_1_none (b g cap a : Nat) (n o bad fault : Int) (ts : List TA) (w : World) (h : Rdg w b g cap ts.length a n o bad fault) (ht : TsAt w g ts) (ha : a < ts.length) (hn : ts.length ≤ 8001) (hk : (tk ts a).kind = 5) (n38_38 : (tk ts a).text ≠ [38, 38]) :
    Calls Tryz.prog 139 #[.pointer (some ⟨b, 0, none⟩), .int .i64 1] w fun e w' => e = .returned (.tuple #[.int .i64 0, .bool false]) ∧ Below w.heap.size w w' := by
  obtain ⟨p0, p1, _, _⟩ := ht.tok ha
  have c0 := h.c0
  have c1 := h.c1
  have hai : (a : Int) < (ts.length : Int) := by omega
  have hni : (ts.length : Int) ≤ 8001 := by omega
  clear h ht ha hn
  generalize tk ts a = t at *
  obtain ⟨k, x, m, q⟩ := t
  simp only at p0 p1 hk n38_38
  subst hk
  have q38_38 : ((S x).toList == ([38, 38] : List UInt8)) = false := by rw [eqB]; simpa using n38_38
  go_enter Tryz.func139, Tryz.ntmps139
  go_wp2_with fail
  go_quiet (fail)
  go_wp2_with fail
  go_quiet (fail)
  go_wp2_with fail
  go_ret2
  exact ⟨rfl, Go.Joins.below_draws _ _ _⟩
theorem rop_2_61_61 (b g cap a : Nat) (n o bad fault : Int) (ts : List TA) (w : World) (h : Rdg w b g cap ts.length a n o bad fault) (ht : TsAt w g ts) (ha : a < ts.length) (hn : ts.length ≤ 8001) (hk : (tk ts a).kind = 5) (hx : (tk ts a).text = [61, 61]) :
    Calls Tryz.prog 139 #[.pointer (some ⟨b, 0, none⟩), .int .i64 2] w fun e w' => e = .returned (.tuple #[.int .i64 30, .bool false]) ∧ Below w.heap.size w w' := by
  obtain ⟨p0, p1, _, _⟩ := ht.tok ha
  have c0 := h.c0
  have c1 := h.c1
  have hai : (a : Int) < (ts.length : Int) := by omega
  have hni : (ts.length : Int) ≤ 8001 := by omega
  clear h ht ha hn
  rw [hk] at p0
  rw [hx] at p1
  clear hk hx
  have q61_61 : ((S [61, 61]).toList == ([61, 61] : List UInt8)) = true := by rw [eqB]; rfl
  have q33_61 : ((S [61, 61]).toList == ([33, 61] : List UInt8)) = false := by rw [eqB]; rfl
  have q60 : ((S [61, 61]).toList == ([60] : List UInt8)) = false := by rw [eqB]; rfl
  have q60_61 : ((S [61, 61]).toList == ([60, 61] : List UInt8)) = false := by rw [eqB]; rfl
  have q62 : ((S [61, 61]).toList == ([62] : List UInt8)) = false := by rw [eqB]; rfl
  have q62_61 : ((S [61, 61]).toList == ([62, 61] : List UInt8)) = false := by rw [eqB]; rfl
  go_enter Tryz.func139, Tryz.ntmps139
  go_wp2_with fail
  go_quiet (fail)
  go_wp2_with fail
  go_quiet (fail)
  go_wp2_with fail
  go_ret2
  exact ⟨rfl, Go.Joins.below_draws _ _ _⟩
theorem rop_2_33_61 (b g cap a : Nat) (n o bad fault : Int) (ts : List TA) (w : World) (h : Rdg w b g cap ts.length a n o bad fault) (ht : TsAt w g ts) (ha : a < ts.length) (hn : ts.length ≤ 8001) (hk : (tk ts a).kind = 5) (hx : (tk ts a).text = [33, 61]) :
    Calls Tryz.prog 139 #[.pointer (some ⟨b, 0, none⟩), .int .i64 2] w fun e w' => e = .returned (.tuple #[.int .i64 31, .bool false]) ∧ Below w.heap.size w w' := by
  obtain ⟨p0, p1, _, _⟩ := ht.tok ha
  have c0 := h.c0
  have c1 := h.c1
  have hai : (a : Int) < (ts.length : Int) := by omega
  have hni : (ts.length : Int) ≤ 8001 := by omega
  clear h ht ha hn
  rw [hk] at p0
  rw [hx] at p1
  clear hk hx
  have q61_61 : ((S [33, 61]).toList == ([61, 61] : List UInt8)) = false := by rw [eqB]; rfl
  have q33_61 : ((S [33, 61]).toList == ([33, 61] : List UInt8)) = true := by rw [eqB]; rfl
  have q60 : ((S [33, 61]).toList == ([60] : List UInt8)) = false := by rw [eqB]; rfl
  have q60_61 : ((S [33, 61]).toList == ([60, 61] : List UInt8)) = false := by rw [eqB]; rfl
  have q62 : ((S [33, 61]).toList == ([62] : List UInt8)) = false := by rw [eqB]; rfl
  have q62_61 : ((S [33, 61]).toList == ([62, 61] : List UInt8)) = false := by rw [eqB]; rfl
  go_enter Tryz.func139, Tryz.ntmps139
  go_wp2_with fail
  go_quiet (fail)
  go_wp2_with fail
  go_quiet (fail)
  go_wp2_with fail
  go_ret2
  exact ⟨rfl, Go.Joins.below_draws _ _ _⟩
theorem rop_2_60 (b g cap a : Nat) (n o bad fault : Int) (ts : List TA) (w : World) (h : Rdg w b g cap ts.length a n o bad fault) (ht : TsAt w g ts) (ha : a < ts.length) (hn : ts.length ≤ 8001) (hk : (tk ts a).kind = 5) (hx : (tk ts a).text = [60]) :
    Calls Tryz.prog 139 #[.pointer (some ⟨b, 0, none⟩), .int .i64 2] w fun e w' => e = .returned (.tuple #[.int .i64 32, .bool false]) ∧ Below w.heap.size w w' := by
  obtain ⟨p0, p1, _, _⟩ := ht.tok ha
  have c0 := h.c0
  have c1 := h.c1
  have hai : (a : Int) < (ts.length : Int) := by omega
  have hni : (ts.length : Int) ≤ 8001 := by omega
  clear h ht ha hn
  rw [hk] at p0
  rw [hx] at p1
  clear hk hx
  have q61_61 : ((S [60]).toList == ([61, 61] : List UInt8)) = false := by rw [eqB]; rfl
  have q33_61 : ((S [60]).toList == ([33, 61] : List UInt8)) = false := by rw [eqB]; rfl
  have q60 : ((S [60]).toList == ([60] : List UInt8)) = true := by rw [eqB]; rfl
  have q60_61 : ((S [60]).toList == ([60, 61] : List UInt8)) = false := by rw [eqB]; rfl
  have q62 : ((S [60]).toList == ([62] : List UInt8)) = false := by rw [eqB]; rfl
  have q62_61 : ((S [60]).toList == ([62, 61] : List UInt8)) = false := by rw [eqB]; rfl
  go_enter Tryz.func139, Tryz.ntmps139
  go_wp2_with fail
  go_quiet (fail)
  go_wp2_with fail
  go_quiet (fail)
  go_wp2_with fail
  go_ret2
  exact ⟨rfl, Go.Joins.below_draws _ _ _⟩
theorem rop_2_60_61 (b g cap a : Nat) (n o bad fault : Int) (ts : List TA) (w : World) (h : Rdg w b g cap ts.length a n o bad fault) (ht : TsAt w g ts) (ha : a < ts.length) (hn : ts.length ≤ 8001) (hk : (tk ts a).kind = 5) (hx : (tk ts a).text = [60, 61]) :
    Calls Tryz.prog 139 #[.pointer (some ⟨b, 0, none⟩), .int .i64 2] w fun e w' => e = .returned (.tuple #[.int .i64 33, .bool false]) ∧ Below w.heap.size w w' := by
  obtain ⟨p0, p1, _, _⟩ := ht.tok ha
  have c0 := h.c0
  have c1 := h.c1
  have hai : (a : Int) < (ts.length : Int) := by omega
  have hni : (ts.length : Int) ≤ 8001 := by omega
  clear h ht ha hn
  rw [hk] at p0
  rw [hx] at p1
  clear hk hx
  have q61_61 : ((S [60, 61]).toList == ([61, 61] : List UInt8)) = false := by rw [eqB]; rfl
  have q33_61 : ((S [60, 61]).toList == ([33, 61] : List UInt8)) = false := by rw [eqB]; rfl
  have q60 : ((S [60, 61]).toList == ([60] : List UInt8)) = false := by rw [eqB]; rfl
  have q60_61 : ((S [60, 61]).toList == ([60, 61] : List UInt8)) = true := by rw [eqB]; rfl
  have q62 : ((S [60, 61]).toList == ([62] : List UInt8)) = false := by rw [eqB]; rfl
  have q62_61 : ((S [60, 61]).toList == ([62, 61] : List UInt8)) = false := by rw [eqB]; rfl
  go_enter Tryz.func139, Tryz.ntmps139
  go_wp2_with fail
  go_quiet (fail)
  go_wp2_with fail
  go_quiet (fail)
  go_wp2_with fail
  go_ret2
  exact ⟨rfl, Go.Joins.below_draws _ _ _⟩
theorem rop_2_62 (b g cap a : Nat) (n o bad fault : Int) (ts : List TA) (w : World) (h : Rdg w b g cap ts.length a n o bad fault) (ht : TsAt w g ts) (ha : a < ts.length) (hn : ts.length ≤ 8001) (hk : (tk ts a).kind = 5) (hx : (tk ts a).text = [62]) :
    Calls Tryz.prog 139 #[.pointer (some ⟨b, 0, none⟩), .int .i64 2] w fun e w' => e = .returned (.tuple #[.int .i64 32, .bool true]) ∧ Below w.heap.size w w' := by
  obtain ⟨p0, p1, _, _⟩ := ht.tok ha
  have c0 := h.c0
  have c1 := h.c1
  have hai : (a : Int) < (ts.length : Int) := by omega
  have hni : (ts.length : Int) ≤ 8001 := by omega
  clear h ht ha hn
  rw [hk] at p0
  rw [hx] at p1
  clear hk hx
  have q61_61 : ((S [62]).toList == ([61, 61] : List UInt8)) = false := by rw [eqB]; rfl
  have q33_61 : ((S [62]).toList == ([33, 61] : List UInt8)) = false := by rw [eqB]; rfl
  have q60 : ((S [62]).toList == ([60] : List UInt8)) = false := by rw [eqB]; rfl
  have q60_61 : ((S [62]).toList == ([60, 61] : List UInt8)) = false := by rw [eqB]; rfl
  have q62 : ((S [62]).toList == ([62] : List UInt8)) = true := by rw [eqB]; rfl
  have q62_61 : ((S [62]).toList == ([62, 61] : List UInt8)) = false := by rw [eqB]; rfl
  go_enter Tryz.func139, Tryz.ntmps139
  go_wp2_with fail
  go_quiet (fail)
  go_wp2_with fail
  go_quiet (fail)
  go_wp2_with fail
  go_ret2
  exact ⟨rfl, Go.Joins.below_draws _ _ _⟩
theorem rop_2_62_61 (b g cap a : Nat) (n o bad fault : Int) (ts : List TA) (w : World) (h : Rdg w b g cap ts.length a n o bad fault) (ht : TsAt w g ts) (ha : a < ts.length) (hn : ts.length ≤ 8001) (hk : (tk ts a).kind = 5) (hx : (tk ts a).text = [62, 61]) :
    Calls Tryz.prog 139 #[.pointer (some ⟨b, 0, none⟩), .int .i64 2] w fun e w' => e = .returned (.tuple #[.int .i64 33, .bool true]) ∧ Below w.heap.size w w' := by
  obtain ⟨p0, p1, _, _⟩ := ht.tok ha
  have c0 := h.c0
  have c1 := h.c1
  have hai : (a : Int) < (ts.length : Int) := by omega
  have hni : (ts.length : Int) ≤ 8001 := by omega
  clear h ht ha hn
  rw [hk] at p0
  rw [hx] at p1
  clear hk hx
  have q61_61 : ((S [62, 61]).toList == ([61, 61] : List UInt8)) = false := by rw [eqB]; rfl
  have q33_61 : ((S [62, 61]).toList == ([33, 61] : List UInt8)) = false := by rw [eqB]; rfl
  have q60 : ((S [62, 61]).toList == ([60] : List UInt8)) = false := by rw [eqB]; rfl
  have q60_61 : ((S [62, 61]).toList == ([60, 61] : List UInt8)) = false := by rw [eqB]; rfl
  have q62 : ((S [62, 61]).toList == ([62] : List UInt8)) = false := by rw [eqB]; rfl
  have q62_61 : ((S [62, 61]).toList == ([62, 61] : List UInt8)) = true := by rw [eqB]; rfl
  go_enter Tryz.func139, Tryz.ntmps139
  go_wp2_with fail
  go_quiet (fail)
  go_wp2_with fail
  go_quiet (fail)
  go_wp2_with fail
  go_ret2
  exact ⟨rfl, Go.Joins.below_draws _ _ _⟩
theorem rop_2_none (b g cap a : Nat) (n o bad fault : Int) (ts : List TA) (w : World) (h : Rdg w b g cap ts.length a n o bad fault) (ht : TsAt w g ts) (ha : a < ts.length) (hn : ts.length ≤ 8001) (hk : (tk ts a).kind = 5) (n61_61 : (tk ts a).text ≠ [61, 61]) (n33_61 : (tk ts a).text ≠ [33, 61]) (n60 : (tk ts a).text ≠ [60]) (n60_61 : (tk ts a).text ≠ [60, 61]) (n62 : (tk ts a).text ≠ [62]) (n62_61 : (tk ts a).text ≠ [62, 61]) :
    Calls Tryz.prog 139 #[.pointer (some ⟨b, 0, none⟩), .int .i64 2] w fun e w' => e = .returned (.tuple #[.int .i64 0, .bool false]) ∧ Below w.heap.size w w' := by
  obtain ⟨p0, p1, _, _⟩ := ht.tok ha
  have c0 := h.c0
  have c1 := h.c1
  have hai : (a : Int) < (ts.length : Int) := by omega
  have hni : (ts.length : Int) ≤ 8001 := by omega
  clear h ht ha hn
  generalize tk ts a = t at *
  obtain ⟨k, x, m, q⟩ := t
  simp only at p0 p1 hk n61_61 n33_61 n60 n60_61 n62 n62_61
  subst hk
  have q61_61 : ((S x).toList == ([61, 61] : List UInt8)) = false := by rw [eqB]; simpa using n61_61
  have q33_61 : ((S x).toList == ([33, 61] : List UInt8)) = false := by rw [eqB]; simpa using n33_61
  have q60 : ((S x).toList == ([60] : List UInt8)) = false := by rw [eqB]; simpa using n60
  have q60_61 : ((S x).toList == ([60, 61] : List UInt8)) = false := by rw [eqB]; simpa using n60_61
  have q62 : ((S x).toList == ([62] : List UInt8)) = false := by rw [eqB]; simpa using n62
  have q62_61 : ((S x).toList == ([62, 61] : List UInt8)) = false := by rw [eqB]; simpa using n62_61
  go_enter Tryz.func139, Tryz.ntmps139
  go_wp2_with fail
  go_quiet (fail)
  go_wp2_with fail
  go_quiet (fail)
  go_wp2_with fail
  go_ret2
  exact ⟨rfl, Go.Joins.below_draws _ _ _⟩
theorem rop_3_43 (b g cap a : Nat) (n o bad fault : Int) (ts : List TA) (w : World) (h : Rdg w b g cap ts.length a n o bad fault) (ht : TsAt w g ts) (ha : a < ts.length) (hn : ts.length ≤ 8001) (hk : (tk ts a).kind = 5) (hx : (tk ts a).text = [43]) :
    Calls Tryz.prog 139 #[.pointer (some ⟨b, 0, none⟩), .int .i64 3] w fun e w' => e = .returned (.tuple #[.int .i64 23, .bool false]) ∧ Below w.heap.size w w' := by
  obtain ⟨p0, p1, _, _⟩ := ht.tok ha
  have c0 := h.c0
  have c1 := h.c1
  have hai : (a : Int) < (ts.length : Int) := by omega
  have hni : (ts.length : Int) ≤ 8001 := by omega
  clear h ht ha hn
  rw [hk] at p0
  rw [hx] at p1
  clear hk hx
  have q43 : ((S [43]).toList == ([43] : List UInt8)) = true := by rw [eqB]; rfl
  have q45 : ((S [43]).toList == ([45] : List UInt8)) = false := by rw [eqB]; rfl
  go_enter Tryz.func139, Tryz.ntmps139
  go_wp2_with fail
  go_quiet (fail)
  go_wp2_with fail
  go_quiet (fail)
  go_wp2_with fail
  go_ret2
  exact ⟨rfl, Go.Joins.below_draws _ _ _⟩
theorem rop_3_45 (b g cap a : Nat) (n o bad fault : Int) (ts : List TA) (w : World) (h : Rdg w b g cap ts.length a n o bad fault) (ht : TsAt w g ts) (ha : a < ts.length) (hn : ts.length ≤ 8001) (hk : (tk ts a).kind = 5) (hx : (tk ts a).text = [45]) :
    Calls Tryz.prog 139 #[.pointer (some ⟨b, 0, none⟩), .int .i64 3] w fun e w' => e = .returned (.tuple #[.int .i64 24, .bool false]) ∧ Below w.heap.size w w' := by
  obtain ⟨p0, p1, _, _⟩ := ht.tok ha
  have c0 := h.c0
  have c1 := h.c1
  have hai : (a : Int) < (ts.length : Int) := by omega
  have hni : (ts.length : Int) ≤ 8001 := by omega
  clear h ht ha hn
  rw [hk] at p0
  rw [hx] at p1
  clear hk hx
  have q43 : ((S [45]).toList == ([43] : List UInt8)) = false := by rw [eqB]; rfl
  have q45 : ((S [45]).toList == ([45] : List UInt8)) = true := by rw [eqB]; rfl
  go_enter Tryz.func139, Tryz.ntmps139
  go_wp2_with fail
  go_quiet (fail)
  go_wp2_with fail
  go_quiet (fail)
  go_wp2_with fail
  go_ret2
  exact ⟨rfl, Go.Joins.below_draws _ _ _⟩
theorem rop_3_none (b g cap a : Nat) (n o bad fault : Int) (ts : List TA) (w : World) (h : Rdg w b g cap ts.length a n o bad fault) (ht : TsAt w g ts) (ha : a < ts.length) (hn : ts.length ≤ 8001) (hk : (tk ts a).kind = 5) (n43 : (tk ts a).text ≠ [43]) (n45 : (tk ts a).text ≠ [45]) :
    Calls Tryz.prog 139 #[.pointer (some ⟨b, 0, none⟩), .int .i64 3] w fun e w' => e = .returned (.tuple #[.int .i64 0, .bool false]) ∧ Below w.heap.size w w' := by
  obtain ⟨p0, p1, _, _⟩ := ht.tok ha
  have c0 := h.c0
  have c1 := h.c1
  have hai : (a : Int) < (ts.length : Int) := by omega
  have hni : (ts.length : Int) ≤ 8001 := by omega
  clear h ht ha hn
  generalize tk ts a = t at *
  obtain ⟨k, x, m, q⟩ := t
  simp only at p0 p1 hk n43 n45
  subst hk
  have q43 : ((S x).toList == ([43] : List UInt8)) = false := by rw [eqB]; simpa using n43
  have q45 : ((S x).toList == ([45] : List UInt8)) = false := by rw [eqB]; simpa using n45
  go_enter Tryz.func139, Tryz.ntmps139
  go_wp2_with fail
  go_quiet (fail)
  go_wp2_with fail
  go_quiet (fail)
  go_wp2_with fail
  go_ret2
  exact ⟨rfl, Go.Joins.below_draws _ _ _⟩
theorem rop_4_42 (b g cap a : Nat) (n o bad fault : Int) (ts : List TA) (w : World) (h : Rdg w b g cap ts.length a n o bad fault) (ht : TsAt w g ts) (ha : a < ts.length) (hn : ts.length ≤ 8001) (hk : (tk ts a).kind = 5) (hx : (tk ts a).text = [42]) :
    Calls Tryz.prog 139 #[.pointer (some ⟨b, 0, none⟩), .int .i64 4] w fun e w' => e = .returned (.tuple #[.int .i64 20, .bool false]) ∧ Below w.heap.size w w' := by
  obtain ⟨p0, p1, _, _⟩ := ht.tok ha
  have c0 := h.c0
  have c1 := h.c1
  have hai : (a : Int) < (ts.length : Int) := by omega
  have hni : (ts.length : Int) ≤ 8001 := by omega
  clear h ht ha hn
  rw [hk] at p0
  rw [hx] at p1
  clear hk hx
  have q42 : ((S [42]).toList == ([42] : List UInt8)) = true := by rw [eqB]; rfl
  have q47 : ((S [42]).toList == ([47] : List UInt8)) = false := by rw [eqB]; rfl
  have q37 : ((S [42]).toList == ([37] : List UInt8)) = false := by rw [eqB]; rfl
  go_enter Tryz.func139, Tryz.ntmps139
  go_wp2_with fail
  go_quiet (fail)
  go_wp2_with fail
  go_quiet (fail)
  go_wp2_with fail
  go_ret2
  exact ⟨rfl, Go.Joins.below_draws _ _ _⟩
theorem rop_4_47 (b g cap a : Nat) (n o bad fault : Int) (ts : List TA) (w : World) (h : Rdg w b g cap ts.length a n o bad fault) (ht : TsAt w g ts) (ha : a < ts.length) (hn : ts.length ≤ 8001) (hk : (tk ts a).kind = 5) (hx : (tk ts a).text = [47]) :
    Calls Tryz.prog 139 #[.pointer (some ⟨b, 0, none⟩), .int .i64 4] w fun e w' => e = .returned (.tuple #[.int .i64 21, .bool false]) ∧ Below w.heap.size w w' := by
  obtain ⟨p0, p1, _, _⟩ := ht.tok ha
  have c0 := h.c0
  have c1 := h.c1
  have hai : (a : Int) < (ts.length : Int) := by omega
  have hni : (ts.length : Int) ≤ 8001 := by omega
  clear h ht ha hn
  rw [hk] at p0
  rw [hx] at p1
  clear hk hx
  have q42 : ((S [47]).toList == ([42] : List UInt8)) = false := by rw [eqB]; rfl
  have q47 : ((S [47]).toList == ([47] : List UInt8)) = true := by rw [eqB]; rfl
  have q37 : ((S [47]).toList == ([37] : List UInt8)) = false := by rw [eqB]; rfl
  go_enter Tryz.func139, Tryz.ntmps139
  go_wp2_with fail
  go_quiet (fail)
  go_wp2_with fail
  go_quiet (fail)
  go_wp2_with fail
  go_ret2
  exact ⟨rfl, Go.Joins.below_draws _ _ _⟩
theorem rop_4_37 (b g cap a : Nat) (n o bad fault : Int) (ts : List TA) (w : World) (h : Rdg w b g cap ts.length a n o bad fault) (ht : TsAt w g ts) (ha : a < ts.length) (hn : ts.length ≤ 8001) (hk : (tk ts a).kind = 5) (hx : (tk ts a).text = [37]) :
    Calls Tryz.prog 139 #[.pointer (some ⟨b, 0, none⟩), .int .i64 4] w fun e w' => e = .returned (.tuple #[.int .i64 22, .bool false]) ∧ Below w.heap.size w w' := by
  obtain ⟨p0, p1, _, _⟩ := ht.tok ha
  have c0 := h.c0
  have c1 := h.c1
  have hai : (a : Int) < (ts.length : Int) := by omega
  have hni : (ts.length : Int) ≤ 8001 := by omega
  clear h ht ha hn
  rw [hk] at p0
  rw [hx] at p1
  clear hk hx
  have q42 : ((S [37]).toList == ([42] : List UInt8)) = false := by rw [eqB]; rfl
  have q47 : ((S [37]).toList == ([47] : List UInt8)) = false := by rw [eqB]; rfl
  have q37 : ((S [37]).toList == ([37] : List UInt8)) = true := by rw [eqB]; rfl
  go_enter Tryz.func139, Tryz.ntmps139
  go_wp2_with fail
  go_quiet (fail)
  go_wp2_with fail
  go_quiet (fail)
  go_wp2_with fail
  go_ret2
  exact ⟨rfl, Go.Joins.below_draws _ _ _⟩
theorem rop_4_none (b g cap a : Nat) (n o bad fault : Int) (ts : List TA) (w : World) (h : Rdg w b g cap ts.length a n o bad fault) (ht : TsAt w g ts) (ha : a < ts.length) (hn : ts.length ≤ 8001) (hk : (tk ts a).kind = 5) (n42 : (tk ts a).text ≠ [42]) (n47 : (tk ts a).text ≠ [47]) (n37 : (tk ts a).text ≠ [37]) :
    Calls Tryz.prog 139 #[.pointer (some ⟨b, 0, none⟩), .int .i64 4] w fun e w' => e = .returned (.tuple #[.int .i64 0, .bool false]) ∧ Below w.heap.size w w' := by
  obtain ⟨p0, p1, _, _⟩ := ht.tok ha
  have c0 := h.c0
  have c1 := h.c1
  have hai : (a : Int) < (ts.length : Int) := by omega
  have hni : (ts.length : Int) ≤ 8001 := by omega
  clear h ht ha hn
  generalize tk ts a = t at *
  obtain ⟨k, x, m, q⟩ := t
  simp only at p0 p1 hk n42 n47 n37
  subst hk
  have q42 : ((S x).toList == ([42] : List UInt8)) = false := by rw [eqB]; simpa using n42
  have q47 : ((S x).toList == ([47] : List UInt8)) = false := by rw [eqB]; simpa using n47
  have q37 : ((S x).toList == ([37] : List UInt8)) = false := by rw [eqB]; simpa using n37
  go_enter Tryz.func139, Tryz.ntmps139
  go_wp2_with fail
  go_quiet (fail)
  go_wp2_with fail
  go_quiet (fail)
  go_wp2_with fail
  go_ret2
  exact ⟨rfl, Go.Joins.below_draws _ _ _⟩
theorem rop_any (b g cap a : Nat) (n o bad fault : Int) (ts : List TA) (w : World) (h : Rdg w b g cap ts.length a n o bad fault) (ht : TsAt w g ts) (ha : a < ts.length) (hn : ts.length ≤ 8001) (lv : Nat) (hl : lv ≤ 4) :
    Calls Tryz.prog 139 #[.pointer (some ⟨b, 0, none⟩), .int .i64 lv] w fun e w' => e = .returned (opC (opAt lv (tk ts a))) ∧ Below w.heap.size w w' := by
  by_cases hk : (tk ts a).kind = 5
  · unfold opAt
    rw [if_pos hk]
    obtain rfl | rfl | rfl | rfl | rfl : lv = 0 ∨ lv = 1 ∨ lv = 2 ∨ lv = 3 ∨ lv = 4 := by omega
    · unfold opOf
      by_cases n124_124 : (tk ts a).text = [124, 124]
      · simp only [n124_124]
        exact rop_0_124_124 b g cap a n o bad fault ts w h ht ha hn hk n124_124
      simp only [n124_124, if_false]
      exact rop_0_none b g cap a n o bad fault ts w h ht ha hn hk n124_124
    · unfold opOf
      by_cases n38_38 : (tk ts a).text = [38, 38]
      · simp only [n38_38]
        exact rop_1_38_38 b g cap a n o bad fault ts w h ht ha hn hk n38_38
      simp only [n38_38, if_false]
      exact rop_1_none b g cap a n o bad fault ts w h ht ha hn hk n38_38
    · unfold opOf
      by_cases n61_61 : (tk ts a).text = [61, 61]
      · simp only [n61_61]
        exact rop_2_61_61 b g cap a n o bad fault ts w h ht ha hn hk n61_61
      by_cases n33_61 : (tk ts a).text = [33, 61]
      · simp only [n33_61]
        exact rop_2_33_61 b g cap a n o bad fault ts w h ht ha hn hk n33_61
      by_cases n60 : (tk ts a).text = [60]
      · simp only [n60]
        exact rop_2_60 b g cap a n o bad fault ts w h ht ha hn hk n60
      by_cases n60_61 : (tk ts a).text = [60, 61]
      · simp only [n60_61]
        exact rop_2_60_61 b g cap a n o bad fault ts w h ht ha hn hk n60_61
      by_cases n62 : (tk ts a).text = [62]
      · simp only [n62]
        exact rop_2_62 b g cap a n o bad fault ts w h ht ha hn hk n62
      by_cases n62_61 : (tk ts a).text = [62, 61]
      · simp only [n62_61]
        exact rop_2_62_61 b g cap a n o bad fault ts w h ht ha hn hk n62_61
      simp only [n61_61, n33_61, n60, n60_61, n62, n62_61, if_false]
      exact rop_2_none b g cap a n o bad fault ts w h ht ha hn hk n61_61 n33_61 n60 n60_61 n62 n62_61
    · unfold opOf
      by_cases n43 : (tk ts a).text = [43]
      · simp only [n43]
        exact rop_3_43 b g cap a n o bad fault ts w h ht ha hn hk n43
      by_cases n45 : (tk ts a).text = [45]
      · simp only [n45]
        exact rop_3_45 b g cap a n o bad fault ts w h ht ha hn hk n45
      simp only [n43, n45, if_false]
      exact rop_3_none b g cap a n o bad fault ts w h ht ha hn hk n43 n45
    · unfold opOf
      by_cases n42 : (tk ts a).text = [42]
      · simp only [n42]
        exact rop_4_42 b g cap a n o bad fault ts w h ht ha hn hk n42
      by_cases n47 : (tk ts a).text = [47]
      · simp only [n47]
        exact rop_4_47 b g cap a n o bad fault ts w h ht ha hn hk n47
      by_cases n37 : (tk ts a).text = [37]
      · simp only [n37]
        exact rop_4_37 b g cap a n o bad fault ts w h ht ha hn hk n37
      simp only [n42, n47, n37, if_false]
      exact rop_4_none b g cap a n o bad fault ts w h ht ha hn hk n42 n47 n37
  · unfold opAt
    rw [if_neg hk]
    exact rop_kind b g cap a n o bad fault ts w h ht ha hn lv hk
theorem rbegins_any (b g cap a : Nat) (n o bad fault : Int) (ts : List TA) (w : World) (h : Rdg w b g cap ts.length a n o bad fault) (ht : TsAt w g ts) (ha : a < ts.length) (hn : ts.length ≤ 8001) :
    Calls Tryz.prog 211 #[.pointer (some ⟨b, 0, none⟩)] w fun e w' => e = .returned (.bool (begins ts a)) ∧ Below w.heap.size w w' := by
  have H1 := Lib.hid (fun (w1 : World) (b1 : Below w.heap.size w w1) => show Calls Tryz.prog 171 #[.pointer (some ⟨b, 0, none⟩), .string ⟨#[40]⟩] w1 fun e w' => e = .returned (.bool (isS ts a [40])) ∧ Below w.heap.size w1 w' from (ris_any b g cap a n o bad fault ts ⟨#[40]⟩ w1 (h.below b1) (ht.below b1) ha hn).mono fun e w' hh => ⟨hh.1, hh.2.mono b1.size⟩)
  have H2 := Lib.hid (fun (w1 : World) (b1 : Below w.heap.size w w1) => show Calls Tryz.prog 171 #[.pointer (some ⟨b, 0, none⟩), .string ⟨#[91]⟩] w1 fun e w' => e = .returned (.bool (isS ts a [91])) ∧ Below w.heap.size w1 w' from (ris_any b g cap a n o bad fault ts ⟨#[91]⟩ w1 (h.below b1) (ht.below b1) ha hn).mono fun e w' hh => ⟨hh.1, hh.2.mono b1.size⟩)
  have H3 := Lib.hid (fun (w1 : World) (b1 : Below w.heap.size w w1) => show Calls Tryz.prog 171 #[.pointer (some ⟨b, 0, none⟩), .string ⟨#[33]⟩] w1 fun e w' => e = .returned (.bool (isS ts a [33])) ∧ Below w.heap.size w1 w' from (ris_any b g cap a n o bad fault ts ⟨#[33]⟩ w1 (h.below b1) (ht.below b1) ha hn).mono fun e w' hh => ⟨hh.1, hh.2.mono b1.size⟩)
  have H4 := Lib.hid (fun (w1 : World) (b1 : Below w.heap.size w w1) => show Calls Tryz.prog 171 #[.pointer (some ⟨b, 0, none⟩), .string ⟨#[45]⟩] w1 fun e w' => e = .returned (.bool (isS ts a [45])) ∧ Below w.heap.size w1 w' from (ris_any b g cap a n o bad fault ts ⟨#[45]⟩ w1 (h.below b1) (ht.below b1) ha hn).mono fun e w' hh => ⟨hh.1, hh.2.mono b1.size⟩)
  obtain ⟨p0, p1, _, _⟩ := ht.tok ha
  have e0 := h.c0
  have e1 := h.c1
  have hai : (a : Int) < (ts.length : Int) := by omega
  have hni : (ts.length : Int) ≤ 8001 := by omega
  clear h ht ha hn
  unfold begins
  generalize isS ts a [40] = c1 at *
  generalize isS ts a [91] = c2 at *
  generalize isS ts a [33] = c3 at *
  generalize isS ts a [45] = c4 at *
  generalize tk ts a = t at *
  obtain ⟨k, x, m, q⟩ := t
  simp only at p0 p1
  by_cases hk : 1 ≤ k ∧ k ≤ 4
  · obtain ⟨k1, k2⟩ := hk
    rw [decide_eq_true (show 1 ≤ k ∧ k ≤ 4 from ⟨k1, k2⟩)]
    simp only [Bool.true_or]
    go_enter Tryz.func211, Tryz.ntmps211
    go_wp2_with fail
    go_quiet (fail)
    go_wp2_with fail
    go_ret
    first | exact ⟨rfl, Go.Joins.below_draws _ _ _⟩ | exact ⟨by simp, Go.Joins.below_draws _ _ _⟩
  · rw [decide_eq_false hk]
    simp only [Bool.false_or]
    by_cases k1 : 1 ≤ k
    · have k2 : ¬ k ≤ 4 := fun h => hk ⟨k1, h⟩
      go_enter Tryz.func211, Tryz.ntmps211
      go_wp2_with fail
      go_quiet (fail)
      go_wp2_with fail
      refine (H1.out _ (Go.Joins.below_draws _ _ _)).mono ?_
      rintro e w1 ⟨rfl, b1⟩
      have B1 := Lib.hid (((Go.Joins.below_draws _ _ _) : Below w.heap.size w _).trans b1)
      clear b1
      cases c1 with
      | true =>
        go_wp2_with fail
        go_ret
        exact ⟨rfl, B1.out⟩
      | false =>
        go_wp2_with fail
        refine (H2.out _ B1.out).mono ?_
        rintro e w2 ⟨rfl, b2⟩
        have B2 := Lib.hid ((B1.out : Below w.heap.size w _).trans b2)
        clear b2
        cases c2 with
        | true =>
          go_wp2_with fail
          go_ret
          exact ⟨rfl, B2.out⟩
        | false =>
          go_wp2_with fail
          refine (H3.out _ B2.out).mono ?_
          rintro e w3 ⟨rfl, b3⟩
          have B3 := Lib.hid ((B2.out : Below w.heap.size w _).trans b3)
          clear b3
          cases c3 with
          | true =>
            go_wp2_with fail
            go_ret
            exact ⟨rfl, B3.out⟩
          | false =>
            go_wp2_with fail
            refine (H4.out _ B3.out).mono ?_
            rintro e w4 ⟨rfl, b4⟩
            have B4 := Lib.hid ((B3.out : Below w.heap.size w _).trans b4)
            clear b4
            cases c4 with
            | true =>
              go_wp2_with fail
              go_ret
              exact ⟨rfl, B4.out⟩
            | false =>
              go_wp2_with fail
              go_ret
              first | exact ⟨rfl, B4.out⟩ | exact ⟨by simp [k2], B4.out⟩ | exact ⟨by simp [k1], B4.out⟩
    · go_enter Tryz.func211, Tryz.ntmps211
      go_wp2_with fail
      go_quiet (fail)
      go_wp2_with fail
      refine (H1.out _ (Go.Joins.below_draws _ _ _)).mono ?_
      rintro e w1 ⟨rfl, b1⟩
      have B1 := Lib.hid (((Go.Joins.below_draws _ _ _) : Below w.heap.size w _).trans b1)
      clear b1
      cases c1 with
      | true =>
        go_wp2_with fail
        go_ret
        exact ⟨rfl, B1.out⟩
      | false =>
        go_wp2_with fail
        refine (H2.out _ B1.out).mono ?_
        rintro e w2 ⟨rfl, b2⟩
        have B2 := Lib.hid ((B1.out : Below w.heap.size w _).trans b2)
        clear b2
        cases c2 with
        | true =>
          go_wp2_with fail
          go_ret
          exact ⟨rfl, B2.out⟩
        | false =>
          go_wp2_with fail
          refine (H3.out _ B2.out).mono ?_
          rintro e w3 ⟨rfl, b3⟩
          have B3 := Lib.hid ((B2.out : Below w.heap.size w _).trans b3)
          clear b3
          cases c3 with
          | true =>
            go_wp2_with fail
            go_ret
            exact ⟨rfl, B3.out⟩
          | false =>
            go_wp2_with fail
            refine (H4.out _ B3.out).mono ?_
            rintro e w4 ⟨rfl, b4⟩
            have B4 := Lib.hid ((B3.out : Below w.heap.size w _).trans b4)
            clear b4
            cases c4 with
            | true =>
              go_wp2_with fail
              go_ret
              exact ⟨rfl, B4.out⟩
            | false =>
              go_wp2_with fail
              go_ret
              first | exact ⟨rfl, B4.out⟩ | exact ⟨by simp [k2], B4.out⟩ | exact ⟨by simp [k1], B4.out⟩
end Go.Proofs.YtlmmfhbdebfgkaaGreatDoor.Ex
