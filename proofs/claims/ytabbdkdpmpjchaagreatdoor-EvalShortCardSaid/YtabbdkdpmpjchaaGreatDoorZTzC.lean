/-
  Several texts in one: ExRefA, ExRefOp, ExRes, TyMem.
-/
import Derived.Test.YtabbdkdpmpjchaaGreatDoorZTzB
import Derived.Lib.Hide
import Derived.Deep.QuietTactic
import Derived.BigQuiet
import Derived.Lib.SmallJoins
import Derived.Test.YtabbdkdpmpjchaaGreatDoorZTzA
namespace Go.Proofs.YtabbdkdpmpjchaaGreatDoor.Ex
open Go.RowKit
open Lx
set_option maxRecDepth 100000 in
set_option maxHeartbeats 1000000 in
theorem ris_any (b g cap a : Nat) (n o bad fault : Int) (ts : List TA) (s : ByteArray) (w : World) (h : Rdg w b g cap ts.length a n o bad fault) (ht : TsAt w g ts) (ha : a < ts.length) (hn : ts.length ≤ 8001) :
    Calls Tryz.prog 174 #[.pointer (some ⟨b, 0, none⟩), .string s] w fun e w' => e = .returned (.bool (isS ts a s.data.toList)) ∧ Below w.heap.size w w' := by
  obtain ⟨p0, p1, _, _⟩ := ht.tok ha
  have c0 := h.c0
  have c1 := h.c1
  have hai : (a : Int) < (ts.length : Int) := by omega
  have hni : (ts.length : Int) ≤ 8001 := by omega
  unfold isS
  clear h ht
  generalize tk ts a = t at *
  obtain ⟨k, x, m, q⟩ := t
  simp only at p0 p1 ⊢
  have e1 : ((S x).toList == s.toList) = (x == s.data.toList) := by rw [ByteArray.toList_eq, ByteArray.toList_eq, S_toList]
  by_cases hk : k = 5
  · subst hk
    cases hx : (x == s.data.toList) with
    | true =>
      rw [hx] at e1
      clear hx
      go_enter Tryz.func174, Tryz.ntmps174
      go_wp2_with fail
      go_quiet (fail)
      go_wp2_with fail
      go_ret
      exact ⟨rfl, Go.Joins.below_draws _ _ _⟩
    | false =>
      rw [hx] at e1
      clear hx
      go_enter Tryz.func174, Tryz.ntmps174
      go_wp2_with fail
      go_quiet (fail)
      go_wp2_with fail
      go_ret
      exact ⟨rfl, Go.Joins.below_draws _ _ _⟩
  · have hk2 : (k == 5) = false := by simpa using hk
    rw [hk2, Bool.false_and]
    go_enter Tryz.func174, Tryz.ntmps174
    go_wp2_with fail
    go_quiet (fail)
    go_wp2_with fail
    go_ret
    exact ⟨rfl, Go.Joins.below_draws _ _ _⟩
def noX : Value := .agg #[.int .i64 0, .int .i64 0, .string ⟨#[]⟩, .slice none 0 0]
theorem new_box (W : World) (cs : Array Value) (t : TypeId) (k : Nat) (h : W.heap.size = k) : (W.alloc (.cells cs t)).heap[k]? = some (.cells cs t (0, 0)) := by
  subst h; exact heap_alloc_new W _
theorem res_expr {fn : Func} {p : Tmp} (h : fn.results = #[.cell p 24]) (tmps : Array Value) (w : World) (g : Nat) (a b c d : Value)
    (hp : tmps.getD p undef = .pointer (some ⟨g, 0, none⟩)) (hg : w.heap[g]? = some (.cells #[a, b, c, d] 24 (0, 0))) : (results fn tmps).run Tryz.prog w = .ok (.agg #[a, b, c, d]) w :=
  results_cell_row h tmps w g _ _ _ _ hp hg Tryz.underlying24 rfl (by kernel_rfl)
set_option maxHeartbeats 1000000 in
theorem rfail_any (b g cap len : Nat) (a n o fault : Int) (er : Int) (w : World) (h : Rdg w b g cap len a n o 0 fault) :
    Calls Tryz.prog 177 #[.pointer (some ⟨b, 0, none⟩), .int .i64 er] w fun e w' => e = .returned noX ∧ Rdg w' b g cap len a n o er a ∧ Only b w w' := by
  have c1 := h.c1
  have c4 := h.c4
  have c5 := h.c5
  have hz := h.fz
  have hlt := h.lt
  have hne : ¬ b = w.heap.size := by omega
  have zc : ∀ o j, (w.alloc o).cell? ⟨b, j, none⟩ = w.cell? ⟨b, j, none⟩ := fun o j => Kept.cell (Kept.of_below (ok := fun _ => True) ((Below.refl _ _).alloc (Nat.le_refl _) o)) trivial hlt
  have zf : ∀ o j, (w.alloc o).frozen? ⟨b, j, none⟩ = false := fun o j => (h.below ((Below.refl _ _).alloc (Nat.le_refl _) o)).fz j
  have H := Lib.hid h
  clear h
  have R1 := Lib.hid ((H.out.set4 er).set5 a)
  have O1 := Lib.hid ((Only.set b w 4 (.int .i64 er)).set' 5 (.int .i64 a))
  go_enter Tryz.func177, Tryz.ntmps177
  go_wp2_with fail
  refine bodyPost_ret (res_expr rfl _ _ w.heap.size _ _ _ _ rfl (new_box _ _ _ _ (by simp))) rfl ?_
  exact ⟨rfl, R1.out.below ((Below.refl _ _).alloc (Nat.le_refl _) _), O1.out.trans (Only.of_below ((Below.refl _ _).alloc (Nat.le_refl _) _))⟩
theorem rfail_more (b g cap len : Nat) (a n o bad fault : Int) (hb : bad ≠ 0) (er : Int) (w : World) (h : Rdg w b g cap len a n o bad fault) :
    Calls Tryz.prog 177 #[.pointer (some ⟨b, 0, none⟩), .int .i64 er] w fun e w' => e = .returned noX ∧ Below w.heap.size w w' := by
  have c4 := h.c4
  have hb2 : (bad == 0) = false := by simpa using hb
  have hlt := h.lt
  have zc : ∀ o j, (w.alloc o).cell? ⟨b, j, none⟩ = w.cell? ⟨b, j, none⟩ := fun o j => Kept.cell (Kept.of_below (ok := fun _ => True) ((Below.refl _ _).alloc (Nat.le_refl _) o)) trivial hlt
  clear h
  go_enter Tryz.func177, Tryz.ntmps177
  go_wp2_with fail
  refine bodyPost_ret (res_expr rfl _ _ w.heap.size _ _ _ _ rfl (new_box _ _ _ _ rfl)) rfl ?_
  exact ⟨rfl, (Below.refl _ _).alloc (Nat.le_refl _) _⟩
set_option maxRecDepth 100000 in
set_option maxHeartbeats 1000000 in
theorem rtake_ok (b g cap a : Nat) (n o fault : Int) (ts : List TA) (s : ByteArray) (w : World) (h : Rdg w b g cap ts.length a n o 0 fault) (ht : TsAt w g ts) (ha : a < ts.length) (hn : ts.length ≤ 8001) (hs : isS ts a s.data.toList = true) :
    Calls Tryz.prog 213 #[.pointer (some ⟨b, 0, none⟩), .string s] w fun e w' => e = .returned (.tuple #[]) ∧ Rdg w' b g cap ts.length (a + 1 : Nat) n o 0 fault ∧ Only b w w' := by
  have HIS := Lib.hid (ris_any b g cap a n o 0 fault ts s w h ht ha hn)
  rw [hs] at HIS
  have c4 := h.c4
  have HWR := Lib.hid (show (a : Int) + 1 = ((a + 1 : Nat) : Int) by omega)
  have hai : (a : Int) ≤ 8001 := by omega
  have H := Lib.hid h
  clear h ht hs ha hn
  go_enter Tryz.func213, Tryz.ntmps213
  go_wp2_with fail
  refine HIS.out.mono ?_
  rintro e w1 ⟨rfl, b1⟩
  have h1 := H.out.below b1
  have d1 := h1.c1
  have hz := h1.fz
  have R1 := Lib.hid (h1.set1 ((a + 1 : Nat) : Int))
  have O1 := Lib.hid ((Only.of_below b1).set' (b := b) 1 (.int .i64 ((a + 1 : Nat) : Int)))
  clear h1 b1
  go_wp2_with fail
  first | go_end0 | refine bodyPost_ret (results_none rfl _ _ _) rfl ?_
  rw [HWR.out]
  exact ⟨rfl, R1.out, O1.out⟩
set_option maxRecDepth 100000 in
set_option maxHeartbeats 1000000 in
theorem rtake_no (b g cap a : Nat) (n o fault : Int) (ts : List TA) (s : ByteArray) (w : World) (h : Rdg w b g cap ts.length a n o 0 fault) (ht : TsAt w g ts) (ha : a < ts.length) (hn : ts.length ≤ 8001) (hs : isS ts a s.data.toList = false) :
    Calls Tryz.prog 213 #[.pointer (some ⟨b, 0, none⟩), .string s] w fun e w' => e = .returned (.tuple #[]) ∧ Rdg w' b g cap ts.length a n o 25 a ∧ Only b w w' := by
  have HIS := Lib.hid (ris_any b g cap a n o 0 fault ts s w h ht ha hn)
  rw [hs] at HIS
  have HF := Lib.hid (fun w1 (b1 : Below w.heap.size w w1) => rfail_any b g cap ts.length a n o fault 25 w1 (h.below b1))
  have c4 := h.c4
  clear h ht hs ha hn
  go_enter Tryz.func213, Tryz.ntmps213
  go_wp2_with fail
  refine HIS.out.mono ?_
  rintro e w1 ⟨rfl, b1⟩
  have B1 := Lib.hid b1
  clear b1
  go_wp2_with fail
  refine (HF.out _ B1.out).mono ?_
  rintro e w2 ⟨rfl, r2, o2⟩
  have R2 := Lib.hid r2
  have O2 := Lib.hid ((Only.of_below B1.out).trans o2)
  clear r2 o2
  go_wp2_with fail
  first | go_end0 | refine bodyPost_ret (results_none rfl _ _ _) rfl ?_
  exact ⟨rfl, R2.out, O2.out⟩
set_option maxRecDepth 100000 in
set_option maxHeartbeats 1000000 in
theorem rtake_bad (b g cap len : Nat) (a n o bad fault : Int) (hb : bad ≠ 0) (s : ByteArray) (w : World) (h : Rdg w b g cap len a n o bad fault) :
    Calls Tryz.prog 213 #[.pointer (some ⟨b, 0, none⟩), .string s] w fun e w' => e = .returned (.tuple #[]) ∧ w = w' := by
  have c4 := h.c4
  have hb2 : (bad == 0) = false := by simpa using hb
  have hb3 : (bad != 0) = true := by simpa using hb
  clear h
  go_enter Tryz.func213, Tryz.ntmps213
  go_wp2_with fail
  first | go_end0 | refine bodyPost_ret (results_none rfl _ _ _) rfl ?_
  exact ⟨rfl, rfl⟩
set_option maxRecDepth 100000 in
set_option maxHeartbeats 1000000 in
theorem rnode_ok (b g cap len : Nat) (a o fault : Int) (n : Nat) (w : World) (h : Rdg w b g cap len a n o 0 fault) (hn : n < 200) :
    Calls Tryz.prog 144 #[.pointer (some ⟨b, 0, none⟩)] w fun e w' => e = .returned (.tuple #[]) ∧ Rdg w' b g cap len a (n + 1 : Nat) o 0 fault ∧ Only b w w' := by
  have c2 := h.c2
  have hz := h.fz
  have R1 := Lib.hid (h.set2 ((n + 1 : Nat) : Int))
  have O1 := Lib.hid (Only.set b w 2 (.int .i64 ((n + 1 : Nat) : Int)))
  have HWR := Lib.hid (show (n : Int) + 1 = ((n + 1 : Nat) : Int) by omega)
  have hni : (n : Int) < 200 := by omega
  clear h
  go_enter Tryz.func144, Tryz.ntmps144
  go_wp2_with fail
  go_end0
  rw [HWR.out]
  exact ⟨rfl, R1.out, O1.out⟩
set_option maxRecDepth 100000 in
set_option maxHeartbeats 1000000 in
theorem rnode_no (b g cap len : Nat) (a o fault : Int) (w : World) (h : Rdg w b g cap len a (200 : Nat) o 0 fault) :
    Calls Tryz.prog 144 #[.pointer (some ⟨b, 0, none⟩)] w fun e w' => e = .returned (.tuple #[]) ∧ (∃ n, Rdg w' b g cap len a n o 27 a) ∧ Only b w w' := by
  have HF := Lib.hid (fun w1 (k : Rdg w1 b g cap len a 201 o 0 fault) => rfail_any b g cap len a 201 o fault 27 w1 k)
  have c2 := h.c2
  have hz := h.fz
  have R1 := Lib.hid (h.set2 201)
  have O1 := Lib.hid (Only.set b w 2 (.int .i64 201))
  clear h
  go_enter Tryz.func144, Tryz.ntmps144
  go_wp2_with fail
  refine (HF.out _ R1.out).mono ?_
  rintro e w2 ⟨rfl, r2, o2⟩
  have R2 := Lib.hid r2
  have O2 := Lib.hid (O1.out.trans o2)
  clear r2 o2
  go_wp2_with fail
  first | go_end0 | refine bodyPost_ret (results_none rfl _ _ _) rfl ?_
  exact ⟨rfl, ⟨_, R2.out⟩, O2.out⟩
set_option maxRecDepth 100000 in
set_option maxHeartbeats 1000000 in
theorem rnode_bad (b g cap len : Nat) (a n o bad fault : Int) (hb : bad ≠ 0) (w : World) (h : Rdg w b g cap len a n o bad fault) :
    Calls Tryz.prog 144 #[.pointer (some ⟨b, 0, none⟩)] w fun e w' => e = .returned (.tuple #[]) ∧ (∃ n', Rdg w' b g cap len a n' o bad fault) ∧ Only b w w' := by
  have HF := Lib.hid (fun m w1 (k : Rdg w1 b g cap len a m o bad fault) => rfail_more b g cap len a m o bad fault hb 27 w1 k)
  have c2 := h.c2
  have hz := h.fz
  have R1 := Lib.hid (fun v => h.set2 v)
  have O1 := Lib.hid (fun v => Only.set b w 2 (.int .i64 v))
  clear h
  go_enter Tryz.func144, Tryz.ntmps144
  go_wp2_with fail
  · refine (HF.out _ _ (R1.out _)).mono ?_
    rintro e w2 ⟨rfl, b2⟩
    have R2 := Lib.hid ((R1.out _).below b2)
    have O2 := Lib.hid ((O1.out _).trans (Only.of_below b2))
    clear b2
    go_wp2_with fail
    first | go_end0 | refine bodyPost_ret (results_none rfl _ _ _) rfl ?_
    exact ⟨rfl, ⟨_, R2.out⟩, O2.out⟩
  · first | go_end0 | refine bodyPost_ret (results_none rfl _ _ _) rfl ?_
    exact ⟨rfl, ⟨_, R1.out _⟩, O1.out _⟩
set_option maxRecDepth 100000 in
set_option maxHeartbeats 1000000 in
theorem ropens_ok (b g cap len : Nat) (a n fault : Int) (o : Nat) (w : World) (h : Rdg w b g cap len a n o 0 fault) (hn : o < 20) :
    Calls Tryz.prog 176 #[.pointer (some ⟨b, 0, none⟩)] w fun e w' => e = .returned (.tuple #[]) ∧ Rdg w' b g cap len a n (o + 1 : Nat) 0 fault ∧ Only b w w' := by
  have c3 := h.c3
  have hz := h.fz
  have R1 := Lib.hid (h.set3 ((o + 1 : Nat) : Int))
  have O1 := Lib.hid (Only.set b w 3 (.int .i64 ((o + 1 : Nat) : Int)))
  have HWR := Lib.hid (show (o : Int) + 1 = ((o + 1 : Nat) : Int) by omega)
  have hni : (o : Int) < 20 := by omega
  clear h
  go_enter Tryz.func176, Tryz.ntmps176
  go_wp2_with fail
  go_end0
  rw [HWR.out]
  exact ⟨rfl, R1.out, O1.out⟩
set_option maxRecDepth 100000 in
set_option maxHeartbeats 1000000 in
theorem ropens_no (b g cap len : Nat) (a n fault : Int) (w : World) (h : Rdg w b g cap len a n (20 : Nat) 0 fault) :
    Calls Tryz.prog 176 #[.pointer (some ⟨b, 0, none⟩)] w fun e w' => e = .returned (.tuple #[]) ∧ (∃ o, Rdg w' b g cap len a n o 26 a) ∧ Only b w w' := by
  have HF := Lib.hid (fun w1 (k : Rdg w1 b g cap len a n 21 0 fault) => rfail_any b g cap len a n 21 fault 26 w1 k)
  have c3 := h.c3
  have hz := h.fz
  have R1 := Lib.hid (h.set3 21)
  have O1 := Lib.hid (Only.set b w 3 (.int .i64 21))
  clear h
  go_enter Tryz.func176, Tryz.ntmps176
  go_wp2_with fail
  refine (HF.out _ R1.out).mono ?_
  rintro e w2 ⟨rfl, r2, o2⟩
  have R2 := Lib.hid r2
  have O2 := Lib.hid (O1.out.trans o2)
  clear r2 o2
  go_wp2_with fail
  first | go_end0 | refine bodyPost_ret (results_none rfl _ _ _) rfl ?_
  exact ⟨rfl, ⟨_, R2.out⟩, O2.out⟩
end Go.Proofs.YtabbdkdpmpjchaaGreatDoor.Ex

namespace Go.Proofs.YtabbdkdpmpjchaaGreatDoor.Ex
open Go.RowKit
open Lx
theorem eqB (x y : List UInt8) : ((S x).toList == y) = (x == y) := by rw [ByteArray.toList_eq, S_toList]
def opC (x : Option (Int × Bool)) : Value := match x with
  | some (o, t) => .tuple #[.int .i64 o, .bool t]
  | none => .tuple #[.int .i64 0, .bool false]
set_option maxRecDepth 100000 in
theorem rop_kind (b g cap a : Nat) (n o bad fault : Int) (ts : List TA) (w : World) (h : Rdg w b g cap ts.length a n o bad fault) (ht : TsAt w g ts) (ha : a < ts.length) (hn : ts.length ≤ 8001) (lv : Nat) (hk : (tk ts a).kind ≠ 5) :
    Calls Tryz.prog 143 #[.pointer (some ⟨b, 0, none⟩), .int .i64 lv] w fun e w' => e = .returned (.tuple #[.int .i64 0, .bool false]) ∧ Below w.heap.size w w' := by
  obtain ⟨p0, p1, _, _⟩ := ht.tok ha
  have c0 := h.c0
  have c1 := h.c1
  have hai : (a : Int) < (ts.length : Int) := by omega
  have hni : (ts.length : Int) ≤ 8001 := by omega
  clear h ht ha hn
  generalize tk ts a = t at *
  obtain ⟨k, x, m, q⟩ := t
  simp only at p0 p1 hk
  have hk2 : (k == 5) = false := by simpa using hk
  have hk3 : (k != 5) = true := by simpa using hk
  go_enter Tryz.func143, Tryz.ntmps143
  go_wp2_with fail
  go_quiet (fail)
  go_wp2_with fail
  go_ret2
  exact ⟨rfl, Go.Joins.below_draws _ _ _⟩
set_option maxRecDepth 100000 in
set_option linter.unusedVariables false in
theorem rop_0_124_124 (b g cap a : Nat) (n o bad fault : Int) (ts : List TA) (w : World) (h : Rdg w b g cap ts.length a n o bad fault) (ht : TsAt w g ts) (ha : a < ts.length) (hn : ts.length ≤ 8001) (hk : (tk ts a).kind = 5) (hx : (tk ts a).text = [124, 124]) :
    Calls Tryz.prog 143 #[.pointer (some ⟨b, 0, none⟩), .int .i64 0] w fun e w' => e = .returned (.tuple #[.int .i64 41, .bool false]) ∧ Below w.heap.size w w' := by
  obtain ⟨p0, p1, _, _⟩ := ht.tok ha
  have c0 := h.c0
  have c1 := h.c1
  have hai : (a : Int) < (ts.length : Int) := by omega
  have hni : (ts.length : Int) ≤ 8001 := by omega
  clear h ht ha hn
  rw [hk] at p0
  rw [hx] at p1
  clear hk hx
  have q124_124 : ((S [124, 124]).toList == ([124, 124] : List UInt8)) = true := by rw [eqB]; rfl
  go_enter Tryz.func143, Tryz.ntmps143
  go_wp2_with fail
  go_quiet (fail)
  go_wp2_with fail
  go_quiet (fail)
  go_wp2_with fail
  go_ret2
  exact ⟨rfl, Go.Joins.below_draws _ _ _⟩
set_option maxRecDepth 100000 in
theorem rop_0_none (b g cap a : Nat) (n o bad fault : Int) (ts : List TA) (w : World) (h : Rdg w b g cap ts.length a n o bad fault) (ht : TsAt w g ts) (ha : a < ts.length) (hn : ts.length ≤ 8001) (hk : (tk ts a).kind = 5) (n124_124 : (tk ts a).text ≠ [124, 124]) :
    Calls Tryz.prog 143 #[.pointer (some ⟨b, 0, none⟩), .int .i64 0] w fun e w' => e = .returned (.tuple #[.int .i64 0, .bool false]) ∧ Below w.heap.size w w' := by
  obtain ⟨p0, p1, _, _⟩ := ht.tok ha
  have c0 := h.c0
  have c1 := h.c1
  have hai : (a : Int) < (ts.length : Int) := by omega
  have hni : (ts.length : Int) ≤ 8001 := by omega
  clear h ht ha hn
  generalize tk ts a = t at *
  obtain ⟨k, x, m, q⟩ := t
  simp only at p0 p1 hk n124_124
  subst hk
  have q124_124 : ((S x).toList == ([124, 124] : List UInt8)) = false := by rw [eqB]; simpa using n124_124
  go_enter Tryz.func143, Tryz.ntmps143
  go_wp2_with fail
  go_quiet (fail)
  go_wp2_with fail
  go_quiet (fail)
  go_wp2_with fail
  go_ret2
  exact ⟨rfl, Go.Joins.below_draws _ _ _⟩
set_option maxRecDepth 100000 in
set_option linter.unusedVariables false in
theorem rop_1_38_38 (b g cap a : Nat) (n o bad fault : Int) (ts : List TA) (w : World) (h : Rdg w b g cap ts.length a n o bad fault) (ht : TsAt w g ts) (ha : a < ts.length) (hn : ts.length ≤ 8001) (hk : (tk ts a).kind = 5) (hx : (tk ts a).text = [38, 38]) :
    Calls Tryz.prog 143 #[.pointer (some ⟨b, 0, none⟩), .int .i64 1] w fun e w' => e = .returned (.tuple #[.int .i64 40, .bool false]) ∧ Below w.heap.size w w' := by
  obtain ⟨p0, p1, _, _⟩ := ht.tok ha
  have c0 := h.c0
  have c1 := h.c1
  have hai : (a : Int) < (ts.length : Int) := by omega
  have hni : (ts.length : Int) ≤ 8001 := by omega
  clear h ht ha hn
  rw [hk] at p0
  rw [hx] at p1
  clear hk hx
  have q38_38 : ((S [38, 38]).toList == ([38, 38] : List UInt8)) = true := by rw [eqB]; rfl
  go_enter Tryz.func143, Tryz.ntmps143
  go_wp2_with fail
  go_quiet (fail)
  go_wp2_with fail
  go_quiet (fail)
  go_wp2_with fail
  go_ret2
  exact ⟨rfl, Go.Joins.below_draws _ _ _⟩
set_option maxRecDepth 100000 in
theorem rop_1_none (b g cap a : Nat) (n o bad fault : Int) (ts : List TA) (w : World) (h : Rdg w b g cap ts.length a n o bad fault) (ht : TsAt w g ts) (ha : a < ts.length) (hn : ts.length ≤ 8001) (hk : (tk ts a).kind = 5) (n38_38 : (tk ts a).text ≠ [38, 38]) :
    Calls Tryz.prog 143 #[.pointer (some ⟨b, 0, none⟩), .int .i64 1] w fun e w' => e = .returned (.tuple #[.int .i64 0, .bool false]) ∧ Below w.heap.size w w' := by
  obtain ⟨p0, p1, _, _⟩ := ht.tok ha
  have c0 := h.c0
  have c1 := h.c1
  have hai : (a : Int) < (ts.length : Int) := by omega
  have hni : (ts.length : Int) ≤ 8001 := by omega
  clear h ht ha hn
  generalize tk ts a = t at *
  obtain ⟨k, x, m, q⟩ := t
  simp only at p0 p1 hk n38_38
  subst hk
  have q38_38 : ((S x).toList == ([38, 38] : List UInt8)) = false := by rw [eqB]; simpa using n38_38
  go_enter Tryz.func143, Tryz.ntmps143
  go_wp2_with fail
  go_quiet (fail)
  go_wp2_with fail
  go_quiet (fail)
  go_wp2_with fail
  go_ret2
  exact ⟨rfl, Go.Joins.below_draws _ _ _⟩
set_option maxRecDepth 100000 in
set_option linter.unusedVariables false in
theorem rop_2_61_61 (b g cap a : Nat) (n o bad fault : Int) (ts : List TA) (w : World) (h : Rdg w b g cap ts.length a n o bad fault) (ht : TsAt w g ts) (ha : a < ts.length) (hn : ts.length ≤ 8001) (hk : (tk ts a).kind = 5) (hx : (tk ts a).text = [61, 61]) :
    Calls Tryz.prog 143 #[.pointer (some ⟨b, 0, none⟩), .int .i64 2] w fun e w' => e = .returned (.tuple #[.int .i64 30, .bool false]) ∧ Below w.heap.size w w' := by
  obtain ⟨p0, p1, _, _⟩ := ht.tok ha
  have c0 := h.c0
  have c1 := h.c1
  have hai : (a : Int) < (ts.length : Int) := by omega
  have hni : (ts.length : Int) ≤ 8001 := by omega
  clear h ht ha hn
  rw [hk] at p0
  rw [hx] at p1
  clear hk hx
  have q61_61 : ((S [61, 61]).toList == ([61, 61] : List UInt8)) = true := by rw [eqB]; rfl
  have q33_61 : ((S [61, 61]).toList == ([33, 61] : List UInt8)) = false := by rw [eqB]; rfl
  have q60 : ((S [61, 61]).toList == ([60] : List UInt8)) = false := by rw [eqB]; rfl
  have q60_61 : ((S [61, 61]).toList == ([60, 61] : List UInt8)) = false := by rw [eqB]; rfl
  have q62 : ((S [61, 61]).toList == ([62] : List UInt8)) = false := by rw [eqB]; rfl
  have q62_61 : ((S [61, 61]).toList == ([62, 61] : List UInt8)) = false := by rw [eqB]; rfl
  go_enter Tryz.func143, Tryz.ntmps143
  go_wp2_with fail
  go_quiet (fail)
  go_wp2_with fail
  go_quiet (fail)
  go_wp2_with fail
  go_ret2
  exact ⟨rfl, Go.Joins.below_draws _ _ _⟩
set_option maxRecDepth 100000 in
set_option linter.unusedVariables false in
theorem rop_2_33_61 (b g cap a : Nat) (n o bad fault : Int) (ts : List TA) (w : World) (h : Rdg w b g cap ts.length a n o bad fault) (ht : TsAt w g ts) (ha : a < ts.length) (hn : ts.length ≤ 8001) (hk : (tk ts a).kind = 5) (hx : (tk ts a).text = [33, 61]) :
    Calls Tryz.prog 143 #[.pointer (some ⟨b, 0, none⟩), .int .i64 2] w fun e w' => e = .returned (.tuple #[.int .i64 31, .bool false]) ∧ Below w.heap.size w w' := by
  obtain ⟨p0, p1, _, _⟩ := ht.tok ha
  have c0 := h.c0
  have c1 := h.c1
  have hai : (a : Int) < (ts.length : Int) := by omega
  have hni : (ts.length : Int) ≤ 8001 := by omega
  clear h ht ha hn
  rw [hk] at p0
  rw [hx] at p1
  clear hk hx
  have q61_61 : ((S [33, 61]).toList == ([61, 61] : List UInt8)) = false := by rw [eqB]; rfl
  have q33_61 : ((S [33, 61]).toList == ([33, 61] : List UInt8)) = true := by rw [eqB]; rfl
  have q60 : ((S [33, 61]).toList == ([60] : List UInt8)) = false := by rw [eqB]; rfl
  have q60_61 : ((S [33, 61]).toList == ([60, 61] : List UInt8)) = false := by rw [eqB]; rfl
  have q62 : ((S [33, 61]).toList == ([62] : List UInt8)) = false := by rw [eqB]; rfl
  have q62_61 : ((S [33, 61]).toList == ([62, 61] : List UInt8)) = false := by rw [eqB]; rfl
  go_enter Tryz.func143, Tryz.ntmps143
  go_wp2_with fail
  go_quiet (fail)
  go_wp2_with fail
  go_quiet (fail)
  go_wp2_with fail
  go_ret2
  exact ⟨rfl, Go.Joins.below_draws _ _ _⟩
set_option maxRecDepth 100000 in
set_option linter.unusedVariables false in
theorem rop_2_60 (b g cap a : Nat) (n o bad fault : Int) (ts : List TA) (w : World) (h : Rdg w b g cap ts.length a n o bad fault) (ht : TsAt w g ts) (ha : a < ts.length) (hn : ts.length ≤ 8001) (hk : (tk ts a).kind = 5) (hx : (tk ts a).text = [60]) :
    Calls Tryz.prog 143 #[.pointer (some ⟨b, 0, none⟩), .int .i64 2] w fun e w' => e = .returned (.tuple #[.int .i64 32, .bool false]) ∧ Below w.heap.size w w' := by
  obtain ⟨p0, p1, _, _⟩ := ht.tok ha
  have c0 := h.c0
  have c1 := h.c1
  have hai : (a : Int) < (ts.length : Int) := by omega
  have hni : (ts.length : Int) ≤ 8001 := by omega
  clear h ht ha hn
  rw [hk] at p0
  rw [hx] at p1
  clear hk hx
  have q61_61 : ((S [60]).toList == ([61, 61] : List UInt8)) = false := by rw [eqB]; rfl
  have q33_61 : ((S [60]).toList == ([33, 61] : List UInt8)) = false := by rw [eqB]; rfl
  have q60 : ((S [60]).toList == ([60] : List UInt8)) = true := by rw [eqB]; rfl
  have q60_61 : ((S [60]).toList == ([60, 61] : List UInt8)) = false := by rw [eqB]; rfl
  have q62 : ((S [60]).toList == ([62] : List UInt8)) = false := by rw [eqB]; rfl
  have q62_61 : ((S [60]).toList == ([62, 61] : List UInt8)) = false := by rw [eqB]; rfl
  go_enter Tryz.func143, Tryz.ntmps143
  go_wp2_with fail
  go_quiet (fail)
  go_wp2_with fail
  go_quiet (fail)
  go_wp2_with fail
  go_ret2
  exact ⟨rfl, Go.Joins.below_draws _ _ _⟩
set_option maxRecDepth 100000 in
set_option linter.unusedVariables false in
theorem rop_2_60_61 (b g cap a : Nat) (n o bad fault : Int) (ts : List TA) (w : World) (h : Rdg w b g cap ts.length a n o bad fault) (ht : TsAt w g ts) (ha : a < ts.length) (hn : ts.length ≤ 8001) (hk : (tk ts a).kind = 5) (hx : (tk ts a).text = [60, 61]) :
    Calls Tryz.prog 143 #[.pointer (some ⟨b, 0, none⟩), .int .i64 2] w fun e w' => e = .returned (.tuple #[.int .i64 33, .bool false]) ∧ Below w.heap.size w w' := by
  obtain ⟨p0, p1, _, _⟩ := ht.tok ha
  have c0 := h.c0
  have c1 := h.c1
  have hai : (a : Int) < (ts.length : Int) := by omega
  have hni : (ts.length : Int) ≤ 8001 := by omega
  clear h ht ha hn
  rw [hk] at p0
  rw [hx] at p1
  clear hk hx
  have q61_61 : ((S [60, 61]).toList == ([61, 61] : List UInt8)) = false := by rw [eqB]; rfl
  have q33_61 : ((S [60, 61]).toList == ([33, 61] : List UInt8)) = false := by rw [eqB]; rfl
  have q60 : ((S [60, 61]).toList == ([60] : List UInt8)) = false := by rw [eqB]; rfl
  have q60_61 : ((S [60, 61]).toList == ([60, 61] : List UInt8)) = true := by rw [eqB]; rfl
  have q62 : ((S [60, 61]).toList == ([62] : List UInt8)) = false := by rw [eqB]; rfl
  have q62_61 : ((S [60, 61]).toList == ([62, 61] : List UInt8)) = false := by rw [eqB]; rfl
  go_enter Tryz.func143, Tryz.ntmps143
  go_wp2_with fail
  go_quiet (fail)
  go_wp2_with fail
  go_quiet (fail)
  go_wp2_with fail
  go_ret2
  exact ⟨rfl, Go.Joins.below_draws _ _ _⟩
set_option maxRecDepth 100000 in
set_option linter.unusedVariables false in
theorem rop_2_62 (b g cap a : Nat) (n o bad fault : Int) (ts : List TA) (w : World) (h : Rdg w b g cap ts.length a n o bad fault) (ht : TsAt w g ts) (ha : a < ts.length) (hn : ts.length ≤ 8001) (hk : (tk ts a).kind = 5) (hx : (tk ts a).text = [62]) :
    Calls Tryz.prog 143 #[.pointer (some ⟨b, 0, none⟩), .int .i64 2] w fun e w' => e = .returned (.tuple #[.int .i64 32, .bool true]) ∧ Below w.heap.size w w' := by
  obtain ⟨p0, p1, _, _⟩ := ht.tok ha
  have c0 := h.c0
  have c1 := h.c1
  have hai : (a : Int) < (ts.length : Int) := by omega
  have hni : (ts.length : Int) ≤ 8001 := by omega
  clear h ht ha hn
  rw [hk] at p0
  rw [hx] at p1
  clear hk hx
  have q61_61 : ((S [62]).toList == ([61, 61] : List UInt8)) = false := by rw [eqB]; rfl
  have q33_61 : ((S [62]).toList == ([33, 61] : List UInt8)) = false := by rw [eqB]; rfl
  have q60 : ((S [62]).toList == ([60] : List UInt8)) = false := by rw [eqB]; rfl
  have q60_61 : ((S [62]).toList == ([60, 61] : List UInt8)) = false := by rw [eqB]; rfl
  have q62 : ((S [62]).toList == ([62] : List UInt8)) = true := by rw [eqB]; rfl
  have q62_61 : ((S [62]).toList == ([62, 61] : List UInt8)) = false := by rw [eqB]; rfl
  go_enter Tryz.func143, Tryz.ntmps143
  go_wp2_with fail
  go_quiet (fail)
  go_wp2_with fail
  go_quiet (fail)
  go_wp2_with fail
  go_ret2
  exact ⟨rfl, Go.Joins.below_draws _ _ _⟩
set_option maxRecDepth 100000 in
set_option linter.unusedVariables false in
theorem rop_2_62_61 (b g cap a : Nat) (n o bad fault : Int) (ts : List TA) (w : World) (h : Rdg w b g cap ts.length a n o bad fault) (ht : TsAt w g ts) (ha : a < ts.length) (hn : ts.length ≤ 8001) (hk : (tk ts a).kind = 5) (hx : (tk ts a).text = [62, 61]) :
    Calls Tryz.prog 143 #[.pointer (some ⟨b, 0, none⟩), .int .i64 2] w fun e w' => e = .returned (.tuple #[.int .i64 33, .bool true]) ∧ Below w.heap.size w w' := by
  obtain ⟨p0, p1, _, _⟩ := ht.tok ha
  have c0 := h.c0
  have c1 := h.c1
  have hai : (a : Int) < (ts.length : Int) := by omega
  have hni : (ts.length : Int) ≤ 8001 := by omega
  clear h ht ha hn
  rw [hk] at p0
  rw [hx] at p1
  clear hk hx
  have q61_61 : ((S [62, 61]).toList == ([61, 61] : List UInt8)) = false := by rw [eqB]; rfl
  have q33_61 : ((S [62, 61]).toList == ([33, 61] : List UInt8)) = false := by rw [eqB]; rfl
  have q60 : ((S [62, 61]).toList == ([60] : List UInt8)) = false := by rw [eqB]; rfl
  have q60_61 : ((S [62, 61]).toList == ([60, 61] : List UInt8)) = false := by rw [eqB]; rfl
  have q62 : ((S [62, 61]).toList == ([62] : List UInt8)) = false := by rw [eqB]; rfl
  have q62_61 : ((S [62, 61]).toList == ([62, 61] : List UInt8)) = true := by rw [eqB]; rfl
  go_enter Tryz.func143, Tryz.ntmps143
  go_wp2_with fail
  go_quiet (fail)
  go_wp2_with fail
  go_quiet (fail)
  go_wp2_with fail
  go_ret2
  exact ⟨rfl, Go.Joins.below_draws _ _ _⟩
set_option maxRecDepth 100000 in
theorem rop_2_none (b g cap a : Nat) (n o bad fault : Int) (ts : List TA) (w : World) (h : Rdg w b g cap ts.length a n o bad fault) (ht : TsAt w g ts) (ha : a < ts.length) (hn : ts.length ≤ 8001) (hk : (tk ts a).kind = 5) (n61_61 : (tk ts a).text ≠ [61, 61]) (n33_61 : (tk ts a).text ≠ [33, 61]) (n60 : (tk ts a).text ≠ [60]) (n60_61 : (tk ts a).text ≠ [60, 61]) (n62 : (tk ts a).text ≠ [62]) (n62_61 : (tk ts a).text ≠ [62, 61]) :
    Calls Tryz.prog 143 #[.pointer (some ⟨b, 0, none⟩), .int .i64 2] w fun e w' => e = .returned (.tuple #[.int .i64 0, .bool false]) ∧ Below w.heap.size w w' := by
  obtain ⟨p0, p1, _, _⟩ := ht.tok ha
  have c0 := h.c0
  have c1 := h.c1
  have hai : (a : Int) < (ts.length : Int) := by omega
  have hni : (ts.length : Int) ≤ 8001 := by omega
  clear h ht ha hn
  generalize tk ts a = t at *
  obtain ⟨k, x, m, q⟩ := t
  simp only at p0 p1 hk n61_61 n33_61 n60 n60_61 n62 n62_61
  subst hk
  have q61_61 : ((S x).toList == ([61, 61] : List UInt8)) = false := by rw [eqB]; simpa using n61_61
  have q33_61 : ((S x).toList == ([33, 61] : List UInt8)) = false := by rw [eqB]; simpa using n33_61
  have q60 : ((S x).toList == ([60] : List UInt8)) = false := by rw [eqB]; simpa using n60
  have q60_61 : ((S x).toList == ([60, 61] : List UInt8)) = false := by rw [eqB]; simpa using n60_61
  have q62 : ((S x).toList == ([62] : List UInt8)) = false := by rw [eqB]; simpa using n62
  have q62_61 : ((S x).toList == ([62, 61] : List UInt8)) = false := by rw [eqB]; simpa using n62_61
  go_enter Tryz.func143, Tryz.ntmps143
  go_wp2_with fail
  go_quiet (fail)
  go_wp2_with fail
  go_quiet (fail)
  go_wp2_with fail
  go_ret2
  exact ⟨rfl, Go.Joins.below_draws _ _ _⟩
set_option maxRecDepth 100000 in
set_option linter.unusedVariables false in
theorem rop_3_43 (b g cap a : Nat) (n o bad fault : Int) (ts : List TA) (w : World) (h : Rdg w b g cap ts.length a n o bad fault) (ht : TsAt w g ts) (ha : a < ts.length) (hn : ts.length ≤ 8001) (hk : (tk ts a).kind = 5) (hx : (tk ts a).text = [43]) :
    Calls Tryz.prog 143 #[.pointer (some ⟨b, 0, none⟩), .int .i64 3] w fun e w' => e = .returned (.tuple #[.int .i64 23, .bool false]) ∧ Below w.heap.size w w' := by
  obtain ⟨p0, p1, _, _⟩ := ht.tok ha
  have c0 := h.c0
  have c1 := h.c1
  have hai : (a : Int) < (ts.length : Int) := by omega
  have hni : (ts.length : Int) ≤ 8001 := by omega
  clear h ht ha hn
  rw [hk] at p0
  rw [hx] at p1
  clear hk hx
  have q43 : ((S [43]).toList == ([43] : List UInt8)) = true := by rw [eqB]; rfl
  have q45 : ((S [43]).toList == ([45] : List UInt8)) = false := by rw [eqB]; rfl
  go_enter Tryz.func143, Tryz.ntmps143
  go_wp2_with fail
  go_quiet (fail)
  go_wp2_with fail
  go_quiet (fail)
  go_wp2_with fail
  go_ret2
  exact ⟨rfl, Go.Joins.below_draws _ _ _⟩
set_option maxRecDepth 100000 in
set_option linter.unusedVariables false in
theorem rop_3_45 (b g cap a : Nat) (n o bad fault : Int) (ts : List TA) (w : World) (h : Rdg w b g cap ts.length a n o bad fault) (ht : TsAt w g ts) (ha : a < ts.length) (hn : ts.length ≤ 8001) (hk : (tk ts a).kind = 5) (hx : (tk ts a).text = [45]) :
    Calls Tryz.prog 143 #[.pointer (some ⟨b, 0, none⟩), .int .i64 3] w fun e w' => e = .returned (.tuple #[.int .i64 24, .bool false]) ∧ Below w.heap.size w w' := by
  obtain ⟨p0, p1, _, _⟩ := ht.tok ha
  have c0 := h.c0
  have c1 := h.c1
  have hai : (a : Int) < (ts.length : Int) := by omega
  have hni : (ts.length : Int) ≤ 8001 := by omega
  clear h ht ha hn
  rw [hk] at p0
  rw [hx] at p1
  clear hk hx
  have q43 : ((S [45]).toList == ([43] : List UInt8)) = false := by rw [eqB]; rfl
  have q45 : ((S [45]).toList == ([45] : List UInt8)) = true := by rw [eqB]; rfl
  go_enter Tryz.func143, Tryz.ntmps143
  go_wp2_with fail
  go_quiet (fail)
  go_wp2_with fail
  go_quiet (fail)
  go_wp2_with fail
  go_ret2
  exact ⟨rfl, Go.Joins.below_draws _ _ _⟩
set_option maxRecDepth 100000 in
theorem rop_3_none (b g cap a : Nat) (n o bad fault : Int) (ts : List TA) (w : World) (h : Rdg w b g cap ts.length a n o bad fault) (ht : TsAt w g ts) (ha : a < ts.length) (hn : ts.length ≤ 8001) (hk : (tk ts a).kind = 5) (n43 : (tk ts a).text ≠ [43]) (n45 : (tk ts a).text ≠ [45]) :
    Calls Tryz.prog 143 #[.pointer (some ⟨b, 0, none⟩), .int .i64 3] w fun e w' => e = .returned (.tuple #[.int .i64 0, .bool false]) ∧ Below w.heap.size w w' := by
  obtain ⟨p0, p1, _, _⟩ := ht.tok ha
  have c0 := h.c0
  have c1 := h.c1
  have hai : (a : Int) < (ts.length : Int) := by omega
  have hni : (ts.length : Int) ≤ 8001 := by omega
  clear h ht ha hn
  generalize tk ts a = t at *
  obtain ⟨k, x, m, q⟩ := t
  simp only at p0 p1 hk n43 n45
  subst hk
  have q43 : ((S x).toList == ([43] : List UInt8)) = false := by rw [eqB]; simpa using n43
  have q45 : ((S x).toList == ([45] : List UInt8)) = false := by rw [eqB]; simpa using n45
  go_enter Tryz.func143, Tryz.ntmps143
  go_wp2_with fail
  go_quiet (fail)
  go_wp2_with fail
  go_quiet (fail)
  go_wp2_with fail
  go_ret2
  exact ⟨rfl, Go.Joins.below_draws _ _ _⟩
set_option maxRecDepth 100000 in
set_option linter.unusedVariables false in
theorem rop_4_42 (b g cap a : Nat) (n o bad fault : Int) (ts : List TA) (w : World) (h : Rdg w b g cap ts.length a n o bad fault) (ht : TsAt w g ts) (ha : a < ts.length) (hn : ts.length ≤ 8001) (hk : (tk ts a).kind = 5) (hx : (tk ts a).text = [42]) :
    Calls Tryz.prog 143 #[.pointer (some ⟨b, 0, none⟩), .int .i64 4] w fun e w' => e = .returned (.tuple #[.int .i64 20, .bool false]) ∧ Below w.heap.size w w' := by
  obtain ⟨p0, p1, _, _⟩ := ht.tok ha
  have c0 := h.c0
  have c1 := h.c1
  have hai : (a : Int) < (ts.length : Int) := by omega
  have hni : (ts.length : Int) ≤ 8001 := by omega
  clear h ht ha hn
  rw [hk] at p0
  rw [hx] at p1
  clear hk hx
  have q42 : ((S [42]).toList == ([42] : List UInt8)) = true := by rw [eqB]; rfl
  have q47 : ((S [42]).toList == ([47] : List UInt8)) = false := by rw [eqB]; rfl
  have q37 : ((S [42]).toList == ([37] : List UInt8)) = false := by rw [eqB]; rfl
  go_enter Tryz.func143, Tryz.ntmps143
  go_wp2_with fail
  go_quiet (fail)
  go_wp2_with fail
  go_quiet (fail)
  go_wp2_with fail
  go_ret2
  exact ⟨rfl, Go.Joins.below_draws _ _ _⟩
set_option maxRecDepth 100000 in
set_option linter.unusedVariables false in
theorem rop_4_47 (b g cap a : Nat) (n o bad fault : Int) (ts : List TA) (w : World) (h : Rdg w b g cap ts.length a n o bad fault) (ht : TsAt w g ts) (ha : a < ts.length) (hn : ts.length ≤ 8001) (hk : (tk ts a).kind = 5) (hx : (tk ts a).text = [47]) :
    Calls Tryz.prog 143 #[.pointer (some ⟨b, 0, none⟩), .int .i64 4] w fun e w' => e = .returned (.tuple #[.int .i64 21, .bool false]) ∧ Below w.heap.size w w' := by
  obtain ⟨p0, p1, _, _⟩ := ht.tok ha
  have c0 := h.c0
  have c1 := h.c1
  have hai : (a : Int) < (ts.length : Int) := by omega
  have hni : (ts.length : Int) ≤ 8001 := by omega
  clear h ht ha hn
  rw [hk] at p0
  rw [hx] at p1
  clear hk hx
  have q42 : ((S [47]).toList == ([42] : List UInt8)) = false := by rw [eqB]; rfl
  have q47 : ((S [47]).toList == ([47] : List UInt8)) = true := by rw [eqB]; rfl
  have q37 : ((S [47]).toList == ([37] : List UInt8)) = false := by rw [eqB]; rfl
  go_enter Tryz.func143, Tryz.ntmps143
  go_wp2_with fail
  go_quiet (fail)
  go_wp2_with fail
  go_quiet (fail)
  go_wp2_with fail
  go_ret2
  exact ⟨rfl, Go.Joins.below_draws _ _ _⟩
set_option maxRecDepth 100000 in
set_option linter.unusedVariables false in
theorem rop_4_37 (b g cap a : Nat) (n o bad fault : Int) (ts : List TA) (w : World) (h : Rdg w b g cap ts.length a n o bad fault) (ht : TsAt w g ts) (ha : a < ts.length) (hn : ts.length ≤ 8001) (hk : (tk ts a).kind = 5) (hx : (tk ts a).text = [37]) :
    Calls Tryz.prog 143 #[.pointer (some ⟨b, 0, none⟩), .int .i64 4] w fun e w' => e = .returned (.tuple #[.int .i64 22, .bool false]) ∧ Below w.heap.size w w' := by
  obtain ⟨p0, p1, _, _⟩ := ht.tok ha
  have c0 := h.c0
  have c1 := h.c1
  have hai : (a : Int) < (ts.length : Int) := by omega
  have hni : (ts.length : Int) ≤ 8001 := by omega
  clear h ht ha hn
  rw [hk] at p0
  rw [hx] at p1
  clear hk hx
  have q42 : ((S [37]).toList == ([42] : List UInt8)) = false := by rw [eqB]; rfl
  have q47 : ((S [37]).toList == ([47] : List UInt8)) = false := by rw [eqB]; rfl
  have q37 : ((S [37]).toList == ([37] : List UInt8)) = true := by rw [eqB]; rfl
  go_enter Tryz.func143, Tryz.ntmps143
  go_wp2_with fail
  go_quiet (fail)
  go_wp2_with fail
  go_quiet (fail)
  go_wp2_with fail
  go_ret2
  exact ⟨rfl, Go.Joins.below_draws _ _ _⟩
set_option maxRecDepth 100000 in
theorem rop_4_none (b g cap a : Nat) (n o bad fault : Int) (ts : List TA) (w : World) (h : Rdg w b g cap ts.length a n o bad fault) (ht : TsAt w g ts) (ha : a < ts.length) (hn : ts.length ≤ 8001) (hk : (tk ts a).kind = 5) (n42 : (tk ts a).text ≠ [42]) (n47 : (tk ts a).text ≠ [47]) (n37 : (tk ts a).text ≠ [37]) :
    Calls Tryz.prog 143 #[.pointer (some ⟨b, 0, none⟩), .int .i64 4] w fun e w' => e = .returned (.tuple #[.int .i64 0, .bool false]) ∧ Below w.heap.size w w' := by
  obtain ⟨p0, p1, _, _⟩ := ht.tok ha
  have c0 := h.c0
  have c1 := h.c1
  have hai : (a : Int) < (ts.length : Int) := by omega
  have hni : (ts.length : Int) ≤ 8001 := by omega
  clear h ht ha hn
  generalize tk ts a = t at *
  obtain ⟨k, x, m, q⟩ := t
  simp only at p0 p1 hk n42 n47 n37
  subst hk
  have q42 : ((S x).toList == ([42] : List UInt8)) = false := by rw [eqB]; simpa using n42
  have q47 : ((S x).toList == ([47] : List UInt8)) = false := by rw [eqB]; simpa using n47
  have q37 : ((S x).toList == ([37] : List UInt8)) = false := by rw [eqB]; simpa using n37
  go_enter Tryz.func143, Tryz.ntmps143
  go_wp2_with fail
  go_quiet (fail)
  go_wp2_with fail
  go_quiet (fail)
  go_wp2_with fail
  go_ret2
  exact ⟨rfl, Go.Joins.below_draws _ _ _⟩
theorem rop_any (b g cap a : Nat) (n o bad fault : Int) (ts : List TA) (w : World) (h : Rdg w b g cap ts.length a n o bad fault) (ht : TsAt w g ts) (ha : a < ts.length) (hn : ts.length ≤ 8001) (lv : Nat) (hl : lv ≤ 4) :
    Calls Tryz.prog 143 #[.pointer (some ⟨b, 0, none⟩), .int .i64 lv] w fun e w' => e = .returned (opC (opAt lv (tk ts a))) ∧ Below w.heap.size w w' := by
  by_cases hk : (tk ts a).kind = 5
  · unfold opAt
    rw [if_pos hk]
    obtain rfl | rfl | rfl | rfl | rfl : lv = 0 ∨ lv = 1 ∨ lv = 2 ∨ lv = 3 ∨ lv = 4 := by omega
    · unfold opOf
      by_cases n124_124 : (tk ts a).text = [124, 124]
      · simp only [n124_124]
        exact rop_0_124_124 b g cap a n o bad fault ts w h ht ha hn hk n124_124
      simp only [n124_124, if_false]
      exact rop_0_none b g cap a n o bad fault ts w h ht ha hn hk n124_124
    · unfold opOf
      by_cases n38_38 : (tk ts a).text = [38, 38]
      · simp only [n38_38]
        exact rop_1_38_38 b g cap a n o bad fault ts w h ht ha hn hk n38_38
      simp only [n38_38, if_false]
      exact rop_1_none b g cap a n o bad fault ts w h ht ha hn hk n38_38
    · unfold opOf
      by_cases n61_61 : (tk ts a).text = [61, 61]
      · simp only [n61_61]
        exact rop_2_61_61 b g cap a n o bad fault ts w h ht ha hn hk n61_61
      by_cases n33_61 : (tk ts a).text = [33, 61]
      · simp only [n33_61]
        exact rop_2_33_61 b g cap a n o bad fault ts w h ht ha hn hk n33_61
      by_cases n60 : (tk ts a).text = [60]
      · simp only [n60]
        exact rop_2_60 b g cap a n o bad fault ts w h ht ha hn hk n60
      by_cases n60_61 : (tk ts a).text = [60, 61]
      · simp only [n60_61]
        exact rop_2_60_61 b g cap a n o bad fault ts w h ht ha hn hk n60_61
      by_cases n62 : (tk ts a).text = [62]
      · simp only [n62]
        exact rop_2_62 b g cap a n o bad fault ts w h ht ha hn hk n62
      by_cases n62_61 : (tk ts a).text = [62, 61]
      · simp only [n62_61]
        exact rop_2_62_61 b g cap a n o bad fault ts w h ht ha hn hk n62_61
      simp only [n61_61, n33_61, n60, n60_61, n62, n62_61, if_false]
      exact rop_2_none b g cap a n o bad fault ts w h ht ha hn hk n61_61 n33_61 n60 n60_61 n62 n62_61
    · unfold opOf
      by_cases n43 : (tk ts a).text = [43]
      · simp only [n43]
        exact rop_3_43 b g cap a n o bad fault ts w h ht ha hn hk n43
      by_cases n45 : (tk ts a).text = [45]
      · simp only [n45]
        exact rop_3_45 b g cap a n o bad fault ts w h ht ha hn hk n45
      simp only [n43, n45, if_false]
      exact rop_3_none b g cap a n o bad fault ts w h ht ha hn hk n43 n45
    · unfold opOf
      by_cases n42 : (tk ts a).text = [42]
      · simp only [n42]
        exact rop_4_42 b g cap a n o bad fault ts w h ht ha hn hk n42
      by_cases n47 : (tk ts a).text = [47]
      · simp only [n47]
        exact rop_4_47 b g cap a n o bad fault ts w h ht ha hn hk n47
      by_cases n37 : (tk ts a).text = [37]
      · simp only [n37]
        exact rop_4_37 b g cap a n o bad fault ts w h ht ha hn hk n37
      simp only [n42, n47, n37, if_false]
      exact rop_4_none b g cap a n o bad fault ts w h ht ha hn hk n42 n47 n37
  · unfold opAt
    rw [if_neg hk]
    exact rop_kind b g cap a n o bad fault ts w h ht ha hn lv hk
set_option maxRecDepth 100000 in
set_option maxHeartbeats 1000000 in
theorem rbegins_any (b g cap a : Nat) (n o bad fault : Int) (ts : List TA) (w : World) (h : Rdg w b g cap ts.length a n o bad fault) (ht : TsAt w g ts) (ha : a < ts.length) (hn : ts.length ≤ 8001) :
    Calls Tryz.prog 214 #[.pointer (some ⟨b, 0, none⟩)] w fun e w' => e = .returned (.bool (begins ts a)) ∧ Below w.heap.size w w' := by
  have H1 := Lib.hid (fun (w1 : World) (b1 : Below w.heap.size w w1) => show Calls Tryz.prog 174 #[.pointer (some ⟨b, 0, none⟩), .string ⟨#[40]⟩] w1 fun e w' => e = .returned (.bool (isS ts a [40])) ∧ Below w.heap.size w1 w' from (ris_any b g cap a n o bad fault ts ⟨#[40]⟩ w1 (h.below b1) (ht.below b1) ha hn).mono fun e w' hh => ⟨hh.1, hh.2.mono b1.size⟩)
  have H2 := Lib.hid (fun (w1 : World) (b1 : Below w.heap.size w w1) => show Calls Tryz.prog 174 #[.pointer (some ⟨b, 0, none⟩), .string ⟨#[91]⟩] w1 fun e w' => e = .returned (.bool (isS ts a [91])) ∧ Below w.heap.size w1 w' from (ris_any b g cap a n o bad fault ts ⟨#[91]⟩ w1 (h.below b1) (ht.below b1) ha hn).mono fun e w' hh => ⟨hh.1, hh.2.mono b1.size⟩)
  have H3 := Lib.hid (fun (w1 : World) (b1 : Below w.heap.size w w1) => show Calls Tryz.prog 174 #[.pointer (some ⟨b, 0, none⟩), .string ⟨#[33]⟩] w1 fun e w' => e = .returned (.bool (isS ts a [33])) ∧ Below w.heap.size w1 w' from (ris_any b g cap a n o bad fault ts ⟨#[33]⟩ w1 (h.below b1) (ht.below b1) ha hn).mono fun e w' hh => ⟨hh.1, hh.2.mono b1.size⟩)
  have H4 := Lib.hid (fun (w1 : World) (b1 : Below w.heap.size w w1) => show Calls Tryz.prog 174 #[.pointer (some ⟨b, 0, none⟩), .string ⟨#[45]⟩] w1 fun e w' => e = .returned (.bool (isS ts a [45])) ∧ Below w.heap.size w1 w' from (ris_any b g cap a n o bad fault ts ⟨#[45]⟩ w1 (h.below b1) (ht.below b1) ha hn).mono fun e w' hh => ⟨hh.1, hh.2.mono b1.size⟩)
  obtain ⟨p0, p1, _, _⟩ := ht.tok ha
  have e0 := h.c0
  have e1 := h.c1
  have hai : (a : Int) < (ts.length : Int) := by omega
  have hni : (ts.length : Int) ≤ 8001 := by omega
  clear h ht ha hn
  unfold begins
  generalize isS ts a [40] = c1 at *
  generalize isS ts a [91] = c2 at *
  generalize isS ts a [33] = c3 at *
  generalize isS ts a [45] = c4 at *
  generalize tk ts a = t at *
  obtain ⟨k, x, m, q⟩ := t
  simp only at p0 p1
  by_cases hk : 1 ≤ k ∧ k ≤ 4
  · obtain ⟨k1, k2⟩ := hk
    rw [decide_eq_true (show 1 ≤ k ∧ k ≤ 4 from ⟨k1, k2⟩)]
    simp only [Bool.true_or]
    go_enter Tryz.func214, Tryz.ntmps214
    go_wp2_with fail
    go_quiet (fail)
    go_wp2_with fail
    go_ret
    first | exact ⟨rfl, Go.Joins.below_draws _ _ _⟩ | exact ⟨by simp, Go.Joins.below_draws _ _ _⟩
  · rw [decide_eq_false hk]
    simp only [Bool.false_or]
    by_cases k1 : 1 ≤ k
    · have k2 : ¬ k ≤ 4 := fun h => hk ⟨k1, h⟩
      go_enter Tryz.func214, Tryz.ntmps214
      go_wp2_with fail
      go_quiet (fail)
      go_wp2_with fail
      refine (H1.out _ (Go.Joins.below_draws _ _ _)).mono ?_
      rintro e w1 ⟨rfl, b1⟩
      have B1 := Lib.hid (((Go.Joins.below_draws _ _ _) : Below w.heap.size w _).trans b1)
      clear b1
      cases c1 with
      | true =>
        go_wp2_with fail
        go_ret
        exact ⟨rfl, B1.out⟩
      | false =>
        go_wp2_with fail
        refine (H2.out _ B1.out).mono ?_
        rintro e w2 ⟨rfl, b2⟩
        have B2 := Lib.hid ((B1.out : Below w.heap.size w _).trans b2)
        clear b2
        cases c2 with
        | true =>
          go_wp2_with fail
          go_ret
          exact ⟨rfl, B2.out⟩
        | false =>
          go_wp2_with fail
          refine (H3.out _ B2.out).mono ?_
          rintro e w3 ⟨rfl, b3⟩
          have B3 := Lib.hid ((B2.out : Below w.heap.size w _).trans b3)
          clear b3
          cases c3 with
          | true =>
            go_wp2_with fail
            go_ret
            exact ⟨rfl, B3.out⟩
          | false =>
            go_wp2_with fail
            refine (H4.out _ B3.out).mono ?_
            rintro e w4 ⟨rfl, b4⟩
            have B4 := Lib.hid ((B3.out : Below w.heap.size w _).trans b4)
            clear b4
            cases c4 with
            | true =>
              go_wp2_with fail
              go_ret
              exact ⟨rfl, B4.out⟩
            | false =>
              go_wp2_with fail
              go_ret
              first | exact ⟨rfl, B4.out⟩ | exact ⟨by simp [k2], B4.out⟩ | exact ⟨by simp [k1], B4.out⟩
    · go_enter Tryz.func214, Tryz.ntmps214
      go_wp2_with fail
      go_quiet (fail)
      go_wp2_with fail
      refine (H1.out _ (Go.Joins.below_draws _ _ _)).mono ?_
      rintro e w1 ⟨rfl, b1⟩
      have B1 := Lib.hid (((Go.Joins.below_draws _ _ _) : Below w.heap.size w _).trans b1)
      clear b1
      cases c1 with
      | true =>
        go_wp2_with fail
        go_ret
        exact ⟨rfl, B1.out⟩
      | false =>
        go_wp2_with fail
        refine (H2.out _ B1.out).mono ?_
        rintro e w2 ⟨rfl, b2⟩
        have B2 := Lib.hid ((B1.out : Below w.heap.size w _).trans b2)
        clear b2
        cases c2 with
        | true =>
          go_wp2_with fail
          go_ret
          exact ⟨rfl, B2.out⟩
        | false =>
          go_wp2_with fail
          refine (H3.out _ B2.out).mono ?_
          rintro e w3 ⟨rfl, b3⟩
          have B3 := Lib.hid ((B2.out : Below w.heap.size w _).trans b3)
          clear b3
          cases c3 with
          | true =>
            go_wp2_with fail
            go_ret
            exact ⟨rfl, B3.out⟩
          | false =>
            go_wp2_with fail
            refine (H4.out _ B3.out).mono ?_
            rintro e w4 ⟨rfl, b4⟩
            have B4 := Lib.hid ((B3.out : Below w.heap.size w _).trans b4)
            clear b4
            cases c4 with
            | true =>
              go_wp2_with fail
              go_ret
              exact ⟨rfl, B4.out⟩
            | false =>
              go_wp2_with fail
              go_ret
              first | exact ⟨rfl, B4.out⟩ | exact ⟨by simp [k2], B4.out⟩ | exact ⟨by simp [k1], B4.out⟩
end Go.Proofs.YtabbdkdpmpjchaaGreatDoor.Ex

namespace Go.Proofs.YtabbdkdpmpjchaaGreatDoor.Ex
open Go.RowKit
open Lx
def Bx (w : World) (H : Nat) (a b c d : Value) : Prop := w.heap[H]? = some (.cells #[a, b, c, d] 24 (0, 0))
section
variable {w w' : World} {H : Nat} {a b c d : Value}
theorem Bx.c0 (h : Bx w H a b c d) : w.cell? ⟨H, 0, none⟩ = some a := cell_of_row w H 0 _ _ (0, 0) h
theorem Bx.c1 (h : Bx w H a b c d) : w.cell? ⟨H, 1, none⟩ = some b := cell_of_row w H 1 _ _ (0, 0) h
theorem Bx.c2 (h : Bx w H a b c d) : w.cell? ⟨H, 2, none⟩ = some c := cell_of_row w H 2 _ _ (0, 0) h
theorem Bx.c3 (h : Bx w H a b c d) : w.cell? ⟨H, 3, none⟩ = some d := cell_of_row w H 3 _ _ (0, 0) h
theorem Bx.fz (h : Bx w H a b c d) (j : Nat) : w.frozen? ⟨H, j, none⟩ = false := frozen_of_row w H j _ _ h
theorem Bx.lt (h : Bx w H a b c d) : H < w.heap.size := World.block_lt_of_cell? w _ h.c0
theorem Bx.keep {ok : Nat → Prop} (h : Bx w H a b c d) (k : Kept ok w w') (hH : ok H) : Bx w' H a b c d := (k.block H hH h.lt).trans h
theorem Bx.set3 (h : Bx w H a b c d) (d' : Value) : Bx (w.setCell ⟨H, 3, none⟩ d') H a b c d' := heap_setCell_same w H 3 _ _ _ h
end
def put4 (w : World) (H : Nat) (a b c d : Value) : World := (((w.setCell ⟨H, 0, none⟩ a).setCell ⟨H, 1, none⟩ b).setCell ⟨H, 2, none⟩ c).setCell ⟨H, 3, none⟩ d
theorem set_size (w : World) (p : Addr) (v : Value) : (w.setCell p v).heap.size = w.heap.size := by simp
theorem put4_size (w : World) (H : Nat) (a b c d : Value) : (put4 w H a b c d).heap.size = w.heap.size := by simp [put4]
theorem Bx.put {w : World} {H : Nat} {a b c d : Value} (h : Bx w H a b c d) (a' b' c' d' : Value) : Bx (put4 w H a' b' c' d') H a' b' c' d' :=
  heap_setCell_same _ H 3 _ _ _ (heap_setCell_same _ H 2 _ _ _ (heap_setCell_same _ H 1 _ _ _ (heap_setCell_same w H 0 _ _ _ h)))
theorem Kept.set {ok : Nat → Prop} (w : World) (H j : Nat) (v : Value) (h : ¬ ok H) : Kept ok w (w.setCell ⟨H, j, none⟩ v) :=
  ⟨by simp, fun g hg _ => heap_setCell_other w ⟨H, j, none⟩ g v (fun e => h (by simp at e; rw [← e]; exact hg))⟩
theorem Kept.put {ok : Nat → Prop} (w : World) (H : Nat) (a b c d : Value) (h : ¬ ok H) : Kept ok w (put4 w H a b c d) :=
  (((Kept.set w H 0 a h).trans (Kept.set _ H 1 b h)).trans (Kept.set _ H 2 c h)).trans (Kept.set _ H 3 d h)
theorem Only.box {b : Nat} {w w' : World} (h : Only b w w') (H j : Nat) (hH : w.heap.size ≤ H) (v : Value) : Only b w (w'.setCell ⟨H, j, none⟩ v) :=
  ⟨h.os, h.tape, h.output, by simp; exact h.size, fun i hi hn => (heap_setCell_other w' ⟨H, j, none⟩ i v (fun e => by simp at e; omega)).trans (h.block i hi hn)⟩
theorem Only.put {b : Nat} {w w' : World} (h : Only b w w') (H : Nat) (hH : w.heap.size ≤ H) (x y z u : Value) : Only b w (put4 w' H x y z u) :=
  (((h.box H 0 hH x).box H 1 hH y).box H 2 hH z).box H 3 hH u
theorem Only.alloc {b : Nat} {w w' : World} (h : Only b w w') (o : Obj) : Only b w (w'.alloc o) := h.trans (Only.of_below ((Below.refl _ _).alloc (Nat.le_refl _) o))
theorem Bx.new (W : World) (a b c d : Value) : Bx (W.alloc (.cells #[a, b, c, d] 24)) W.heap.size a b c d := heap_alloc_new W _
theorem Kept.alloc {ok : Nat → Prop} (W : World) (o : Obj) : Kept ok W (W.alloc o) := Kept.of_below ((Below.refl _ _).alloc (Nat.le_refl _) o)
theorem Only.keptB {b : Nat} {w w' : World} (h : Only b w w') {ok : Nat → Prop} (hb : ¬ ok b) : Kept ok w w' := h.kept.mono fun _ hg e => hb (e ▸ hg)
def Post (b g cap : Nat) (ts : List TA) (lo : Nat) (r : R) (o n : Int) (t : List UInt8) (q : Option Addr) (k : Nat) (w' : World) : Prop := match r with
  | .ok x s => x.op = o ∧ x.num = n ∧ x.text = t ∧ x.args.len = k ∧ FAt w' (lo ≤ ·) x.args q ∧ Rdg w' b g cap ts.length s.at_ s.n s.open_ 0 0
  | .bad er a => er ≠ 0 ∧ ∃ a' n' o', Rdg w' b g cap ts.length a' n' o' (er : Int) (a : Int)
theorem Post.keep {b g cap : Nat} {ts : List TA} {lo : Nat} {r : R} {o n : Int} {t : List UInt8} {q : Option Addr} {k : Nat} {w w' : World} (h : Post b g cap ts lo r o n t q k w) (kp : Kept (fun g => g = b ∨ lo ≤ g) w w') : Post b g cap ts lo r o n t q k w' := by
  cases r with
  | ok x s => exact ⟨h.1, h.2.1, h.2.2.1, h.2.2.2.1, h.2.2.2.2.1.keep (kp.mono fun g hg => .inr hg), h.2.2.2.2.2.keep kp (.inl rfl)⟩
  | bad e a =>
    obtain ⟨he, a', n', o', hr⟩ := h
    exact ⟨he, a', n', o', hr.keep kp (.inl rfl)⟩
theorem Post.low {b g cap : Nat} {ts : List TA} {lo lo' : Nat} {r : R} {o n : Int} {t : List UInt8} {q : Option Addr} {k : Nat} {w : World} (h : Post b g cap ts lo r o n t q k w) (hl : lo' ≤ lo) : Post b g cap ts lo' r o n t q k w := by
  cases r with
  | ok x s => exact ⟨h.1, h.2.1, h.2.2.1, h.2.2.2.1, FAt.mono (fun g _ hg => Nat.le_trans hl hg) _ _ h.2.2.2.2.1, h.2.2.2.2.2⟩
  | bad e a => exact h
def ResA (b g cap : Nat) (ts : List TA) (w : World) (r : R) (e : Ending) (w' : World) : Prop :=
  Only b w w' ∧ ∃ o n t q k c, e = .returned (.agg #[.int .i64 o, .int .i64 n, .string (S t), .slice q k c]) ∧ Post b g cap ts w.heap.size r o n t q k w'
end Go.Proofs.YtabbdkdpmpjchaaGreatDoor.Ex

namespace Go.Proofs.YtabbdkdpmpjchaaGreatDoor.Ty
open Go.RowKit
open Ex Lx
instance : Inhabited AttrP := ⟨⟨[], 0, []⟩⟩
instance : Inhabited EnumP := ⟨⟨[], []⟩⟩
instance : Inhabited TT := ⟨TT.zero⟩
def StrsAt (w : World) (p : Option Addr) (l : List (List UInt8)) : Prop :=
  ∀ i, (h : i < l.length) → ∃ b o, p = some ⟨b, o, none⟩ ∧ b < w.heap.size ∧ w.cell? ⟨b, o + i, none⟩ = some (.string (S l[i]))
def AttrsAt (w : World) (p : Option Addr) (l : List AttrP) : Prop :=
  ∀ i, (h : i < l.length) → ∃ b o, p = some ⟨b, o, none⟩ ∧ b < w.heap.size ∧ w.cell? ⟨b, o + i * 3, none⟩ = some (.string (S l[i].name)) ∧ w.cell? ⟨b, o + i * 3 + 1, none⟩ = some (.int .i64 l[i].kind) ∧ w.cell? ⟨b, o + i * 3 + 2, none⟩ = some (.string (S l[i].enum))
def EnumsAt (w : World) (p : Option Addr) (l : List EnumP) : Prop :=
  ∀ i, (h : i < l.length) → ∃ b o q c, p = some ⟨b, o, none⟩ ∧ b < w.heap.size ∧ w.cell? ⟨b, o + i * 2, none⟩ = some (.string (S l[i].name)) ∧ w.cell? ⟨b, o + i * 2 + 1, none⟩ = some (.slice q l[i].syms.length c) ∧ StrsAt w q l[i].syms
def TTsAt (w : World) (p : Option Addr) (l : List TT) : Prop :=
  ∀ i, (h : i < l.length) → ∃ b o, p = some ⟨b, o, none⟩ ∧ b < w.heap.size ∧ w.cell? ⟨b, o + i * 3, none⟩ = some (.int .i64 l[i].kind) ∧ w.cell? ⟨b, o + i * 3 + 1, none⟩ = some (.string (S l[i].enum)) ∧ w.cell? ⟨b, o + i * 3 + 2, none⟩ = some (.string (S l[i].lit))
section
variable {w w' : World} (k : Below w.heap.size w w')
include k
theorem StrsAt.later {p : Option Addr} {l : List (List UInt8)} (h : StrsAt w p l) : StrsAt w' p l := fun i hi => by
  obtain ⟨b, o, e, hb, h0⟩ := h i hi
  exact ⟨b, o, e, Nat.lt_of_lt_of_le hb k.size, (k.cell (p := ⟨b, _, none⟩) hb).trans h0⟩
theorem AttrsAt.later {p : Option Addr} {l : List AttrP} (h : AttrsAt w p l) : AttrsAt w' p l := fun i hi => by
  obtain ⟨b, o, e, hb, h0, h1, h2⟩ := h i hi
  exact ⟨b, o, e, Nat.lt_of_lt_of_le hb k.size, (k.cell (p := ⟨b, _, none⟩) hb).trans h0, (k.cell (p := ⟨b, _, none⟩) hb).trans h1, (k.cell (p := ⟨b, _, none⟩) hb).trans h2⟩
theorem EnumsAt.later {p : Option Addr} {l : List EnumP} (h : EnumsAt w p l) : EnumsAt w' p l := fun i hi => by
  obtain ⟨b, o, q, c, e, hb, h0, h1, h2⟩ := h i hi
  exact ⟨b, o, q, c, e, Nat.lt_of_lt_of_le hb k.size, (k.cell (p := ⟨b, _, none⟩) hb).trans h0, (k.cell (p := ⟨b, _, none⟩) hb).trans h1, h2.later k⟩
theorem TTsAt.later {p : Option Addr} {l : List TT} (h : TTsAt w p l) : TTsAt w' p l := fun i hi => by
  obtain ⟨b, o, e, hb, h0, h1, h2⟩ := h i hi
  exact ⟨b, o, e, Nat.lt_of_lt_of_le hb k.size, (k.cell (p := ⟨b, _, none⟩) hb).trans h0, (k.cell (p := ⟨b, _, none⟩) hb).trans h1, (k.cell (p := ⟨b, _, none⟩) hb).trans h2⟩
end
structure ScAt (w : World) (pe pa pf : Option Addr) (s : Sc) : Prop where
  enums : EnumsAt w pe s.enums
  attrs : AttrsAt w pa s.attrs
  fields : AttrsAt w pf s.fields
theorem ScAt.later {w w' : World} (k : Below w.heap.size w w') {pe pa pf : Option Addr} {s : Sc} (h : ScAt w pe pa pf s) : ScAt w' pe pa pf s := ⟨h.enums.later k, h.attrs.later k, h.fields.later k⟩
structure ScFit (s : Sc) : Prop where
  enums : s.enums.length ≤ 281474976710656
  attrs : s.attrs.length ≤ 281474976710656
  fields : s.fields.length ≤ 281474976710656
  syms : ∀ e ∈ s.enums, e.syms.length ≤ 281474976710656
  ae : ∀ a ∈ s.attrs, a.enum.length ≤ 281474976710656
  fe : ∀ a ∈ s.fields, a.enum.length ≤ 281474976710656
theorem S_beq (a b : List UInt8) : ((S a).toList == (S b).toList) = (a == b) := by rw [ByteArray.toList_eq, ByteArray.toList_eq, S_toList, S_toList]
def fstIdx {α : Type} (p : α → Bool) : List α → Int
  | [] => -1
  | x :: r => if p x then 0 else if fstIdx p r < 0 then -1 else fstIdx p r + 1
theorem fst_miss {α : Type} (p : α → Bool) : ∀ l : List α, (∀ j, (h : j < l.length) → p l[j] = false) → fstIdx p l = -1
  | [], _ => rfl
  | x :: r, h => by
    have h0 := h 0 (by simp)
    have hr := fst_miss p r (fun j hj => by have := h (j + 1) (by simp; omega); simpa using this)
    simp only [List.getElem_cons_zero] at h0
    show (if p x then 0 else if fstIdx p r < 0 then -1 else fstIdx p r + 1) = _
    rw [h0, hr]; rfl
theorem fst_hit {α : Type} (p : α → Bool) : ∀ (l : List α) (k : Nat) (hk : k < l.length), (∀ j, (h : j < k) → p (l[j]'(by omega)) = false) → p l[k] = true → fstIdx p l = k
  | x :: r, 0, _, _, hp => by
    simp only [List.getElem_cons_zero] at hp
    show (if p x then 0 else _) = _
    rw [hp]; rfl
  | x :: r, k + 1, hk, hm, hp => by
    have h0 := hm 0 (by omega)
    simp only [List.getElem_cons_zero] at h0
    have hr := fst_hit p r k (by simp at hk; omega) (fun j hj => by have := hm (j + 1) (by omega); simpa using this) (by simpa using hp)
    show (if p x then 0 else if fstIdx p r < 0 then -1 else fstIdx p r + 1) = _
    rw [h0, hr]
    simp only [Bool.false_eq_true, if_false]
    rw [if_neg (by omega)]; omega
end Go.Proofs.YtabbdkdpmpjchaaGreatDoor.Ty
