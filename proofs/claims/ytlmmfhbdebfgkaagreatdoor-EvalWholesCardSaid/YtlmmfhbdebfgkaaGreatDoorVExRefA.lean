/-
  ExRefA.
-/
import Derived.Test.YtlmmfhbdebfgkaaGreatDoorVExMemQ
import Derived.Lib.Hide
import Derived.Deep.QuietTactic
import Derived.BigQuiet
import Derived.Lib.SmallJoins
set_option linter.unusedVariables false
set_option linter.unusedSimpArgs false
set_option maxRecDepth 100000
set_option maxHeartbeats 1000000
namespace Go.Proofs.YtlmmfhbdebfgkaaGreatDoor.Ex
open Go.RowKit
open Lx
theorem ris_any (b g cap a : Nat) (n o bad fault : Int) (ts : List TA) (s : ByteArray) (w : World) (h : Rdg w b g cap ts.length a n o bad fault) (ht : TsAt w g ts) (ha : a < ts.length) (hn : ts.length ≤ 8001) :
    Calls Tryz.prog 171 #[.pointer (some ⟨b, 0, none⟩), .string s] w fun e w' => e = .returned (.bool (isS ts a s.data.toList)) ∧ Below w.heap.size w w' := by
  obtain ⟨p0, p1, _, _⟩ := ht.tok ha
  have c0 := h.c0
  have c1 := h.c1
  have hai : (a : Int) < (ts.length : Int) := by omega
  have hni : (ts.length : Int) ≤ 8001 := by omega
  unfold isS
  clear h ht
  generalize tk ts a = t at *
  obtain ⟨k, x, m, q⟩ := t
  simp only at p0 p1 ⊢
  have e1 : ((S x).toList == s.toList) = (x == s.data.toList) := by rw [ByteArray.toList_eq, ByteArray.toList_eq, S_toList]
  by_cases hk : k = 5
  · subst hk
    cases hx : (x == s.data.toList) with
    | true =>
      rw [hx] at e1
      clear hx
      go_enter Tryz.func171, Tryz.ntmps171
      go_wp2_with fail
      go_quiet (fail)
      go_wp2_with fail
      go_ret
      exact ⟨rfl, Go.Joins.below_draws _ _ _⟩
    | false =>
      rw [hx] at e1
      clear hx
      go_enter Tryz.func171, Tryz.ntmps171
      go_wp2_with fail
      go_quiet (fail)
      go_wp2_with fail
      go_ret
      exact ⟨rfl, Go.Joins.below_draws _ _ _⟩
  · have hk2 : (k == 5) = false := by simpa using hk
    rw [hk2, Bool.false_and]
    go_enter Tryz.func171, Tryz.ntmps171
    go_wp2_with fail
    go_quiet (fail)
    go_wp2_with fail
    go_ret
    exact ⟨rfl, Go.Joins.below_draws _ _ _⟩
def noX : Value := .agg #[.int .i64 0, .int .i64 0, .string ⟨#[]⟩, .slice none 0 0]
theorem new_box (W : World) (cs : Array Value) (t : TypeId) (k : Nat) (h : W.heap.size = k) : (W.alloc (.cells cs t)).heap[k]? = some (.cells cs t (0, 0)) := by
  subst h; exact heap_alloc_new W _
theorem res_expr {fn : Func} {p : Tmp} (h : fn.results = #[.cell p 24]) (tmps : Array Value) (w : World) (g : Nat) (a b c d : Value)
    (hp : tmps.getD p undef = .pointer (some ⟨g, 0, none⟩)) (hg : w.heap[g]? = some (.cells #[a, b, c, d] 24 (0, 0))) : (results fn tmps).run Tryz.prog w = .ok (.agg #[a, b, c, d]) w :=
  results_cell_row h tmps w g _ _ _ _ hp hg Tryz.underlying24 rfl (by kernel_rfl)
theorem rfail_any (b g cap len : Nat) (a n o fault : Int) (er : Int) (w : World) (h : Rdg w b g cap len a n o 0 fault) :
    Calls Tryz.prog 174 #[.pointer (some ⟨b, 0, none⟩), .int .i64 er] w fun e w' => e = .returned noX ∧ Rdg w' b g cap len a n o er a ∧ Only b w w' := by
  have c1 := h.c1
  have c4 := h.c4
  have c5 := h.c5
  have hz := h.fz
  have hlt := h.lt
  have hne : ¬ b = w.heap.size := by omega
  have zc : ∀ o j, (w.alloc o).cell? ⟨b, j, none⟩ = w.cell? ⟨b, j, none⟩ := fun o j => Kept.cell (Kept.of_below (ok := fun _ => True) ((Below.refl _ _).alloc (Nat.le_refl _) o)) trivial hlt
  have zf : ∀ o j, (w.alloc o).frozen? ⟨b, j, none⟩ = false := fun o j => (h.below ((Below.refl _ _).alloc (Nat.le_refl _) o)).fz j
  have H := Lib.hid h
  clear h
  have R1 := Lib.hid ((H.out.set4 er).set5 a)
  have O1 := Lib.hid ((Only.set b w 4 (.int .i64 er)).set' 5 (.int .i64 a))
  go_enter Tryz.func174, Tryz.ntmps174
  go_wp2_with fail
  refine bodyPost_ret (res_expr rfl _ _ w.heap.size _ _ _ _ rfl (new_box _ _ _ _ (by simp))) rfl ?_
  exact ⟨rfl, R1.out.below ((Below.refl _ _).alloc (Nat.le_refl _) _), O1.out.trans (Only.of_below ((Below.refl _ _).alloc (Nat.le_refl _) _))⟩
theorem rfail_more (b g cap len : Nat) (a n o bad fault : Int) (hb : bad ≠ 0) (er : Int) (w : World) (h : Rdg w b g cap len a n o bad fault) :
    Calls Tryz.prog 174 #[.pointer (some ⟨b, 0, none⟩), .int .i64 er] w fun e w' => e = .returned noX ∧ Below w.heap.size w w' := by
  have c4 := h.c4
  have hb2 : (bad == 0) = false := by simpa using hb
  have hlt := h.lt
  have zc : ∀ o j, (w.alloc o).cell? ⟨b, j, none⟩ = w.cell? ⟨b, j, none⟩ := fun o j => Kept.cell (Kept.of_below (ok := fun _ => True) ((Below.refl _ _).alloc (Nat.le_refl _) o)) trivial hlt
  clear h
  go_enter Tryz.func174, Tryz.ntmps174
  go_wp2_with fail
  refine bodyPost_ret (res_expr rfl _ _ w.heap.size _ _ _ _ rfl (new_box _ _ _ _ rfl)) rfl ?_
  exact ⟨rfl, (Below.refl _ _).alloc (Nat.le_refl _) _⟩
theorem rtake_ok (b g cap a : Nat) (n o fault : Int) (ts : List TA) (s : ByteArray) (w : World) (h : Rdg w b g cap ts.length a n o 0 fault) (ht : TsAt w g ts) (ha : a < ts.length) (hn : ts.length ≤ 8001) (hs : isS ts a s.data.toList = true) :
    Calls Tryz.prog 210 #[.pointer (some ⟨b, 0, none⟩), .string s] w fun e w' => e = .returned (.tuple #[]) ∧ Rdg w' b g cap ts.length (a + 1 : Nat) n o 0 fault ∧ Only b w w' := by
  have HIS := Lib.hid (ris_any b g cap a n o 0 fault ts s w h ht ha hn)
  rw [hs] at HIS
  have c4 := h.c4
  have HWR := Lib.hid (show (a : Int) + 1 = ((a + 1 : Nat) : Int) by omega)
  have hai : (a : Int) ≤ 8001 := by omega
  have H := Lib.hid h
  clear h ht hs ha hn
  go_enter Tryz.func210, Tryz.ntmps210
  go_wp2_with fail
  refine HIS.out.mono ?_
  rintro e w1 ⟨rfl, b1⟩
  have h1 := H.out.below b1
  have d1 := h1.c1
  have hz := h1.fz
  have R1 := Lib.hid (h1.set1 ((a + 1 : Nat) : Int))
  have O1 := Lib.hid ((Only.of_below b1).set' (b := b) 1 (.int .i64 ((a + 1 : Nat) : Int)))
  clear h1 b1
  go_wp2_with fail
  first | go_end0 | refine bodyPost_ret (results_none rfl _ _ _) rfl ?_
  rw [HWR.out]
  exact ⟨rfl, R1.out, O1.out⟩
theorem rtake_no (b g cap a : Nat) (n o fault : Int) (ts : List TA) (s : ByteArray) (w : World) (h : Rdg w b g cap ts.length a n o 0 fault) (ht : TsAt w g ts) (ha : a < ts.length) (hn : ts.length ≤ 8001) (hs : isS ts a s.data.toList = false) :
    Calls Tryz.prog 210 #[.pointer (some ⟨b, 0, none⟩), .string s] w fun e w' => e = .returned (.tuple #[]) ∧ Rdg w' b g cap ts.length a n o 25 a ∧ Only b w w' := by
  have HIS := Lib.hid (ris_any b g cap a n o 0 fault ts s w h ht ha hn)
  rw [hs] at HIS
  have HF := Lib.hid (fun w1 (b1 : Below w.heap.size w w1) => rfail_any b g cap ts.length a n o fault 25 w1 (h.below b1))
  have c4 := h.c4
  clear h ht hs ha hn
  go_enter Tryz.func210, Tryz.ntmps210
  go_wp2_with fail
  refine HIS.out.mono ?_
  rintro e w1 ⟨rfl, b1⟩
  have B1 := Lib.hid b1
  clear b1
  go_wp2_with fail
  refine (HF.out _ B1.out).mono ?_
  rintro e w2 ⟨rfl, r2, o2⟩
  have R2 := Lib.hid r2
  have O2 := Lib.hid ((Only.of_below B1.out).trans o2)
  clear r2 o2
  go_wp2_with fail
  first | go_end0 | refine bodyPost_ret (results_none rfl _ _ _) rfl ?_
  exact ⟨rfl, R2.out, O2.out⟩
theorem rtake_bad (b g cap len : Nat) (a n o bad fault : Int) (hb : bad ≠ 0) (s : ByteArray) (w : World) (h : Rdg w b g cap len a n o bad fault) :
    Calls Tryz.prog 210 #[.pointer (some ⟨b, 0, none⟩), .string s] w fun e w' => e = .returned (.tuple #[]) ∧ w = w' := by
  have c4 := h.c4
  have hb2 : (bad == 0) = false := by simpa using hb
  have hb3 : (bad != 0) = true := by simpa using hb
  clear h
  go_enter Tryz.func210, Tryz.ntmps210
  go_wp2_with fail
  first | go_end0 | refine bodyPost_ret (results_none rfl _ _ _) rfl ?_
  exact ⟨rfl, rfl⟩
theorem rnode_ok (b g cap len : Nat) (a o fault : Int) (n : Nat) (w : World) (h : Rdg w b g cap len a n o 0 fault) (hn : n < 200) :
    Calls Tryz.prog 140 #[.pointer (some ⟨b, 0, none⟩)] w fun e w' => e = .returned (.tuple #[]) ∧ Rdg w' b g cap len a (n + 1 : Nat) o 0 fault ∧ Only b w w' := by
  have c2 := h.c2
  have hz := h.fz
  have R1 := Lib.hid (h.set2 ((n + 1 : Nat) : Int))
  have O1 := Lib.hid (Only.set b w 2 (.int .i64 ((n + 1 : Nat) : Int)))
  have HWR := Lib.hid (show (n : Int) + 1 = ((n + 1 : Nat) : Int) by omega)
  have hni : (n : Int) < 200 := by omega
  clear h
  go_enter Tryz.func140, Tryz.ntmps140
  go_wp2_with fail
  go_end0
  rw [HWR.out]
  exact ⟨rfl, R1.out, O1.out⟩
theorem rnode_no (b g cap len : Nat) (a o fault : Int) (w : World) (h : Rdg w b g cap len a (200 : Nat) o 0 fault) :
    Calls Tryz.prog 140 #[.pointer (some ⟨b, 0, none⟩)] w fun e w' => e = .returned (.tuple #[]) ∧ (∃ n, Rdg w' b g cap len a n o 27 a) ∧ Only b w w' := by
  have HF := Lib.hid (fun w1 (k : Rdg w1 b g cap len a 201 o 0 fault) => rfail_any b g cap len a 201 o fault 27 w1 k)
  have c2 := h.c2
  have hz := h.fz
  have R1 := Lib.hid (h.set2 201)
  have O1 := Lib.hid (Only.set b w 2 (.int .i64 201))
  clear h
  go_enter Tryz.func140, Tryz.ntmps140
  go_wp2_with fail
  refine (HF.out _ R1.out).mono ?_
  rintro e w2 ⟨rfl, r2, o2⟩
  have R2 := Lib.hid r2
  have O2 := Lib.hid (O1.out.trans o2)
  clear r2 o2
  go_wp2_with fail
  first | go_end0 | refine bodyPost_ret (results_none rfl _ _ _) rfl ?_
  exact ⟨rfl, ⟨_, R2.out⟩, O2.out⟩
theorem rnode_bad (b g cap len : Nat) (a n o bad fault : Int) (hb : bad ≠ 0) (w : World) (h : Rdg w b g cap len a n o bad fault) :
    Calls Tryz.prog 140 #[.pointer (some ⟨b, 0, none⟩)] w fun e w' => e = .returned (.tuple #[]) ∧ (∃ n', Rdg w' b g cap len a n' o bad fault) ∧ Only b w w' := by
  have HF := Lib.hid (fun m w1 (k : Rdg w1 b g cap len a m o bad fault) => rfail_more b g cap len a m o bad fault hb 27 w1 k)
  have c2 := h.c2
  have hz := h.fz
  have R1 := Lib.hid (fun v => h.set2 v)
  have O1 := Lib.hid (fun v => Only.set b w 2 (.int .i64 v))
  clear h
  go_enter Tryz.func140, Tryz.ntmps140
  go_wp2_with fail
  · refine (HF.out _ _ (R1.out _)).mono ?_
    rintro e w2 ⟨rfl, b2⟩
    have R2 := Lib.hid ((R1.out _).below b2)
    have O2 := Lib.hid ((O1.out _).trans (Only.of_below b2))
    clear b2
    go_wp2_with fail
    first | go_end0 | refine bodyPost_ret (results_none rfl _ _ _) rfl ?_
    exact ⟨rfl, ⟨_, R2.out⟩, O2.out⟩
  · first | go_end0 | refine bodyPost_ret (results_none rfl _ _ _) rfl ?_
    exact ⟨rfl, ⟨_, R1.out _⟩, O1.out _⟩
theorem ropens_ok (b g cap len : Nat) (a n fault : Int) (o : Nat) (w : World) (h : Rdg w b g cap len a n o 0 fault) (hn : o < 20) :
    Calls Tryz.prog 173 #[.pointer (some ⟨b, 0, none⟩)] w fun e w' => e = .returned (.tuple #[]) ∧ Rdg w' b g cap len a n (o + 1 : Nat) 0 fault ∧ Only b w w' := by
  have c3 := h.c3
  have hz := h.fz
  have R1 := Lib.hid (h.set3 ((o + 1 : Nat) : Int))
  have O1 := Lib.hid (Only.set b w 3 (.int .i64 ((o + 1 : Nat) : Int)))
  have HWR := Lib.hid (show (o : Int) + 1 = ((o + 1 : Nat) : Int) by omega)
  have hni : (o : Int) < 20 := by omega
  clear h
  go_enter Tryz.func173, Tryz.ntmps173
  go_wp2_with fail
  go_end0
  rw [HWR.out]
  exact ⟨rfl, R1.out, O1.out⟩
theorem ropens_no (b g cap len : Nat) (a n fault : Int) (w : World) (h : Rdg w b g cap len a n (20 : Nat) 0 fault) :
    Calls Tryz.prog 173 #[.pointer (some ⟨b, 0, none⟩)] w fun e w' => e = .returned (.tuple #[]) ∧ (∃ o, Rdg w' b g cap len a n o 26 a) ∧ Only b w w' := by
  have HF := Lib.hid (fun w1 (k : Rdg w1 b g cap len a n 21 0 fault) => rfail_any b g cap len a n 21 fault 26 w1 k)
  have c3 := h.c3
  have hz := h.fz
  have R1 := Lib.hid (h.set3 21)
  have O1 := Lib.hid (Only.set b w 3 (.int .i64 21))
  clear h
  go_enter Tryz.func173, Tryz.ntmps173
  go_wp2_with fail
  refine (HF.out _ R1.out).mono ?_
  rintro e w2 ⟨rfl, r2, o2⟩
  have R2 := Lib.hid r2
  have O2 := Lib.hid (O1.out.trans o2)
  clear r2 o2
  go_wp2_with fail
  first | go_end0 | refine bodyPost_ret (results_none rfl _ _ _) rfl ?_
  exact ⟨rfl, ⟨_, R2.out⟩, O2.out⟩
end Go.Proofs.YtlmmfhbdebfgkaaGreatDoor.Ex
