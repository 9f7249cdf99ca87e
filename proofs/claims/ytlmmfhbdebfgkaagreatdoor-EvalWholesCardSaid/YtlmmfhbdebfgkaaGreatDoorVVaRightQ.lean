/-
  VaRight, EvSm, EvGood.
-/
import Derived.Test.YtlmmfhbdebfgkaaGreatDoorVEvCmpQ
import Derived.Test.YtlmmfhbdebfgkaaGreatDoorVVaPureQ
set_option linter.unusedVariables false
set_option linter.unusedSimpArgs false
set_option maxRecDepth 100000
set_option maxHeartbeats 2000000
namespace Go.Proofs.YtlmmfhbdebfgkaaGreatDoor.Va
open Go.RowKit
def NumsAt (w : World) (a : Option Addr) (l : List Int) : Prop := ∀ i, i < l.length → ∃ b off, a = some ⟨b, off, none⟩ ∧ w.cell? ⟨b, off + i, none⟩ = some (.int .i64 (l.getD i 0)) ∧ b < w.heap.size
theorem NumsAt.below {w w' : World} {a : Option Addr} {l : List Int} (h : NumsAt w a l) (b : Below w.heap.size w w') : NumsAt w' a l := fun i hi => by
  obtain ⟨g, off, e, hc, hl⟩ := h i hi
  exact ⟨g, off, e, (b.cell (p := ⟨g, off + i, none⟩) hl).trans hc, Nat.lt_of_lt_of_le hl b.size⟩
def valC (v : V) (a : Option Addr) (cap : Nat) : Value := .agg #[.int .i64 v.kind, .int .i64 v.num, .string (S v.text), .slice a v.list.length cap]
structure VOk (v : V) : Prop where
  text : v.text.length ≤ 9223372036854775807
  list : v.list.length ≤ 9223372036854775807
theorem ret_b {a b : Bool} (h : a = b) : Ending.returned (.bool a) = .returned (.bool b) := by rw [h]
end Go.Proofs.YtlmmfhbdebfgkaaGreatDoor.Va
namespace Go.Proofs.YtlmmfhbdebfgkaaGreatDoor.Ev
open Go.RowKit
open Ex Lx Va
def vA (k n : Int) (t : List UInt8) (a : Option Addr) (len cap : Nat) : Value := .agg #[.int .i64 k, .int .i64 n, .string (S t), .slice a len cap]
theorem boolean_any (b : Bool) (w : World) : Calls Tryz.prog 92 #[.bool b] w fun e w' => e = .returned (valC (boolV b) none 0) ∧ Below w.heap.size w w' := by
  cases b with
  | true =>
    go_enter Tryz.func92, Tryz.ntmps92
    go_wp2_with fail
    exact bodyPost_ret (v := .agg #[.int .i64 2, .int .i64 1, .string ⟨#[]⟩, .slice none 0 0]) (by simp [results, Tryz.results92, go_sem]) rfl ⟨rfl, (Below.refl w.heap.size w).alloc (Nat.le_refl _) _⟩
  | false =>
    go_enter Tryz.func92, Tryz.ntmps92
    go_wp2_with fail
    exact bodyPost_ret (v := .agg #[.int .i64 2, .int .i64 0, .string ⟨#[]⟩, .slice none 0 0]) (by simp [results, Tryz.results92, go_sem]) rfl ⟨rfl, (Below.refl w.heap.size w).alloc (Nat.le_refl _) _⟩
theorem truth_any (k n : Int) (t : List UInt8) (a : Option Addr) (len cap : Nat) (w : World) : Calls Tryz.prog 91 #[vA k n t a len cap] w fun e w' => e = (if k = 2 then .returned (.bool (n == 1)) else panE 23) ∧ Below w.heap.size w w' := by
  have HB := Lib.hid ((Below.refl w.heap.size w).alloc (Nat.le_refl _) (.cells #[.int .i64 k, .int .i64 n, .string (S t), .slice a len cap] 52))
  unfold vA
  by_cases hk : k = 2
  · rw [if_pos hk]
    subst hk
    go_enter Tryz.func91, Tryz.ntmps91
    go_wp2_with fail
    refine (need_ok 23 _).mono ?_
    rintro e w1 ⟨rfl, rfl⟩
    go_wp2_with fail
    go_ret
    exact ⟨rfl, HB.out⟩
  · rw [if_neg hk]
    have e1 : (k == 2) = false := by simpa using hk
    go_enter Tryz.func91, Tryz.ntmps91
    go_wp2_with fail
    refine (need_bad 23 _).mono ?_
    rintro e w1 ⟨rfl, rfl⟩
    unfold panE
    go_wp2_with fail
    exact ⟨rfl, rfl, HB.out⟩
theorem size_any (k n : Int) (t : List UInt8) (a : Option Addr) (len cap : Nat) (w : World) : Calls Tryz.prog 147 #[vA k n t a len cap] w fun e w' => e = (if k = 5 then .returned (.int .i64 (len : Int)) else if k = 3 then .returned (.int .i64 (t.length : Int)) else panE 23) ∧ Below w.heap.size w w' := by
  have HB := Lib.hid ((Below.refl w.heap.size w).alloc (Nat.le_refl _) (.cells #[.int .i64 k, .int .i64 n, .string (S t), .slice a len cap] 52))
  unfold vA
  have hts : (S t).size = t.length := S_size t
  by_cases hk : k = 5
  · rw [if_pos hk]
    subst hk
    go_enter Tryz.func147, Tryz.ntmps147
    go_wp2_with fail
    refine (need_ok 23 _).mono ?_
    rintro e w1 ⟨rfl, rfl⟩
    go_wp2_with fail
    go_ret
    exact ⟨rfl, HB.out⟩
  rw [if_neg hk]
  have e5 : (k == 5) = false := by simpa using hk
  by_cases hk3 : k = 3
  · rw [if_pos hk3]
    subst hk3
    go_enter Tryz.func147, Tryz.ntmps147
    go_wp2_with fail
    refine (need_ok 23 _).mono ?_
    rintro e w1 ⟨rfl, rfl⟩
    go_wp2_with fail
    go_ret
    exact ⟨rfl, HB.out⟩
  · rw [if_neg hk3]
    have e1 : (k == 3) = false := by simpa using hk3
    go_enter Tryz.func147, Tryz.ntmps147
    go_wp2_with fail
    refine (need_bad 23 _).mono ?_
    rintro e w1 ⟨rfl, rfl⟩
    unfold panE
    go_wp2_with fail
    exact ⟨rfl, rfl, HB.out⟩
theorem at_any (k n : Int) (t : List UInt8) (a : Option Addr) (l : List Int) (len cap : Nat) (hlen : len = l.length) (k2 n2 : Int) (t2 : List UInt8) (a2 : Option Addr) (len2 cap2 : Nat) (w : World) (hl : NumsAt w a l) (hll : l.length ≤ 281474976710656) :
    Calls Tryz.prog 148 #[vA k n t a len cap, vA k2 n2 t2 a2 len2 cap2] w fun e w' => e = (if k = 5 ∧ k2 = 1 then (if 0 ≤ n2 ∧ n2 < (l.length : Int) then .returned (.int .i64 (l.getD n2.toNat 0)) else panE 32) else panE 23) ∧ Below w.heap.size w w' := by
  have HB0 := (Below.refl w.heap.size w).alloc (Nat.le_refl _) (.cells #[.int .i64 k, .int .i64 n, .string (S t), .slice a len cap] 52)
  have HB := Lib.hid (HB0.alloc (by simp) (.cells #[.int .i64 k2, .int .i64 n2, .string (S t2), .slice a2 len2 cap2] 52))
  unfold vA
  subst hlen
  have hli : (l.length : Int) ≤ 281474976710656 := by omega
  by_cases hk : k = 5
  · subst hk
    by_cases hk2 : k2 = 1
    · subst hk2
      rw [if_pos ⟨rfl, rfl⟩]
      by_cases h0 : 0 ≤ n2
      · by_cases h1 : n2 < (l.length : Int)
        · rw [if_pos ⟨h0, h1⟩]
          obtain ⟨i, rfl⟩ : ∃ i : Nat, n2 = (i : Int) := ⟨n2.toNat, by omega⟩
          have hi : i < l.length := by omega
          obtain ⟨g, off, rfl, hc, hg⟩ := hl i hi
          have f0 := (HB.out.cell (p := ⟨g, off + i, none⟩) hg).trans hc
          have hgl := Nat.lt_of_lt_of_le hg HB.out.size
          have hr : l.getD ((i : Nat) : Int).toNat 0 = l.getD i 0 := rfl
          rw [hr]
          generalize l.getD i 0 = x at *
          have h0i : (0 : Int) ≤ (i : Int) := by omega
          generalize hln : l.length = ln at *
          clear hl hr HB0 hln
          go_enter Tryz.func148, Tryz.ntmps148
          go_wp2_with fail
          refine (need_ok 23 _).mono ?_
          rintro e w1 ⟨rfl, rfl⟩
          go_wp2_with fail
          refine (need_ok 32 _).mono ?_
          rintro e w1 ⟨rfl, rfl⟩
          go_wp2_with fail
          go_ret
          exact ⟨rfl, HB.out⟩
        · rw [if_neg (by omega)]
          have d1 : decide (n2 < (l.length : Int)) = false := decide_eq_false h1
          have d0 : decide (0 ≤ n2) = true := decide_eq_true h0
          generalize hln : l.length = ln at *
          clear hl HB0 hln
          go_enter Tryz.func148, Tryz.ntmps148
          go_wp2_with fail
          refine (need_ok 23 _).mono ?_
          rintro e w1 ⟨rfl, rfl⟩
          go_wp2_with fail
          refine (need_bad 32 _).mono ?_
          rintro e w1 ⟨rfl, rfl⟩
          unfold panE
          go_wp2_with fail
          exact ⟨rfl, rfl, HB.out⟩
      · rw [if_neg (by omega)]
        have d0 : decide (0 ≤ n2) = false := decide_eq_false h0
        generalize hln : l.length = ln at *
        clear hl HB0 hln
        go_enter Tryz.func148, Tryz.ntmps148
        go_wp2_with fail
        refine (need_ok 23 _).mono ?_
        rintro e w1 ⟨rfl, rfl⟩
        go_wp2_with fail
        refine (need_bad 32 _).mono ?_
        rintro e w1 ⟨rfl, rfl⟩
        unfold panE
        go_wp2_with fail
        exact ⟨rfl, rfl, HB.out⟩
    · rw [if_neg (by omega)]
      have e1 : (k2 == 1) = false := by simpa using hk2
      generalize hln : l.length = ln at *
      clear hl HB0 hln
      go_enter Tryz.func148, Tryz.ntmps148
      go_wp2_with fail
      refine (need_bad 23 _).mono ?_
      rintro e w1 ⟨rfl, rfl⟩
      unfold panE
      go_wp2_with fail
      exact ⟨rfl, rfl, HB.out⟩
  · rw [if_neg (by omega)]
    have e5 : (k == 5) = false := by simpa using hk
    generalize hln : l.length = ln at *
    clear hl HB0 hln
    go_enter Tryz.func148, Tryz.ntmps148
    go_wp2_with fail
    refine (need_bad 23 _).mono ?_
    rintro e w1 ⟨rfl, rfl⟩
    unfold panE
    go_wp2_with fail
    exact ⟨rfl, rfl, HB.out⟩
end Go.Proofs.YtlmmfhbdebfgkaaGreatDoor.Ev
namespace Go.Proofs.YtlmmfhbdebfgkaaGreatDoor.Ev
open Ex Lx Va Ty
def B64 (n : Int) : Prop := -9223372036854775808 ≤ n ∧ n ≤ 9223372036854775807
structure Good (x : V) : Prop where
  right : rightB x = true
  num : B64 x.num
  nums : ∀ n ∈ x.list, B64 n
theorem good_zero : Good zeroV := ⟨by decide, by unfold B64; decide, fun n h => by cases h⟩
theorem good_int {n : Int} (h : B64 n) : Good (intV n) := ⟨by simp [rightB, intV], h, fun n h => by cases h⟩
theorem good_bool (b : Bool) : Good (boolV b) := by
  cases b
  · exact ⟨by decide, by unfold B64; decide, fun n h => by cases h⟩
  · exact ⟨by decide, by unfold B64; decide, fun n h => by cases h⟩
theorem good_num (n : Int) : Good (numE n).1 := by
  unfold numE
  split
  · rename_i h
    exact good_int (by simpa [fits64, B64] using h)
  · exact good_zero
theorem name_len {s : List UInt8} (h : nameB s = true) : s.length ≤ 24 := by
  cases s with
  | nil => simp
  | cons c r => simp [nameB] at h; simp; omega
theorem Good.text {x : V} (h : Good x) : x.text.length ≤ 64 := by
  have h1 := h.right
  by_cases h3 : x.kind = 3
  · simp [rightB, h3] at h1; omega
  by_cases h4 : x.kind = 4
  · have : nameB x.text = true := by
      simp [rightB, h4] at h1; exact h1.1.2
    have := name_len this
    omega
  · simp [rightB, h3, h4] at h1
    simp [h1.1.2]
theorem Good.list {x : V} (h : Good x) : x.list.length ≤ 16 := by
  have h1 := h.right
  by_cases h5 : x.kind = 5
  · simp [rightB, h5] at h1; omega
  · simp [rightB, h5] at h1
    simp [h1.2]
theorem Good.bool {x : V} (h : Good x) (hk : x.kind = 2) : x = boolV (x.num == 1) := by
  obtain ⟨k, n, t, l⟩ := x
  have h1 := h.right
  simp only at hk
  subst hk
  simp [rightB] at h1
  obtain ⟨⟨h2, h3⟩, h4⟩ := h1
  subst h3 h4
  rcases h2 with (h2 | h2) | h2 <;> (rw [h2]; rfl)
theorem namedV_good (l : List AttrP) (vs : List V) (n : List UInt8) (h : ∀ x ∈ vs, Good x) : Good (namedV l vs n).1 := by
  induction l generalizing vs with
  | nil => exact good_zero
  | cons a r ih =>
    unfold namedV
    by_cases ha : a.name = n
    · rw [if_pos ha]
      cases vs with
      | nil => exact good_zero
      | cons v s =>
        simp only
        split
        · exact good_zero
        · exact h v (by simp)
    · rw [if_neg ha]
      exact ih vs.tail fun x hx => h x (List.mem_of_mem_tail hx)
theorem seqE_good (l : List (V × Nat)) (h : ∀ x ∈ l, Good x.1) : ∀ x ∈ (seqE l).1, Good x := by
  induction l with
  | nil => intro x hx; cases hx
  | cons a r ih =>
    intro x hx
    unfold seqE at hx
    split at hx
    · split at hx
      · rcases List.mem_cons.1 hx with rfl | hx
        · exact h a (by simp)
        · exact ih (fun y hy => h y (by simp [hy])) x hx
      · cases hx
    · cases hx
theorem seqE_len : ∀ l : List (V × Nat), (seqE l).2 = 0 → (seqE l).1.length = l.length
  | [], _ => rfl
  | a :: r, h => by
    unfold seqE at h ⊢
    split at h
    · rename_i h1
      rw [if_pos h1]
      split at h
      · rename_i h2
        rw [if_pos h2]
        simp [seqE_len r h2]
      · rename_i h2; exact absurd h h2
    · rename_i h1; exact absurd h h1
theorem evL_len (v : En) : ∀ l : F, (evL v l).length = l.len
  | .nil => rfl
  | .cons o n t a r => by
    show (evL v r).length + 1 = r.len + 1
    rw [evL_len v r]
theorem argV_good {l : List V} (h : ∀ x ∈ l, Good x) (i : Nat) : Good (argV l i) := by
  unfold argV
  by_cases hi : i < l.length
  · rw [List.getD_eq_getElem?_getD, List.getElem?_eq_getElem hi]
    exact h _ (List.getElem_mem hi)
  · rw [List.getD_eq_getElem?_getD, List.getElem?_eq_none (by omega)]
    exact good_zero
theorem arith_good (o a b : Int) : Good (arithE o a b).1 := by
  unfold arithE
  repeat' split
  all_goals first | exact good_num _ | exact good_zero
theorem opE_good (o n : Int) (t : List UInt8) (l : List V) (hf : formedB o n t l.length = true) (hn : namedB o t = true) (hm : n ≤ 9223372036854775807) (h : ∀ x ∈ l, Good x) : Good (opE o n t l).1 := by
  have h0 : 0 ≤ n := by
    simp only [formedB, Bool.and_eq_true, decide_eq_true_eq] at hf; omega
  have z0 : B64 (zeroV).num := ⟨by decide, by decide⟩
  unfold opE
  by_cases h1 : o = 1
  · rw [if_pos h1]; exact good_int ⟨by omega, hm⟩
  rw [if_neg h1]
  by_cases h2 : o = 2
  · rw [if_pos h2]
    subst h2
    refine ⟨?_, z0, fun n h => by cases h⟩
    simp [formedB] at hf
    simp [rightB]; omega
  rw [if_neg h2]
  by_cases h3 : o = 3
  · rw [if_pos h3]
    subst h3
    have h1 : n = 0 ∨ n = 1 := by
      simp [formedB] at hf; omega
    refine ⟨?_, ⟨by show (-9223372036854775808 : Int) ≤ n; omega, hm⟩, fun n h => by cases h⟩
    rcases h1 with rfl | rfl <;> rfl
  rw [if_neg h3]
  by_cases h4 : o = 4
  · rw [if_pos h4]
    subst h4
    refine ⟨?_, z0, fun n h => by cases h⟩
    simp [namedB] at hn
    simp [rightB, hn]
  rw [if_neg h4]
  by_cases h5 : o = 5
  · rw [if_pos h5]
    subst h5
    by_cases ha : allV l 1 = true
    · rw [if_pos ha]
      refine ⟨?_, z0, fun n hn => ?_⟩
      · have : l.length ≤ 16 := by simp [formedB, cntB] at hf; omega
        simp [rightB]; omega
      · obtain ⟨x, hx, rfl⟩ := List.mem_map.1 hn
        exact (h x hx).num
    · rw [if_neg ha]; exact good_zero
  rw [if_neg h5]
  by_cases h10 : o = 10
  · rw [if_pos h10]
    by_cases ha : allV l 2 = true
    · rw [if_pos ha]; exact good_bool _
    · rw [if_neg ha]; exact good_zero
  rw [if_neg h10]
  by_cases h12 : o = 12
  · rw [if_pos h12]
    by_cases ha : (argV l 0).kind = 5
    · rw [if_pos ha]
      have := (argV_good h 0).list
      exact good_int ⟨by omega, by omega⟩
    · rw [if_neg ha]
      by_cases hb : (argV l 0).kind = 3
      · rw [if_pos hb]
        have := (argV_good h 0).text
        exact good_int ⟨by omega, by omega⟩
      · rw [if_neg hb]; exact good_zero
  rw [if_neg h12]
  by_cases h25 : o = 25
  · rw [if_pos h25]
    by_cases ha : (argV l 0).kind = 5 ∧ (argV l 1).kind = 1
    · rw [if_pos ha]
      by_cases hb : 0 ≤ (argV l 1).num ∧ (argV l 1).num < (argV l 0).list.length
      · rw [if_pos hb]
        refine good_int ?_
        have hi : (argV l 1).num.toNat < (argV l 0).list.length := by omega
        rw [List.getD_eq_getElem?_getD, List.getElem?_eq_getElem hi]
        exact (argV_good h 0).nums _ (List.getElem_mem hi)
      · rw [if_neg hb]; exact good_zero
    · rw [if_neg ha]; exact good_zero
  rw [if_neg h25]
  by_cases h26 : o = 26
  · rw [if_pos h26]
    by_cases ha : (argV l 0).kind = 5 ∧ (argV l 1).kind = 1
    · rw [if_pos ha]
      by_cases hl : (argV l 0).list.length < 16
      · rw [if_pos hl]
        refine ⟨?_, z0, fun n hn => ?_⟩
        · simp [rightB]; omega
        · rcases List.mem_append.1 hn with hn | hn
          · exact (argV_good h 0).nums n hn
          · rw [List.mem_singleton.1 hn]; exact (argV_good h 1).num
      · rw [if_neg hl]; exact good_zero
    · rw [if_neg ha]; exact good_zero
  rw [if_neg h26]
  by_cases h30 : o = 30 ∨ o = 31
  · rw [if_pos h30]
    by_cases ha : (argV l 0).kind = (argV l 1).kind
    · rw [if_pos ha]; exact good_bool _
    · rw [if_neg ha]; exact good_zero
  rw [if_neg h30]
  by_cases h32 : o = 32 ∨ o = 33
  · rw [if_pos h32]
    by_cases ha : allV l 1 = true ∨ allV l 3 = true
    · rw [if_pos ha]; exact good_bool _
    · rw [if_neg ha]; exact good_zero
  rw [if_neg h32]
  by_cases ha : allV l 1 = false
  · rw [if_pos ha]; exact good_zero
  rw [if_neg ha]
  by_cases h11 : o = 11
  · rw [if_pos h11]; exact good_num _
  · rw [if_neg h11]; exact arith_good _ _ _
theorem juncE_good (o : Int) (l : List (V × Nat)) (h : ∀ x ∈ l, Good x.1) : Good (juncE o l).1 := by
  unfold juncE
  split
  · rename_i x y r
    have hx := h x (by simp)
    have hy := h y (by simp)
    repeat' split
    all_goals first | exact good_zero | exact hx | exact hy
  · exact good_zero
def okE : F → Prop
  | .nil => True
  | .cons o n t a r => formedB o n t a.len = true ∧ namedB o t = true ∧ n ≤ 9223372036854775807 ∧ okE a ∧ okE r
theorem ev_good (v : En) (hv : ∀ x ∈ v.vals, Good x) (hf : ∀ x ∈ v.fields, Good x) : ∀ l : F, okE l → ∀ x ∈ evL v l, Good x.1
  | .nil, _ => fun x hx => by cases hx
  | .cons o n t a r, h => fun x hx => by
    have ia := ev_good v hv hf a h.2.2.2.1
    have ir := ev_good v hv hf r h.2.2.2.2
    rcases List.mem_cons.1 (show x ∈ nodeE v o n t (evL v a) :: evL v r from hx) with rfl | hx
    · unfold nodeE
      split
      · exact namedV_good _ _ _ hv
      split
      · exact namedV_good _ _ _ hf
      split
      · exact juncE_good _ _ ia
      split
      · rename_i hs
        exact opE_good _ _ _ _ (by rw [seqE_len _ hs, evL_len]; exact h.1) h.2.1 h.2.2.1 (seqE_good _ ia)
      · exact good_zero
    · exact ir x hx
theorem junc_prog (o : Int) (x y : V × Nat) (hx : Good x.1) (hy : Good y.1) (ho : o = 40 ∨ o = 41) : juncE o [x, y] =
    (if x.2 ≠ 0 then (zeroV, x.2) else if x.1.kind ≠ 2 then (zeroV, 23) else if (x.1.num == 1) = (o == 41) then (boolV (x.1.num == 1), 0)
    else if y.2 ≠ 0 then (zeroV, y.2) else if y.1.kind ≠ 2 then (zeroV, 23) else (boolV (y.1.num == 1), 0)) := by
  unfold juncE
  simp only
  by_cases h1 : x.2 ≠ 0
  · rw [if_pos h1, if_pos h1]
  rw [if_neg h1, if_neg h1]
  by_cases h2 : x.1.kind ≠ 2
  · rw [if_pos h2, if_pos h2]
  rw [if_neg h2, if_neg h2]
  have hb := hx.bool (by simpa using h2)
  have hn : x.1.num = 0 ∨ x.1.num = 1 := by
    rw [hb]; unfold boolV; simp only; split <;> simp
  have e : (x.1.num = (if o = 41 then 1 else 0)) ↔ (x.1.num == 1) = (o == 41) := by
    rcases ho with rfl | rfl <;> rcases hn with hn | hn <;> rw [hn] <;> decide
  by_cases h3 : (x.1.num == 1) = (o == 41)
  · rw [if_pos (e.2 h3), if_pos h3, ← hb]
  rw [if_neg (fun h => h3 (e.1 h)), if_neg h3]
  by_cases h4 : y.2 ≠ 0
  · rw [if_pos h4, if_pos h4]
  rw [if_neg h4, if_neg h4]
  by_cases h5 : y.1.kind ≠ 2
  · rw [if_pos h5, if_pos h5]
  rw [if_neg h5, if_neg h5, ← hy.bool (by simpa using h5)]
end Go.Proofs.YtlmmfhbdebfgkaaGreatDoor.Ev
