/-
  The program's values: Same, Order.
-/
import Derived.Test.YtflmpljmgncigaaDoorVlCmp
namespace Go.Proofs.YtflmpljmgncigaaDoor.Va
open Go.RowKit

set_option linter.unusedSimpArgs false
set_option maxRecDepth 100000 in
set_option maxHeartbeats 3200000 in
theorem Same_any (x y : V) (okx : VOk x) (oky : VOk y) (ax ay : Option Addr) (cx cy : Nat) (w : World) (hx : NumsAt w ax x.list) (hy : NumsAt w ay y.list) :
    Calls Tryd.prog 20 #[valC x ax cx, valC y ay cy] w fun e w' => e = .returned (.bool (sameV x y)) ∧ Below w.heap.size w w' := by
  obtain ⟨k, n, t, l⟩ := x
  obtain ⟨k', n', t', l'⟩ := y
  have hB0 := ((Below.refl w.heap.size w).alloc (Nat.le_refl _) (boxO k n t l.length ax cx)).alloc (by simp) (boxO k' n' t' l'.length ay cy)
  have HB0 := Lib.hid hB0
  have hl1 := okx.list
  simp only at hl1 hx hy
  have hcall := equal_list l l' hl1 ax ay cx cy _ (hx.below hB0) (hy.below hB0)
  have HC := Lib.hid hcall
  clear okx oky hx hy hB0 hcall hl1
  unfold valC
  simp only
  by_cases hk : k = k'
  · subst hk
    by_cases hn : n = n'
    · subst hn
      by_cases ht : t = t'
      · subst ht
        have e1 : ((S t).toList == (S t).toList) = true := by simp
        have HF := Lib.hid (show (l == l') = sameV ⟨k, n, t, l⟩ ⟨k, n, t, l'⟩ by simp [sameV])
        go_enter Tryd.func20, Tryd.ntmps20
        go_wp2_with fail
        refine HC.out.mono ?_
        rintro e w1 ⟨rfl, b1⟩
        have HB1 := Lib.hid (HB0.out.trans (b1.mono HB0.out.size))
        clear b1
        go_wp2_with fail
        go_ret
        exact ⟨ret_b HF.out, HB1.out⟩
      · have e1 : ((S t).toList == (S t').toList) = false := by rw [S_beq]; simpa using ht
        have HF := Lib.hid (show false = sameV ⟨k, n, t, l⟩ ⟨k, n, t', l'⟩ by simp [sameV, ht])
        clear ht
        go_enter Tryd.func20, Tryd.ntmps20
        go_wp2_with fail
        go_ret
        exact ⟨ret_b HF.out, HB0.out⟩
    · have e1 : (n == n') = false := by simpa using hn
      have HF := Lib.hid (show false = sameV ⟨k, n, t, l⟩ ⟨k, n', t', l'⟩ by simp [sameV, hn])
      clear hn
      go_enter Tryd.func20, Tryd.ntmps20
      go_wp2_with fail
      go_ret
      exact ⟨ret_b HF.out, HB0.out⟩
  · have e1 : (k == k') = false := by simpa using hk
    have HF := Lib.hid (show false = sameV ⟨k, n, t, l⟩ ⟨k', n', t', l'⟩ by simp [sameV, hk])
    clear hk
    go_enter Tryd.func20, Tryd.ntmps20
    go_wp2_with fail
    go_ret
    exact ⟨ret_b HF.out, HB0.out⟩

theorem or4_ordV (x y : V) : or4 (ordI x.kind y.kind) (ordI x.num y.num) (ordT x.text y.text) (ordL x.list y.list) = ordV x y := by
  rw [ordV_eq]
  unfold or4
  have z1 := cmpI.zero x.kind y.kind
  have z2 := cmpI.zero x.num y.num
  have z3 := cmpT.zero x.text y.text
  by_cases h1 : x.kind = y.kind
  · rw [if_neg (by simpa using z1.2 h1), if_pos h1]
    by_cases h2 : x.num = y.num
    · rw [if_neg (by simpa using z2.2 h2), if_pos h2]
      by_cases h3 : x.text = y.text
      · rw [if_neg (by simpa using z3.2 h3), if_pos h3]
      · rw [if_pos (fun e => h3 (z3.1 e)), if_neg h3]
    · rw [if_pos (fun e => h2 (z2.1 e)), if_neg h2]
  · rw [if_pos (fun e => h1 (z1.1 e)), if_neg h1]

set_option linter.unusedSimpArgs false
set_option maxRecDepth 100000 in
set_option maxHeartbeats 6400000 in
theorem Order_any (x y : V) (okx : VOk x) (oky : VOk y) (ax ay : Option Addr) (cx cy : Nat) (w : World) (hx : NumsAt w ax x.list) (hy : NumsAt w ay y.list) :
    Calls Tryd.prog 18 #[valC x ax cx, valC y ay cy] w fun e w' => e = .returned (.int .i64 (ordV x y)) ∧ Below w.heap.size w w' := by
  have HV := Lib.hid (or4_ordV x y)
  obtain ⟨k, n, t, l⟩ := x
  obtain ⟨k', n', t', l'⟩ := y
  have hB0 := ((Below.refl w.heap.size w).alloc (Nat.le_refl _) (boxO k n t l.length ax cx)).alloc (by simp) (boxO k' n' t' l'.length ay cy)
  have HB0 := Lib.hid hB0
  have hl1 := okx.list
  have hl2 := oky.list
  simp only at hl1 hl2 hx hy
  have hx1 := hx.below hB0
  have hy1 := hy.below hB0
  have HC1 := Lib.hid (compare_int k k')
  have HC2 := Lib.hid (compare_int64 n n')
  have HC3 := Lib.hid (compare_string t t')
  have hcl := compare_list l l' hl1 hl2 ax ay cx cy ((w.alloc (boxO k n t l.length ax cx)).alloc (boxO k' n' t' l'.length ay cy)).drew (fun i hi => hx1 i hi) (fun i hi => hy1 i hi)
  have HC4 := Lib.hid hcl
  have HOR := Lib.hid (or_any (ordI k k') (ordI n n') (ordT t t') (ordL l l'))
  unfold valC
  simp only
  simp only at HV
  generalize ordI k k' = c1 at *
  generalize ordI n n' = c2 at *
  generalize ordT t t' = c3 at *
  generalize ordL l l' = c4 at *
  generalize ordV ⟨k, n, t, l⟩ ⟨k', n', t', l'⟩ = res at *
  have HX0 := Lib.hid (show ((w.alloc (boxO k n t l.length ax cx)).alloc (boxO k' n' t' l'.length ay cy)).heap[w.heap.size]? = some (boxO k n t l.length ax cx) by
    rw [Below.heap_alloc _ _ _ (by simp)]; exact heap_alloc_new w _)
  have hb1 := heap_alloc_new (w.alloc (boxO k n t l.length ax cx)) (boxO k' n' t' l'.length ay cy)
  rw [show (w.alloc (boxO k n t l.length ax cx)).heap.size = w.heap.size + 1 by simp] at hb1
  have hx0 := HX0.out
  have hs0 : ∀ wr : World, wr.heap[w.heap.size]? = some (boxO k n t l.length ax cx) → wr.heap[w.heap.size + 1]? = some (boxO k' n' t' l'.length ay cy) → (wr.cell? ⟨w.heap.size, 0, none⟩ = some (.int .i64 k) ∧ wr.cell? ⟨w.heap.size, 1, none⟩ = some (.int .i64 n) ∧ wr.cell? ⟨w.heap.size, 2, none⟩ = some (.string (S t)) ∧ wr.cell? ⟨w.heap.size, 3, none⟩ = some (.slice ax l.length cx)) ∧
      (wr.cell? ⟨w.heap.size + 1, 0, none⟩ = some (.int .i64 k') ∧ wr.cell? ⟨w.heap.size + 1, 1, none⟩ = some (.int .i64 n') ∧ wr.cell? ⟨w.heap.size + 1, 2, none⟩ = some (.string (S t')) ∧ wr.cell? ⟨w.heap.size + 1, 3, none⟩ = some (.slice ay l'.length cy)) := fun wr h0 h1 =>
    ⟨⟨(cell_of_row wr _ 0 _ _ (0, 0) h0).trans rfl, (cell_of_row wr _ 1 _ _ (0, 0) h0).trans rfl, (cell_of_row wr _ 2 _ _ (0, 0) h0).trans rfl, (cell_of_row wr _ 3 _ _ (0, 0) h0).trans rfl⟩,
      ⟨(cell_of_row wr _ 0 _ _ (0, 0) h1).trans rfl, (cell_of_row wr _ 1 _ _ (0, 0) h1).trans rfl, (cell_of_row wr _ 2 _ _ (0, 0) h1).trans rfl, (cell_of_row wr _ 3 _ _ (0, 0) h1).trans rfl⟩⟩
  have HSO := Lib.hid (fun o : Obj => hs0 ((((w.alloc (boxO k n t l.length ax cx)).alloc (boxO k' n' t' l'.length ay cy)).alloc o)).drew (by show (((w.alloc _).alloc _).alloc o).heap[w.heap.size]? = _; rw [Below.heap_alloc _ _ _ (by simp; omega)]; exact hx0) (by show (((w.alloc _).alloc _).alloc o).heap[w.heap.size + 1]? = _; rw [Below.heap_alloc _ _ _ (by simp)]; exact hb1))
  have HS0 := Lib.hid (hs0 ((w.alloc (boxO k n t l.length ax cx)).alloc (boxO k' n' t' l'.length ay cy)).drew hx0 hb1)
  have hoc : ∀ q : Nat, q < 4 → (((w.alloc (boxO k n t l.length ax cx)).alloc (boxO k' n' t' l'.length ay cy)).alloc (.cells #[.int .i64 c1, .int .i64 c2, .int .i64 c3, .int .i64 c4] 3)).cell? ⟨w.heap.size + 1 + 1, q, none⟩ = some (.int .i64 (nth4 c1 c2 c3 c4 q)) := fun q hq => by
    have h2 := heap_alloc_new ((w.alloc (boxO k n t l.length ax cx)).alloc (boxO k' n' t' l'.length ay cy)) (.cells #[.int .i64 c1, .int .i64 c2, .int .i64 c3, .int .i64 c4] 3)
    rw [show ((w.alloc (boxO k n t l.length ax cx)).alloc (boxO k' n' t' l'.length ay cy)).heap.size = w.heap.size + 1 + 1 by simp] at h2
    have hq4 : q = 0 ∨ q = 1 ∨ q = 2 ∨ q = 3 := by omega
    rcases hq4 with rfl | rfl | rfl | rfl <;> exact (cell_of_row _ _ _ _ _ (0, 0) h2).trans rfl
  have HOC := Lib.hid hoc
  clear okx oky hx hy hx1 hy1 hB0 hb1 hx0 hs0 HX0 hcl hoc
  go_enter Tryd.func18, Tryd.ntmps18
  go_wp2_with fail
  go_region_held3 (fun w7 => (w7.cell? ⟨w.heap.size, 0, none⟩ = some (.int .i64 k) ∧ w7.cell? ⟨w.heap.size, 1, none⟩ = some (.int .i64 n) ∧ w7.cell? ⟨w.heap.size, 2, none⟩ = some (.string (S t)) ∧ w7.cell? ⟨w.heap.size, 3, none⟩ = some (.slice ax l.length cx)) ∧
      (w7.cell? ⟨w.heap.size + 1, 0, none⟩ = some (.int .i64 k') ∧ w7.cell? ⟨w.heap.size + 1, 1, none⟩ = some (.int .i64 n') ∧ w7.cell? ⟨w.heap.size + 1, 2, none⟩ = some (.string (S t')) ∧ w7.cell? ⟨w.heap.size + 1, 3, none⟩ = some (.slice ay l'.length cy)))
    (first | assumption | exact HS0.out | exact HSO.out _ | go_keep)
    (first
      | (go_at_call 37; refine (HC1.out _).mono ?_; rintro e w7 ⟨rfl, rfl⟩)
      | (go_at_call 38; refine (HC2.out _).mono ?_; rintro e w7 ⟨rfl, rfl⟩)
      | (go_at_call 39; refine (HC3.out _).mono ?_; rintro e w7 ⟨rfl, rfl⟩)
      | (go_at_call 40; refine HC4.out.mono ?_; rintro e w7 ⟨rfl, rfl⟩)
      | (go_at_call 36; refine (HOR.out _ _ _ ?_).mono ?_; exact HOC.out; rintro e w7 ⟨rfl, rfl⟩))
  all_goals
    go_wp2_with fail
    go_ret
    exact ⟨ret_i HV.out, ((HB0.out.drew).alloc (by simp; omega) _)⟩

end Go.Proofs.YtflmpljmgncigaaDoor.Va
