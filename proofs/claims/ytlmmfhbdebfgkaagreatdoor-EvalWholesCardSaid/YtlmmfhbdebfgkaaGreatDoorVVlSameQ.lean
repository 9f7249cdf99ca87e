/-
  VlSame, EvCom, EvNodeA.
-/
import Derived.Test.YtlmmfhbdebfgkaaGreatDoorVEvRnAQ
import Derived.Test.YtlmmfhbdebfgkaaGreatDoorVVaRightQ
set_option linter.unusedVariables false
set_option linter.unusedSimpArgs false
set_option maxRecDepth 100000
set_option maxHeartbeats 6400000
namespace Go.Proofs.YtlmmfhbdebfgkaaGreatDoor.Va
open Go.RowKit
theorem Same_any (x y : V) (okx : VOk x) (oky : VOk y) (ax ay : Option Addr) (cx cy : Nat) (w : World) (hx : NumsAt w ax x.list) (hy : NumsAt w ay y.list) :
    Calls Tryz.prog 144 #[valC x ax cx, valC y ay cy] w fun e w' => e = .returned (.bool (sameV x y)) ∧ Below w.heap.size w w' := by
  obtain ⟨k, n, t, l⟩ := x
  obtain ⟨k', n', t', l'⟩ := y
  have hB0 := ((Below.refl w.heap.size w).alloc (Nat.le_refl _) (boxO k n t l.length ax cx)).alloc (by simp) (boxO k' n' t' l'.length ay cy)
  have HB0 := Lib.hid hB0
  have hl1 := okx.list
  simp only at hl1 hx hy
  have hcall := equal_list l l' hl1 ax ay cx cy _ (hx.below hB0) (hy.below hB0)
  have HC := Lib.hid hcall
  clear okx oky hx hy hB0 hcall hl1
  unfold valC
  simp only
  by_cases hk : k = k'
  · subst hk
    by_cases hn : n = n'
    · subst hn
      by_cases ht : t = t'
      · subst ht
        have e1 : ((S t).toList == (S t).toList) = true := by simp
        have HF := Lib.hid (show (l == l') = sameV ⟨k, n, t, l⟩ ⟨k, n, t, l'⟩ by simp [sameV])
        go_enter Tryz.func144, Tryz.ntmps144
        go_wp2_with fail
        refine HC.out.mono ?_
        rintro e w1 ⟨rfl, b1⟩
        have HB1 := Lib.hid (HB0.out.trans (b1.mono HB0.out.size))
        clear b1
        go_wp2_with fail
        go_ret
        exact ⟨ret_b HF.out, HB1.out⟩
      · have e1 : ((S t).toList == (S t').toList) = false := by rw [S_beq]; simpa using ht
        have HF := Lib.hid (show false = sameV ⟨k, n, t, l⟩ ⟨k, n, t', l'⟩ by simp [sameV, ht])
        clear ht
        go_enter Tryz.func144, Tryz.ntmps144
        go_wp2_with fail
        go_ret
        exact ⟨ret_b HF.out, HB0.out⟩
    · have e1 : (n == n') = false := by simpa using hn
      have HF := Lib.hid (show false = sameV ⟨k, n, t, l⟩ ⟨k, n', t', l'⟩ by simp [sameV, hn])
      clear hn
      go_enter Tryz.func144, Tryz.ntmps144
      go_wp2_with fail
      go_ret
      exact ⟨ret_b HF.out, HB0.out⟩
  · have e1 : (k == k') = false := by simpa using hk
    have HF := Lib.hid (show false = sameV ⟨k, n, t, l⟩ ⟨k', n', t', l'⟩ by simp [sameV, hk])
    clear hk
    go_enter Tryz.func144, Tryz.ntmps144
    go_wp2_with fail
    go_ret
    exact ⟨ret_b HF.out, HB0.out⟩
theorem or4_ordV (x y : V) : or4 (ordI x.kind y.kind) (ordI x.num y.num) (ordT x.text y.text) (ordL x.list y.list) = ordV x y := by
  rw [ordV_eq]
  unfold or4
  have z1 := cmpI.zero x.kind y.kind
  have z2 := cmpI.zero x.num y.num
  have z3 := cmpT.zero x.text y.text
  by_cases h1 : x.kind = y.kind
  · rw [if_neg (by simpa using z1.2 h1), if_pos h1]
    by_cases h2 : x.num = y.num
    · rw [if_neg (by simpa using z2.2 h2), if_pos h2]
      by_cases h3 : x.text = y.text
      · rw [if_neg (by simpa using z3.2 h3), if_pos h3]
      · rw [if_pos (fun e => h3 (z3.1 e)), if_neg h3]
    · rw [if_pos (fun e => h2 (z2.1 e)), if_neg h2]
  · rw [if_pos (fun e => h1 (z1.1 e)), if_neg h1]
theorem Order_any (x y : V) (okx : VOk x) (oky : VOk y) (ax ay : Option Addr) (cx cy : Nat) (w : World) (hx : NumsAt w ax x.list) (hy : NumsAt w ay y.list) :
    Calls Tryz.prog 145 #[valC x ax cx, valC y ay cy] w fun e w' => e = .returned (.int .i64 (ordV x y)) ∧ Below w.heap.size w w' := by
  have HV := Lib.hid (or4_ordV x y)
  obtain ⟨k, n, t, l⟩ := x
  obtain ⟨k', n', t', l'⟩ := y
  have hB0 := ((Below.refl w.heap.size w).alloc (Nat.le_refl _) (boxO k n t l.length ax cx)).alloc (by simp) (boxO k' n' t' l'.length ay cy)
  have HB0 := Lib.hid hB0
  have hl1 := okx.list
  have hl2 := oky.list
  simp only at hl1 hl2 hx hy
  have hx1 := hx.below hB0
  have hy1 := hy.below hB0
  have HC1 := Lib.hid (compare_int k k')
  have HC2 := Lib.hid (compare_int64 n n')
  have HC3 := Lib.hid (compare_string t t')
  have hcl := compare_list l l' hl1 hl2 ax ay cx cy ((w.alloc (boxO k n t l.length ax cx)).alloc (boxO k' n' t' l'.length ay cy)).drew (fun i hi => hx1 i hi) (fun i hi => hy1 i hi)
  have HC4 := Lib.hid hcl
  have HOR := Lib.hid (or_any (ordI k k') (ordI n n') (ordT t t') (ordL l l'))
  unfold valC
  simp only
  simp only at HV
  generalize ordI k k' = c1 at *
  generalize ordI n n' = c2 at *
  generalize ordT t t' = c3 at *
  generalize ordL l l' = c4 at *
  generalize ordV ⟨k, n, t, l⟩ ⟨k', n', t', l'⟩ = res at *
  have HX0 := Lib.hid (show ((w.alloc (boxO k n t l.length ax cx)).alloc (boxO k' n' t' l'.length ay cy)).heap[w.heap.size]? = some (boxO k n t l.length ax cx) by
    rw [Below.heap_alloc _ _ _ (by simp)]; exact heap_alloc_new w _)
  have hb1 := heap_alloc_new (w.alloc (boxO k n t l.length ax cx)) (boxO k' n' t' l'.length ay cy)
  rw [show (w.alloc (boxO k n t l.length ax cx)).heap.size = w.heap.size + 1 by simp] at hb1
  have hx0 := HX0.out
  have hs0 : ∀ wr : World, wr.heap[w.heap.size]? = some (boxO k n t l.length ax cx) → wr.heap[w.heap.size + 1]? = some (boxO k' n' t' l'.length ay cy) → (wr.cell? ⟨w.heap.size, 0, none⟩ = some (.int .i64 k) ∧ wr.cell? ⟨w.heap.size, 1, none⟩ = some (.int .i64 n) ∧ wr.cell? ⟨w.heap.size, 2, none⟩ = some (.string (S t)) ∧ wr.cell? ⟨w.heap.size, 3, none⟩ = some (.slice ax l.length cx)) ∧
      (wr.cell? ⟨w.heap.size + 1, 0, none⟩ = some (.int .i64 k') ∧ wr.cell? ⟨w.heap.size + 1, 1, none⟩ = some (.int .i64 n') ∧ wr.cell? ⟨w.heap.size + 1, 2, none⟩ = some (.string (S t')) ∧ wr.cell? ⟨w.heap.size + 1, 3, none⟩ = some (.slice ay l'.length cy)) := fun wr h0 h1 =>
    ⟨⟨(cell_of_row wr _ 0 _ _ (0, 0) h0).trans rfl, (cell_of_row wr _ 1 _ _ (0, 0) h0).trans rfl, (cell_of_row wr _ 2 _ _ (0, 0) h0).trans rfl, (cell_of_row wr _ 3 _ _ (0, 0) h0).trans rfl⟩,
      ⟨(cell_of_row wr _ 0 _ _ (0, 0) h1).trans rfl, (cell_of_row wr _ 1 _ _ (0, 0) h1).trans rfl, (cell_of_row wr _ 2 _ _ (0, 0) h1).trans rfl, (cell_of_row wr _ 3 _ _ (0, 0) h1).trans rfl⟩⟩
  have HSO := Lib.hid (fun o : Obj => hs0 ((((w.alloc (boxO k n t l.length ax cx)).alloc (boxO k' n' t' l'.length ay cy)).alloc o)).drew (by show (((w.alloc _).alloc _).alloc o).heap[w.heap.size]? = _; rw [Below.heap_alloc _ _ _ (by simp; omega)]; exact hx0) (by show (((w.alloc _).alloc _).alloc o).heap[w.heap.size + 1]? = _; rw [Below.heap_alloc _ _ _ (by simp)]; exact hb1))
  have HS0 := Lib.hid (hs0 ((w.alloc (boxO k n t l.length ax cx)).alloc (boxO k' n' t' l'.length ay cy)).drew hx0 hb1)
  have hoc : ∀ q : Nat, q < 4 → (((w.alloc (boxO k n t l.length ax cx)).alloc (boxO k' n' t' l'.length ay cy)).alloc (.cells #[.int .i64 c1, .int .i64 c2, .int .i64 c3, .int .i64 c4] 3)).cell? ⟨w.heap.size + 1 + 1, q, none⟩ = some (.int .i64 (nth4 c1 c2 c3 c4 q)) := fun q hq => by
    have h2 := heap_alloc_new ((w.alloc (boxO k n t l.length ax cx)).alloc (boxO k' n' t' l'.length ay cy)) (.cells #[.int .i64 c1, .int .i64 c2, .int .i64 c3, .int .i64 c4] 3)
    rw [show ((w.alloc (boxO k n t l.length ax cx)).alloc (boxO k' n' t' l'.length ay cy)).heap.size = w.heap.size + 1 + 1 by simp] at h2
    have hq4 : q = 0 ∨ q = 1 ∨ q = 2 ∨ q = 3 := by omega
    rcases hq4 with rfl | rfl | rfl | rfl <;> exact (cell_of_row _ _ _ _ _ (0, 0) h2).trans rfl
  have HOC := Lib.hid hoc
  clear okx oky hx hy hx1 hy1 hB0 hb1 hx0 hs0 HX0 hcl hoc
  go_enter Tryz.func145, Tryz.ntmps145
  go_wp2_with fail
  go_region_held3 (fun w7 => (w7.cell? ⟨w.heap.size, 0, none⟩ = some (.int .i64 k) ∧ w7.cell? ⟨w.heap.size, 1, none⟩ = some (.int .i64 n) ∧ w7.cell? ⟨w.heap.size, 2, none⟩ = some (.string (S t)) ∧ w7.cell? ⟨w.heap.size, 3, none⟩ = some (.slice ax l.length cx)) ∧
      (w7.cell? ⟨w.heap.size + 1, 0, none⟩ = some (.int .i64 k') ∧ w7.cell? ⟨w.heap.size + 1, 1, none⟩ = some (.int .i64 n') ∧ w7.cell? ⟨w.heap.size + 1, 2, none⟩ = some (.string (S t')) ∧ w7.cell? ⟨w.heap.size + 1, 3, none⟩ = some (.slice ay l'.length cy)))
    (first | assumption | exact HS0.out | exact HSO.out _ | go_keep)
    (first
      | (go_at_call 180; refine (HC1.out _).mono ?_; rintro e w7 ⟨rfl, rfl⟩)
      | (go_at_call 181; refine (HC2.out _).mono ?_; rintro e w7 ⟨rfl, rfl⟩)
      | (go_at_call 182; refine (HC3.out _).mono ?_; rintro e w7 ⟨rfl, rfl⟩)
      | (go_at_call 183; refine HC4.out.mono ?_; rintro e w7 ⟨rfl, rfl⟩)
      | (go_at_call 179; refine (HOR.out _ _ _ ?_).mono ?_; exact HOC.out; rintro e w7 ⟨rfl, rfl⟩))
  all_goals
    go_wp2_with fail
    go_ret
    exact ⟨ret_i HV.out, ((HB0.out.drew).alloc (by simp; omega) _)⟩
end Go.Proofs.YtlmmfhbdebfgkaaGreatDoor.Va
namespace Go.Proofs.YtlmmfhbdebfgkaaGreatDoor.Ev
open Go.RowKit
open Ex Lx Va
def cmpE (op k k' : Int) (sm : Bool) (od : Int) : Ending :=
  if k ≠ k' then panE 23 else if op = 30 then .returned (.bool sm) else if op = 31 then .returned (.bool (!sm))
  else if ¬ (k = 1 ∨ k = 3) then panE 23 else if op = 32 then .returned (.bool (decide (od < 0))) else .returned (.bool (decide (od ≤ 0)))
theorem compare_any (op : Int) (x y : V) (okx : VOk x) (oky : VOk y) (ax ay : Option Addr) (cx cy : Nat) (w : World) (hx : NumsAt w ax x.list) (hy : NumsAt w ay y.list) :
    Calls Tryz.prog 93 #[.int .i64 op, valC x ax cx, valC y ay cy] w fun e w' => e = cmpE op x.kind y.kind (sameV x y) (ordV x y) ∧ Below w.heap.size w w' := by
  have hb1 := (Below.refl w.heap.size w).alloc (Nat.le_refl _) (.cells #[.int .i64 x.kind, .int .i64 x.num, .string (S x.text), .slice ax x.list.length cx] 52)
  have hb2 := hb1.alloc (by simp) (.cells #[.int .i64 y.kind, .int .i64 y.num, .string (S y.text), .slice ay y.list.length cy] 52)
  have HS := Lib.hid (Same_any x y okx oky ax ay cx cy _ (hx.below hb2) (hy.below hb2))
  have HO := Lib.hid (Order_any x y okx oky ax ay cx cy _ (hx.below hb2) (hy.below hb2))
  have HB := Lib.hid hb2
  clear hb1 hb2 hx hy okx oky
  generalize sameV x y = sm at *
  generalize ordV x y = od at *
  obtain ⟨k, n, t, l⟩ := x
  obtain ⟨k', n', t', l'⟩ := y
  unfold valC at *
  simp only at *
  generalize l.length = ln at *
  generalize l'.length = ln' at *
  unfold cmpE
  by_cases hk : k = k'
  · rw [if_neg (not_not_intro hk)]
    subst hk
    by_cases h30 : op = 30
    · rw [if_pos h30]
      subst h30
      go_enter Tryz.func93, Tryz.ntmps93
      go_wp2_with fail
      refine (need_ok 23 _).mono ?_
      rintro e w1 ⟨rfl, rfl⟩
      go_wp2_with fail
      refine HS.out.mono ?_
      rintro e w2 ⟨rfl, b2⟩
      have HB2 := Lib.hid (HB.out.trans (b2.mono HB.out.size))
      clear b2
      go_wp2_with fail
      go_ret
      exact ⟨rfl, HB2.out⟩
    rw [if_neg h30]
    have e30 : (op == 30) = false := by simpa using h30
    by_cases h31 : op = 31
    · rw [if_pos h31]
      subst h31
      go_enter Tryz.func93, Tryz.ntmps93
      go_wp2_with fail
      refine (need_ok 23 _).mono ?_
      rintro e w1 ⟨rfl, rfl⟩
      go_wp2_with fail
      refine HS.out.mono ?_
      rintro e w2 ⟨rfl, b2⟩
      have HB2 := Lib.hid (HB.out.trans (b2.mono HB.out.size))
      clear b2
      go_wp2_with fail
      go_ret
      exact ⟨rfl, HB2.out⟩
    rw [if_neg h31]
    have e31 : (op == 31) = false := by simpa using h31
    by_cases hk13 : k = 1 ∨ k = 3
    · rw [if_neg (not_not_intro hk13)]
      by_cases h32 : op = 32
      · rw [if_pos h32]
        subst h32
        rcases hk13 with rfl | rfl
        all_goals
          go_enter Tryz.func93, Tryz.ntmps93
          go_wp2_with fail
          refine (need_ok 23 _).mono ?_
          rintro e w1 ⟨rfl, rfl⟩
          go_wp2_with fail
          refine (need_ok 23 _).mono ?_
          rintro e w1 ⟨rfl, rfl⟩
          go_wp2_with fail
          refine HO.out.mono ?_
          rintro e w2 ⟨rfl, b2⟩
          have HB2 := Lib.hid (HB.out.trans (b2.mono HB.out.size))
          clear b2
          go_wp2_with fail
          go_ret
          exact ⟨rfl, HB2.out⟩
      · rw [if_neg h32]
        have e32 : (op == 32) = false := by simpa using h32
        rcases hk13 with rfl | rfl
        all_goals
          go_enter Tryz.func93, Tryz.ntmps93
          go_wp2_with fail
          refine (need_ok 23 _).mono ?_
          rintro e w1 ⟨rfl, rfl⟩
          go_wp2_with fail
          refine (need_ok 23 _).mono ?_
          rintro e w1 ⟨rfl, rfl⟩
          go_wp2_with fail
          refine HO.out.mono ?_
          rintro e w2 ⟨rfl, b2⟩
          have HB2 := Lib.hid (HB.out.trans (b2.mono HB.out.size))
          clear b2
          go_wp2_with fail
          go_ret
          exact ⟨rfl, HB2.out⟩
    · rw [if_pos hk13]
      have e1 : (k == 1) = false := by simp; omega
      have e3 : (k == 3) = false := by simp; omega
      go_enter Tryz.func93, Tryz.ntmps93
      go_wp2_with fail
      refine (need_ok 23 _).mono ?_
      rintro e w1 ⟨rfl, rfl⟩
      go_wp2_with fail
      refine (need_bad 23 _).mono ?_
      rintro e w1 ⟨rfl, rfl⟩
      unfold panE
      go_wp2_with fail
      exact ⟨rfl, rfl, HB.out⟩
  · rw [if_pos (by simpa using hk)]
    have e1 : (k == k') = false := by simpa using hk
    go_enter Tryz.func93, Tryz.ntmps93
    go_wp2_with fail
    refine (need_bad 23 _).mono ?_
    rintro e w1 ⟨rfl, rfl⟩
    unfold panE
    go_wp2_with fail
    exact ⟨rfl, rfl, HB.out⟩
end Go.Proofs.YtlmmfhbdebfgkaaGreatDoor.Ev
namespace Go.Proofs.YtlmmfhbdebfgkaaGreatDoor.Ev
open Go.RowKit
open Ex Lx Va
theorem number_25 (n : Int) (t : List UInt8) (p : Option Addr) (kk c : Nat) (x y : V) (hxl : x.list.length ≤ 1000) (a : Option Addr) (cap : Nat) (w : World) (hx : ValsAt w a [x, y]) :
    Calls Tryz.prog 96 #[.agg #[.int .i64 25, .int .i64 n, .string (S t), .slice p kk c], .slice a 2 cap] w fun e w' => e = intR (opE 25 n t [x, y]) ∧ Below w.heap.size w w' := by
  have hb := (Below.refl w.heap.size w).alloc (Nat.le_refl _) (.cells #[.int .i64 25, .int .i64 n, .string (S t), .slice p kk c] 24)
  have hxb := hx.below hb
  obtain ⟨b, o, rfl, ⟨q, cc, h0, h1, h2, h3, hn⟩, hl⟩ := hxb 0 (by simp)
  obtain ⟨b', o', e', ⟨q2, cc2, g0, g1, g2, g3, hn2⟩, hl2⟩ := hxb 1 (by simp)
  injection e' with e'
  injection e' with e1 e2 _
  subst e1 e2
  simp only [List.getElem_cons_zero, List.getElem_cons_succ, Nat.zero_mul, Nat.add_zero, Nat.one_mul] at h0 h1 h2 h3 hn g0 g1 g2 g3 hn2
  have HB := Lib.hid hb
  have HR := Lib.hid (show intR (opE 25 n t [x, y]) = (if x.kind = 5 ∧ y.kind = 1 then (if 0 ≤ y.num ∧ y.num < (x.list.length : Int) then .returned (.int .i64 (x.list.getD y.num.toNat 0)) else panE 32) else panE 23) from by
    unfold opE argV
    simp only [List.getD_cons_zero, List.getD_cons_succ]
    by_cases h5 : x.kind = 5 ∧ y.kind = 1
    · by_cases h6 : 0 ≤ y.num ∧ y.num < (x.list.length : Int)
      · simp [h5, h6, intR, intV]
      · simp only [h5, h6, if_false, if_true, and_self]; simp [intR]
    · simp [h5, intR])
  rw [HR.out]
  clear hb HR hxb
  obtain ⟨xk, xn, xt, xl⟩ := x
  obtain ⟨yk, yn, yt, yl⟩ := y
  simp only at hxl h0 h1 h2 h3 hn g0 g1 g2 g3 hn2 ⊢
  have HS := Lib.hid (fun (W : World) (k : Below (w.alloc (.cells #[.int .i64 25, .int .i64 n, .string (S t), .slice p kk c] 24)).heap.size (w.alloc (.cells #[.int .i64 25, .int .i64 n, .string (S t), .slice p kk c] 24)) W) => at_any xk xn xt q xl xl.length cc rfl yk yn yt q2 yl.length cc2 W (hn.below k) (by omega))
  unfold vA at HS
  clear hn hn2 hx
  have hex : ∃ R, R = (if xk = 5 ∧ yk = 1 then (if 0 ≤ yn ∧ yn < (xl.length : Int) then Ending.returned (.int .i64 (xl.getD yn.toNat 0)) else panE 32) else panE 23) ∧ ((∃ m, R = .returned (.int .i64 m)) ∨ ∃ k : Int, R = panE k) := by
    refine ⟨_, rfl, ?_⟩
    repeat' split
    all_goals first | exact .inl ⟨_, rfl⟩ | exact .inr ⟨_, rfl⟩
  obtain ⟨R, hR, hcase⟩ := hex
  rw [← hR] at HS ⊢
  clear hR
  rcases hcase with ⟨m, rfl⟩ | ⟨k, rfl⟩
  · go_enter Tryz.func96, Tryz.ntmps96
    go_wp2_with fail
    go_region_law (first
      | (go_simp; go_at_call 148; refine (HS.out _ (by first | exact Below.refl _ _ | exact (Below.refl _ _).drew)).mono ?_; rintro e w2 ⟨rfl, b2⟩))
    all_goals
      have HB2 := Lib.hid (HB.out.drew.trans (b2.mono HB.out.size))
      clear b2
      go_wp2_with fail
      go_ret
      exact ⟨rfl, HB2.out⟩
  · go_enter Tryz.func96, Tryz.ntmps96
    go_wp2_with fail
    go_region_dies
    all_goals
      refine (HS.out _ (by first | exact Below.refl _ _ | exact (Below.refl _ _).drew)).mono ?_
      rintro e w2 ⟨rfl, b2⟩
      have HB2 := Lib.hid (HB.out.drew.trans (b2.mono HB.out.size))
      clear b2
      unfold panE
      go_wp2_with fail
      exact ⟨rfl, rfl, HB2.out⟩
theorem node_2 (n : Int) (t : List UInt8) (p : Option Addr) (kk c : Nat) (vs : List V) (a : Option Addr) (k cap : Nat) (w : World) :
    Calls Tryz.prog 57 #[.agg #[.int .i64 2, .int .i64 n, .string (S t), .slice p kk c], .slice a k cap] w fun e w' => CameF w.heap.size (opE 2 n t vs) e w' ∧ Below w.heap.size w w' := by
  have HB := Lib.hid ((Below.refl w.heap.size w).alloc (Nat.le_refl _) (.cells #[.int .i64 2, .int .i64 n, .string (S t), .slice p kk c] 24))
  have HE := Lib.hid (show opE 2 n t vs = (⟨3, 0, t, []⟩, 0) from rfl)
  rw [HE.out]
  go_enter Tryz.func57, Tryz.ntmps57
  go_wp2_with fail
  exact bodyPost_ret (v := .agg #[.int .i64 3, .int .i64 0, .string (S t), .slice none 0 0]) (by simp [results, Tryz.results57, go_sem]) rfl ⟨.inl ⟨rfl, none, 0, rfl, fr_nil _ _⟩, HB.out.alloc (by simp) _⟩
theorem node_3 (n : Int) (t : List UInt8) (p : Option Addr) (kk c : Nat) (vs : List V) (a : Option Addr) (k cap : Nat) (w : World) :
    Calls Tryz.prog 57 #[.agg #[.int .i64 3, .int .i64 n, .string (S t), .slice p kk c], .slice a k cap] w fun e w' => CameF w.heap.size (opE 3 n t vs) e w' ∧ Below w.heap.size w w' := by
  have HB := Lib.hid ((Below.refl w.heap.size w).alloc (Nat.le_refl _) (.cells #[.int .i64 3, .int .i64 n, .string (S t), .slice p kk c] 24))
  have HE := Lib.hid (show opE 3 n t vs = (⟨2, n, [], []⟩, 0) from rfl)
  rw [HE.out]
  go_enter Tryz.func57, Tryz.ntmps57
  go_wp2_with fail
  exact bodyPost_ret (v := .agg #[.int .i64 2, .int .i64 n, .string ⟨#[]⟩, .slice none 0 0]) (by simp [results, Tryz.results57, go_sem]) rfl ⟨.inl ⟨rfl, none, 0, rfl, fr_nil _ _⟩, HB.out.alloc (by simp) _⟩
theorem node_4 (n : Int) (t : List UInt8) (p : Option Addr) (kk c : Nat) (vs : List V) (a : Option Addr) (k cap : Nat) (w : World) :
    Calls Tryz.prog 57 #[.agg #[.int .i64 4, .int .i64 n, .string (S t), .slice p kk c], .slice a k cap] w fun e w' => CameF w.heap.size (opE 4 n t vs) e w' ∧ Below w.heap.size w w' := by
  have HB := Lib.hid ((Below.refl w.heap.size w).alloc (Nat.le_refl _) (.cells #[.int .i64 4, .int .i64 n, .string (S t), .slice p kk c] 24))
  have HE := Lib.hid (show opE 4 n t vs = (⟨4, 0, t, []⟩, 0) from rfl)
  rw [HE.out]
  go_enter Tryz.func57, Tryz.ntmps57
  go_wp2_with fail
  exact bodyPost_ret (v := .agg #[.int .i64 4, .int .i64 0, .string (S t), .slice none 0 0]) (by simp [results, Tryz.results57, go_sem]) rfl ⟨.inl ⟨rfl, none, 0, rfl, fr_nil _ _⟩, HB.out.alloc (by simp) _⟩
theorem op_10 (n : Int) (t : List UInt8) (x : V) (hg : Good x) : (x.kind = 2 ∧ opE 10 n t [x] = (boolV (!(x.num == 1)), 0)) ∨ (x.kind ≠ 2 ∧ opE 10 n t [x] = (zeroV, 23)) := by
  unfold opE argV allV
  by_cases hk : x.kind = 2
  · have hn : x.num = 0 ∨ x.num = 1 := by
      have := hg.bool hk
      rw [this]; unfold boolV; simp only; split <;> simp
    refine .inl ⟨hk, ?_⟩
    rcases hn with hn | hn <;> simp [hk, hn]
  · refine .inr ⟨hk, ?_⟩
    simp [hk]
theorem boolV_list (b : Bool) : (boolV b).list = [] := rfl
theorem node_10 (n : Int) (t : List UInt8) (p : Option Addr) (kk c : Nat) (x : V) (hg : Good x) (a : Option Addr) (cap : Nat) (w : World) (hx : ValsAt w a [x]) :
    Calls Tryz.prog 57 #[.agg #[.int .i64 10, .int .i64 n, .string (S t), .slice p kk c], .slice a 1 cap] w fun e w' => CameF w.heap.size (opE 10 n t [x]) e w' ∧ Below w.heap.size w w' := by
  have hb := ((Below.refl w.heap.size w).alloc (Nat.le_refl _) (.cells #[.int .i64 10, .int .i64 n, .string (S t), .slice p kk c] 24)).alloc (by simp) (.cells #[.int .i64 0, .int .i64 0, .string ⟨#[]⟩, .slice none 0 0] 52)
  have HV := Lib.hid (VB.new (w.alloc (.cells #[.int .i64 10, .int .i64 n, .string (S t), .slice p kk c] 24)) (.int .i64 0) (.int .i64 0) (.string ⟨#[]⟩) (.slice none 0 0) (w.heap.size + 1) (by simp))
  have HX := Lib.hid (Bx.keep (Bx.new w (.int .i64 10) (.int .i64 n) (.string (S t)) (.slice p kk c)) (Kept.alloc (ok := fun _ => True) _ (.cells #[.int .i64 0, .int .i64 0, .string ⟨#[]⟩, .slice none 0 0] 52)) trivial)
  obtain ⟨b, o, rfl, ⟨q, cc, h0, h1, h2, h3, hn⟩, hl⟩ := hx.below hb 0 (by simp)
  simp only [List.getElem_cons_zero, Nat.zero_mul, Nat.add_zero] at h0 h1 h2 h3 hn
  have HB := Lib.hid hb
  have hop := op_10 n t x hg
  generalize opE 10 n t [x] = R at *
  obtain ⟨xk, xn, xt, xl⟩ := x
  simp only at h0 h1 h2 h3 hop
  have HS := Lib.hid (fun W => truth_any xk xn xt q xl.length cc W)
  unfold vA at HS
  clear hb hg hx hn
  generalize xl.length = ln at *
  rcases hop with ⟨rfl, rfl⟩ | ⟨hk, rfl⟩
  · simp only [if_true] at HS
    generalize hbb : (xn == 1) = bb at *
    have HBO := Lib.hid (fun W => boolean_any (!bb) W)
    have hbl := boolV_list (!bb)
    generalize boolV (!bb) = bv at *
    obtain ⟨vk, vn, vt, vl⟩ := bv
    simp only at hbl
    subst hbl
    unfold valC at HBO
    simp only [List.length_nil] at HBO
    clear hbb
    go_enter Tryz.func57, Tryz.ntmps57
    go_wp2_with fail
    refine (HS.out _).mono ?_
    rintro e w2 ⟨rfl, b2⟩
    have HB2 := Lib.hid (HB.out.trans (b2.mono HB.out.size))
    have HV2 := Lib.hid (HV.out.later b2)
    clear b2
    go_wp2_with fail
    refine (HBO.out _).mono ?_
    rintro e w3 ⟨rfl, b3⟩
    have hnb := HV2.out.later b3
    have fz := hnb.fz
    have k0 := hnb.c0
    have k1 := hnb.c1
    have k2 := hnb.c2
    have k3 := hnb.c3
    have HP := Lib.hid (hnb.put (.int .i64 vk) (.int .i64 vn) (.string (S vt)) (.slice none 0 0))
    have HBE := Lib.hid (below_put (HB2.out.trans (b3.mono HB2.out.size)) (w.heap.size + 1) (by omega) (.int .i64 vk) (.int .i64 vn) (.string (S vt)) (.slice none 0 0))
    clear hnb
    go_wp2_with fail
    exact bodyPost_ret (res_val rfl _ _ _ _ _ _ _ rfl HP.out) rfl ⟨.inl ⟨rfl, none, 0, rfl, fr_nil _ _⟩, HBE.out⟩
  · simp only [if_neg hk] at HS
    go_enter Tryz.func57, Tryz.ntmps57
    go_wp2_with fail
    refine (HS.out _).mono ?_
    rintro e w2 ⟨rfl, b2⟩
    have HB2 := Lib.hid (HB.out.trans (b2.mono HB.out.size))
    clear b2
    unfold panE
    go_wp2_with fail
    exact ⟨rfl, .inr ⟨by decide, rfl⟩, HB2.out⟩
theorem same_ord (x y : V) : sameV x y = (ordV x y == 0) := by
  rw [Bool.eq_iff_iff, sameV_iff, beq_iff_eq, ordV_zero]
theorem op_cmp (o n : Int) (t : List UInt8) (x y : V) (ho : o = 30 ∨ o = 31 ∨ o = 32 ∨ o = 33) : (∃ b, opE o n t [x, y] = (boolV b, 0) ∧ cmpE o x.kind y.kind (sameV x y) (ordV x y) = .returned (.bool b)) ∨ (opE o n t [x, y] = (zeroV, 23) ∧ cmpE o x.kind y.kind (sameV x y) (ordV x y) = panE 23) := by
  rw [same_ord]
  unfold opE argV allV cmpE
  simp only [List.getD_cons_zero, List.getD_cons_succ, List.all_cons, List.all_nil, Bool.and_true, Bool.and_eq_true, beq_iff_eq]
  rcases ho with rfl | rfl | rfl | rfl
  · by_cases hk : x.kind = y.kind
    · exact .inl ⟨_, by simp [hk]; rfl, by simp [hk]⟩
    · exact .inr ⟨by simp [hk], by simp [hk]⟩
  · by_cases hk : x.kind = y.kind
    · refine .inl ⟨_, by simp [hk]; rfl, ?_⟩
      simp [hk]
    · exact .inr ⟨by simp [hk], by simp [hk]⟩
  · by_cases hk : x.kind = y.kind
    · by_cases h1 : y.kind = 1 ∨ y.kind = 3
      · refine .inl ⟨_, by simp [hk, h1]; rfl, ?_⟩
        simp [hk, h1]
      · refine .inr ⟨by simp [hk, h1], by simp [hk, h1]⟩
    · refine .inr ⟨?_, by simp [hk]⟩
      have : ¬ ((x.kind = 1 ∧ y.kind = 1) ∨ (x.kind = 3 ∧ y.kind = 3)) := by omega
      simp [this]
  · by_cases hk : x.kind = y.kind
    · by_cases h1 : y.kind = 1 ∨ y.kind = 3
      · refine .inl ⟨_, by simp [hk, h1]; rfl, ?_⟩
        simp [hk, h1]
        rw [Bool.eq_iff_iff]; simp; omega
      · refine .inr ⟨by simp [hk, h1], by simp [hk, h1]⟩
    · refine .inr ⟨?_, by simp [hk]⟩
      have : ¬ ((x.kind = 1 ∧ y.kind = 1) ∨ (x.kind = 3 ∧ y.kind = 3)) := by omega
      simp [this]
theorem node_cmp (op n : Int) (ho : op = 30 ∨ op = 31 ∨ op = 32 ∨ op = 33) (t : List UInt8) (p : Option Addr) (kk c : Nat) (x y : V) (okx : VOk x) (oky : VOk y) (a : Option Addr) (cap : Nat) (w : World) (hx : ValsAt w a [x, y]) :
    Calls Tryz.prog 57 #[.agg #[.int .i64 op, .int .i64 n, .string (S t), .slice p kk c], .slice a 2 cap] w fun e w' => CameF w.heap.size (opE op n t [x, y]) e w' ∧ Below w.heap.size w w' := by
  have hb := ((Below.refl w.heap.size w).alloc (Nat.le_refl _) (.cells #[.int .i64 op, .int .i64 n, .string (S t), .slice p kk c] 24)).alloc (by simp) (.cells #[.int .i64 0, .int .i64 0, .string ⟨#[]⟩, .slice none 0 0] 52)
  have HV := Lib.hid (VB.new (w.alloc (.cells #[.int .i64 op, .int .i64 n, .string (S t), .slice p kk c] 24)) (.int .i64 0) (.int .i64 0) (.string ⟨#[]⟩) (.slice none 0 0) (w.heap.size + 1) (by simp))
  have HX := Lib.hid (Bx.keep (Bx.new w (.int .i64 op) (.int .i64 n) (.string (S t)) (.slice p kk c)) (Kept.alloc (ok := fun _ => True) _ (.cells #[.int .i64 0, .int .i64 0, .string ⟨#[]⟩, .slice none 0 0] 52)) trivial)
  have hxb := hx.below hb
  obtain ⟨b, o, rfl, ⟨q, cc, h0, h1, h2, h3, hn⟩, hl⟩ := hxb 0 (by simp)
  obtain ⟨b', o', e', ⟨q2, cc2, g0, g1, g2, g3, hn2⟩, hl2⟩ := hxb 1 (by simp)
  injection e' with e'
  injection e' with e1 e2 _
  subst e1 e2
  simp only [List.getElem_cons_zero, List.getElem_cons_succ, Nat.zero_mul, Nat.add_zero, Nat.one_mul] at h0 h1 h2 h3 hn g0 g1 g2 g3 hn2
  clear hxb
  have HB := Lib.hid hb
  have hop := op_cmp op n t x y ho
  have HS := Lib.hid (fun (W : World) (k : Below ((w.alloc (.cells #[.int .i64 op, .int .i64 n, .string (S t), .slice p kk c] 24)).alloc (.cells #[.int .i64 0, .int .i64 0, .string ⟨#[]⟩, .slice none 0 0] 52)).heap.size ((w.alloc (.cells #[.int .i64 op, .int .i64 n, .string (S t), .slice p kk c] 24)).alloc (.cells #[.int .i64 0, .int .i64 0, .string ⟨#[]⟩, .slice none 0 0] 52)) W) => compare_any op x y okx oky q q2 cc cc2 W (hn.below k) (hn2.below k))
  generalize opE op n t [x, y] = R at *
  generalize cmpE op x.kind y.kind (sameV x y) (ordV x y) = E at *
  clear hb hx hn hn2 okx oky
  obtain ⟨xk, xn, xt, xl⟩ := x
  obtain ⟨yk, yn, yt, yl⟩ := y
  unfold valC at HS
  simp only at h0 h1 h2 h3 g0 g1 g2 g3 HS
  generalize xl.length = ln at *
  generalize yl.length = ln2 at *
  rcases hop with ⟨bb, rfl, rfl⟩ | ⟨rfl, rfl⟩
  · have HBO := Lib.hid (fun W => boolean_any bb W)
    have hbl := boolV_list bb
    generalize boolV bb = bv at *
    obtain ⟨vk, vn, vt, vl⟩ := bv
    simp only at hbl
    subst hbl
    unfold valC at HBO
    simp only [List.length_nil] at HBO
    rcases ho with rfl | rfl | rfl | rfl
    all_goals
      go_enter Tryz.func57, Tryz.ntmps57
      go_wp2_with fail
      go_region_law (first
        | (go_simp; go_at_call 93; refine (HS.out _ (by first | exact Below.refl _ _ | exact (Below.refl _ _).drew)).mono ?_; rintro e w2 ⟨rfl, b2⟩)
        | (go_simp; go_at_call 92; refine (HBO.out _).mono ?_; rintro e w3 ⟨rfl, b3⟩; have hnb := ((VB.later HV.out (Below.refl _ _).drew).later b2).later b3; have fz := hnb.fz; have k0 := hnb.c0; have k1 := hnb.c1; have k2 := hnb.c2; have k3 := hnb.c3))
      all_goals
        have HB2 := Lib.hid (HB.out.drew.trans (b2.mono HB.out.size))
        have HP := Lib.hid (hnb.put (.int .i64 vk) (.int .i64 vn) (.string (S vt)) (.slice none 0 0))
        have HBE := Lib.hid (below_put (HB2.out.trans (b3.mono HB2.out.size)) (w.heap.size + 1) (by omega) (.int .i64 vk) (.int .i64 vn) (.string (S vt)) (.slice none 0 0))
        clear hnb
        go_wp2_with fail
        exact bodyPost_ret (res_val rfl _ _ _ _ _ _ _ rfl HP.out) rfl ⟨.inl ⟨rfl, none, 0, rfl, fr_nil _ _⟩, HBE.out⟩
  · rcases ho with rfl | rfl | rfl | rfl
    all_goals
      go_enter Tryz.func57, Tryz.ntmps57
      go_wp2_with fail
      go_region_dies
      all_goals
        refine (HS.out _ (by first | exact Below.refl _ _ | exact (Below.refl _ _).drew)).mono ?_
        rintro e w2 ⟨rfl, b2⟩
        unfold panE
        go_wp2_with fail
        exact ⟨rfl, .inr ⟨by decide, rfl⟩, HB.out.drew.trans (b2.mono HB.out.size)⟩
end Go.Proofs.YtlmmfhbdebfgkaaGreatDoor.Ev
