/-
  ExPsA.
-/
import Derived.Test.YtlmmfhbdebfgkaaGreatDoorZLxBackQ
import Derived.Test.YtlmmfhbdebfgkaaGreatDoorZExRdgQ
import Derived.Test.YtlmmfhbdebfgkaaGreatDoorZExConsQ
import Derived.Test.YtlmmfhbdebfgkaaGreatDoorZVlName
import Derived.WalkLawsBesides
import Derived.Deep.DeepCutAuto
namespace Go.Proofs.YtlmmfhbdebfgkaaGreatDoor.Ex
open Go.RowKit
open Lx Va
set_option linter.unusedVariables false
set_option linter.unusedSimpArgs false
def Psr (w : World) (b g cap len : Nat) (a n o : Int) : Prop :=
  w.heap[b]? = some (.cells #[.slice (some ⟨g, 0, none⟩) len cap, .int .i64 a, .int .i64 n, .int .i64 o] 117 (0, 0))
section
variable {w w' : World} {b g cap len : Nat} {a n o : Int}
theorem Psr.c0 (h : Psr w b g cap len a n o) : w.cell? ⟨b, 0, none⟩ = some (.slice (some ⟨g, 0, none⟩) len cap) := cell_of_row w b 0 _ _ (0, 0) h
theorem Psr.c1 (h : Psr w b g cap len a n o) : w.cell? ⟨b, 1, none⟩ = some (.int .i64 a) := cell_of_row w b 1 _ _ (0, 0) h
theorem Psr.c2 (h : Psr w b g cap len a n o) : w.cell? ⟨b, 2, none⟩ = some (.int .i64 n) := cell_of_row w b 2 _ _ (0, 0) h
theorem Psr.c3 (h : Psr w b g cap len a n o) : w.cell? ⟨b, 3, none⟩ = some (.int .i64 o) := cell_of_row w b 3 _ _ (0, 0) h
theorem Psr.fz (h : Psr w b g cap len a n o) (j : Nat) : w.frozen? ⟨b, j, none⟩ = false := frozen_of_row w b j _ _ h
theorem Psr.lt (h : Psr w b g cap len a n o) : b < w.heap.size := World.block_lt_of_cell? w _ h.c0
theorem Psr.set1 (h : Psr w b g cap len a n o) (v : Int) : Psr (w.setCell ⟨b, 1, none⟩ (.int .i64 v)) b g cap len v n o := heap_setCell_same w b 1 _ _ _ h
theorem Psr.set2 (h : Psr w b g cap len a n o) (v : Int) : Psr (w.setCell ⟨b, 2, none⟩ (.int .i64 v)) b g cap len a v o := heap_setCell_same w b 2 _ _ _ h
theorem Psr.set3 (h : Psr w b g cap len a n o) (v : Int) : Psr (w.setCell ⟨b, 3, none⟩ (.int .i64 v)) b g cap len a n v := heap_setCell_same w b 3 _ _ _ h
theorem Psr.keep {ok : Nat → Prop} (h : Psr w b g cap len a n o) (k : Kept ok w w') (hb : ok b) : Psr w' b g cap len a n o := (k.block b hb h.lt).trans h
theorem Psr.below (h : Psr w b g cap len a n o) (k : Below w.heap.size w w') : Psr w' b g cap len a n o := (k.block b h.lt).trans h
end
def panS (a k : Int) : Ending := .panicked [{ v := .iface 114 (.agg #[.int .i64 a, .int .i64 k]), recovered := false }]
def tokC (t : TA) : Value := .agg #[.int .i64 t.kind, .string (S t.text), .int .i64 t.num, .int .i64 (t.at_ : Int)]
theorem res_tok {fn : Func} {p : Tmp} (h : fn.results = #[.cell p 79]) (tmps : Array Value) (w : World) (g : Nat) (a b c d : Value)
    (hp : tmps.getD p undef = .pointer (some ⟨g, 0, none⟩)) (hg : w.heap[g]? = some (.cells #[a, b, c, d] 79 (0, 0))) : (results fn tmps).run Tryz.prog w = .ok (.agg #[a, b, c, d]) w :=
  results_cell_row h tmps w g _ _ _ _ hp hg Tryz.underlying79 rfl (by kernel_rfl)
theorem res_stop {fn : Func} {p : Tmp} (h : fn.results = #[.cell p 114]) (tmps : Array Value) (w : World) (g : Nat) (a b : Value)
    (hp : tmps.getD p undef = .pointer (some ⟨g, 0, none⟩)) (hg : w.heap[g]? = some (.cells #[a, b] 114 (0, 0))) : (results fn tmps).run Tryz.prog w = .ok (.agg #[a, b]) w :=
  results_cell_row h tmps w g _ _ _ _ hp hg Tryz.underlying114 rfl (by kernel_rfl)
theorem nameS_len {s : List UInt8} (h : nameB s = true) : s.length ≤ 24 := by
  cases s with
  | nil => simp
  | cons c r => simp [nameB] at h; simp; omega
theorem below4 {B : Nat} {w w' : World} (h : Below B w w') (H : Nat) (hH : B ≤ H) (x y z u : Value) : Below B w (put4 w' H x y z u) :=
  (((h.setCell (p := ⟨H, 0, none⟩) hH x).setCell (p := ⟨H, 1, none⟩) hH y).setCell (p := ⟨H, 2, none⟩) hH z).setCell (p := ⟨H, 3, none⟩) hH u
theorem laterB {w w' : World} {H : Nat} {a b c d : Value} (h : Bx w H a b c d) (k : Below w.heap.size w w') : Bx w' H a b c d := (k.block H h.lt).trans h
theorem put4_row {w : World} {H : Nat} {a b c d : Value} {t : TypeId} (h : w.heap[H]? = some (.cells #[a, b, c, d] t (0, 0))) (a' b' c' d' : Value) : (put4 w H a' b' c' d').heap[H]? = some (.cells #[a', b', c', d'] t (0, 0)) :=
  heap_setCell_same _ H 3 _ _ _ (heap_setCell_same _ H 2 _ _ _ (heap_setCell_same _ H 1 _ _ _ (heap_setCell_same w H 0 _ _ _ h)))
set_option maxRecDepth 100000 in
set_option maxHeartbeats 2000000 in
theorem scanned_any (t : TA) (h : TokS t) (w : World) :
    Calls Tryz.prog 170 #[tokC t] w fun e w' => e = .returned (.bool true) ∧ Below w.heap.size w w' := by
  unfold tokC
  obtain ⟨k, x, m, q⟩ := t
  have hb := (Below.refl w.heap.size w).alloc (Nat.le_refl _) (.cells #[.int .i64 k, .string (S x), .int .i64 m, .int .i64 (q : Int)] 79)
  have HB := Lib.hid hb
  clear hb
  simp only
  by_cases h1 : k = 1
  · have hx := h.name (.inl h1)
    have hl : x.length ≤ 24 := nameS_len hx
    have HN := Lib.hid (fun W => Name_any (S x) (by rw [S_size]; omega) W)
    have HX := Lib.hid hx
    subst h1
    clear h hx
    go_enter Tryz.func170, Tryz.ntmps170
    go_wp2_with fail
    refine (HN.out _).mono ?_
    rintro e w1 ⟨rfl, b1⟩
    have HB1 := Lib.hid (HB.out.trans (b1.mono HB.out.size))
    have hx2 : nameB (S x).data.toList = true := HX.out
    rw [hx2]
    clear b1 hx2
    go_wp2_with fail
    go_ret
    exact ⟨rfl, HB1.out⟩
  by_cases h4 : k = 4
  · have hx := h.name (.inr h4)
    have hl : x.length ≤ 24 := nameS_len hx
    have HN := Lib.hid (fun W => Name_any (S x) (by rw [S_size]; omega) W)
    have HX := Lib.hid hx
    subst h4
    clear h hx
    go_enter Tryz.func170, Tryz.ntmps170
    go_wp2_with fail
    refine (HN.out _).mono ?_
    rintro e w1 ⟨rfl, b1⟩
    have HB1 := Lib.hid (HB.out.trans (b1.mono HB.out.size))
    have hx2 : nameB (S x).data.toList = true := HX.out
    rw [hx2]
    clear b1 hx2
    go_wp2_with fail
    go_ret
    exact ⟨rfl, HB1.out⟩
  have e1 : (k == 1) = false := by simpa using h1
  have e4 : (k == 4) = false := by simpa using h4
  by_cases h2 : k = 2
  · have hm := h.num h2
    simp only at hm
    subst h2
    clear h
    go_enter Tryz.func170, Tryz.ntmps170
    go_wp2_with fail
    go_ret
    exact ⟨rfl, HB.out⟩
  have e2 : (k == 2) = false := by simpa using h2
  by_cases h3 : k = 3
  · have hm := h.text h3
    simp only at hm
    have hs : (S x).size = x.length := S_size x
    have hsi : ((S x).size : Int) ≤ 64 := by omega
    clear hs hm
    subst h3
    clear h
    go_enter Tryz.func170, Tryz.ntmps170
    go_wp2_with fail
    go_ret
    exact ⟨rfl, HB.out⟩
  have e3 : (k == 3) = false := by simpa using h3
  clear h
  go_enter Tryz.func170, Tryz.ntmps170
  go_wp2_with fail
  go_ret
  exact ⟨rfl, HB.out⟩
set_option maxRecDepth 100000 in
set_option maxHeartbeats 4000000 in
theorem phere_any (b g cap a : Nat) (n o : Int) (ts : List TA) (w : World) (h : Psr w b g cap ts.length a n o) (ht : TsAt w g ts) (ha : a < ts.length) (hn : ts.length ≤ 8001) (hk : TokS (tk ts a)) :
    Calls Tryz.prog 130 #[.pointer (some ⟨b, 0, none⟩)] w fun e w' => e = .returned (tokC (tk ts a)) ∧ Below w.heap.size w w' := by
  obtain ⟨t0, t1, t2, t3⟩ := ht.tok ha
  have HSC := Lib.hid (fun W => scanned_any (tk ts a) hk W)
  have c0 := h.c0
  have c1 := h.c1
  have hlt := h.lt
  have hgl := ht.lt
  have hai : (a : Int) < (ts.length : Int) := by omega
  have hni : (ts.length : Int) ≤ 8001 := by omega
  have zb : ∀ o j, (w.alloc o).cell? ⟨b, j, none⟩ = w.cell? ⟨b, j, none⟩ := fun o j => Kept.cell (Kept.alloc (ok := fun _ => True) w o) trivial hlt
  have zg : ∀ o j, (w.alloc o).cell? ⟨g, j, none⟩ = w.cell? ⟨g, j, none⟩ := fun o j => Kept.cell (Kept.alloc (ok := fun _ => True) w o) trivial hgl
  unfold tokC at *
  clear h ht hk
  generalize tk ts a = t at *
  obtain ⟨k, x, m, q⟩ := t
  simp only at t0 t1 t2 t3 HSC ⊢
  have hb := ((Below.refl w.heap.size w).alloc (Nat.le_refl _) (.cells #[.int .i64 0, .string ⟨#[]⟩, .int .i64 0, .int .i64 0] 79)).alloc (by simp) (.cells #[.int .i64 k, .string (S x), .int .i64 m, .int .i64 (q : Int)] 79)
  have HB := Lib.hid hb
  have HR0 := Lib.hid (show ((w.alloc (.cells #[.int .i64 0, .string ⟨#[]⟩, .int .i64 0, .int .i64 0] 79)).alloc (.cells #[.int .i64 k, .string (S x), .int .i64 m, .int .i64 (q : Int)] 79)).heap[w.heap.size]? = some (.cells #[.int .i64 0, .string ⟨#[]⟩, .int .i64 0, .int .i64 0] 79 (0, 0)) from (((Below.refl _ _).alloc (Nat.le_refl _) _).block _ (by simp)).trans (heap_alloc_new w _))
  have HT0 := Lib.hid (show ((w.alloc (.cells #[.int .i64 0, .string ⟨#[]⟩, .int .i64 0, .int .i64 0] 79)).alloc (.cells #[.int .i64 k, .string (S x), .int .i64 m, .int .i64 (q : Int)] 79)).heap[w.heap.size + 1]? = some (.cells #[.int .i64 k, .string (S x), .int .i64 m, .int .i64 (q : Int)] 79 (0, 0)) from new_box _ _ _ _ (by simp))
  clear hb
  have HP := Lib.hid (show Below w.heap.size w ((w.alloc (.cells #[.int .i64 0, .string ⟨#[]⟩, .int .i64 0, .int .i64 0] 79)).alloc (.cells #[.int .i64 k, .string (S x), .int .i64 m, .int .i64 (q : Int)] 79)).drew ∧ ((w.alloc (.cells #[.int .i64 0, .string ⟨#[]⟩, .int .i64 0, .int .i64 0] 79)).alloc (.cells #[.int .i64 k, .string (S x), .int .i64 m, .int .i64 (q : Int)] 79)).drew.heap[w.heap.size]? = some (.cells #[.int .i64 0, .string ⟨#[]⟩, .int .i64 0, .int .i64 0] 79 (0, 0)) ∧ ((w.alloc (.cells #[.int .i64 0, .string ⟨#[]⟩, .int .i64 0, .int .i64 0] 79)).alloc (.cells #[.int .i64 k, .string (S x), .int .i64 m, .int .i64 (q : Int)] 79)).drew.heap[w.heap.size + 1]? = some (.cells #[.int .i64 k, .string (S x), .int .i64 m, .int .i64 (q : Int)] 79 (0, 0)) from ⟨HB.out.drew, HR0.out, HT0.out⟩)
  clear HB HR0 HT0
  go_enter Tryz.func130, Tryz.ntmps130
  go_upto_region 1 with fail
  go_cut [3] (fun x3 wx => x3 = .pointer (some ⟨w.heap.size + 1, 0, none⟩) ∧ Below w.heap.size w wx ∧ wx.heap[w.heap.size]? = some (.cells #[.int .i64 0, .string ⟨#[]⟩, .int .i64 0, .int .i64 0] 79 (0, 0)) ∧ wx.heap[w.heap.size + 1]? = some (.cells #[.int .i64 k, .string (S x), .int .i64 m, .int .i64 (q : Int)] 79 (0, 0)))
  case first =>
    go_region_with (fail)
    all_goals
      go_wp2_with fail
      go_meet
      exact ⟨rfl, HP.out⟩
  case rest =>
    obtain ⟨rfl, hbx, hr, ht⟩ := hcut
    have q0 := cell_of_row _ (w.heap.size + 1) 0 _ _ (0, 0) ht
    have q1 := cell_of_row _ (w.heap.size + 1) 1 _ _ (0, 0) ht
    have q2 := cell_of_row _ (w.heap.size + 1) 2 _ _ (0, 0) ht
    have q3 := cell_of_row _ (w.heap.size + 1) 3 _ _ (0, 0) ht
    have HR := Lib.hid hr
    have HT := Lib.hid ht
    have HBX := Lib.hid hbx
    clear hr ht hbx HP c0 c1 t0 t1 t2 t3 zb zg
    go_wp2_with fail
    refine (HSC.out _).mono ?_
    rintro e w1 ⟨rfl, b1⟩
    have hr1 := (b1.block w.heap.size (Array.getElem?_eq_some_iff.1 HR.out).1).trans HR.out
    have ht1 := (b1.block (w.heap.size + 1) (Array.getElem?_eq_some_iff.1 HT.out).1).trans HT.out
    have HB1 := Lib.hid (HBX.out.trans (b1.mono HBX.out.size))
    have p0 := cell_of_row w1 w.heap.size 0 _ _ (0, 0) hr1
    have p1 := cell_of_row w1 w.heap.size 1 _ _ (0, 0) hr1
    have p2 := cell_of_row w1 w.heap.size 2 _ _ (0, 0) hr1
    have p3 := cell_of_row w1 w.heap.size 3 _ _ (0, 0) hr1
    have fz : ∀ j, w1.frozen? ⟨w.heap.size, j, none⟩ = false := fun j => frozen_of_row w1 w.heap.size j _ _ hr1
    have k0 := cell_of_row w1 (w.heap.size + 1) 0 _ _ (0, 0) ht1
    have k1 := cell_of_row w1 (w.heap.size + 1) 1 _ _ (0, 0) ht1
    have k2 := cell_of_row w1 (w.heap.size + 1) 2 _ _ (0, 0) ht1
    have k3 := cell_of_row w1 (w.heap.size + 1) 3 _ _ (0, 0) ht1
    have HXF := Lib.hid (put4_row hr1 (.int .i64 k) (.string (S x)) (.int .i64 m) (.int .i64 (q : Int)))
    have HBF := Lib.hid (below4 HB1.out w.heap.size (Nat.le_refl _) (.int .i64 k) (.string (S x)) (.int .i64 m) (.int .i64 (q : Int)))
    clear b1 hr1 ht1 q0 q1 q2 q3
    go_wp2_with fail
    refine bodyPost_ret (res_tok rfl _ _ w.heap.size _ _ _ _ rfl HXF.out) rfl ?_
    exact ⟨rfl, HBF.out⟩
set_option maxRecDepth 100000 in
set_option maxHeartbeats 2000000 in
theorem pis_any (b g cap a : Nat) (n o : Int) (ts : List TA) (s : ByteArray) (w : World) (h : Psr w b g cap ts.length a n o) (ht : TsAt w g ts) (ha : a < ts.length) (hn : ts.length ≤ 8001) (hk : TokS (tk ts a)) :
    Calls Tryz.prog 167 #[.pointer (some ⟨b, 0, none⟩), .string s] w fun e w' => e = .returned (.bool (isS ts a s.data.toList)) ∧ Below w.heap.size w w' := by
  have HH := Lib.hid (phere_any b g cap a n o ts w h ht ha hn hk)
  clear h ht hk ha hn
  unfold isS
  unfold tokC at *
  generalize tk ts a = t at *
  obtain ⟨k, x, m, q⟩ := t
  simp only at HH ⊢
  have e1 : ((S x).toList == s.toList) = (x == s.data.toList) := by rw [ByteArray.toList_eq, ByteArray.toList_eq, S_toList]
  by_cases hk : k = 5
  · subst hk
    cases hx : (x == s.data.toList) with
    | true =>
      rw [hx] at e1
      clear hx
      go_enter Tryz.func167, Tryz.ntmps167
      go_wp2_with fail
      refine HH.out.mono ?_
      rintro e w1 ⟨rfl, b1⟩
      have HB := Lib.hid (b1.alloc b1.size (.cells #[.int .i64 5, .string (S x), .int .i64 m, .int .i64 (q : Int)] 79))
      clear b1
      go_wp2_with fail
      go_ret
      exact ⟨rfl, HB.out⟩
    | false =>
      rw [hx] at e1
      clear hx
      go_enter Tryz.func167, Tryz.ntmps167
      go_wp2_with fail
      refine HH.out.mono ?_
      rintro e w1 ⟨rfl, b1⟩
      have HB := Lib.hid (b1.alloc b1.size (.cells #[.int .i64 5, .string (S x), .int .i64 m, .int .i64 (q : Int)] 79))
      clear b1
      go_wp2_with fail
      go_ret
      exact ⟨rfl, HB.out⟩
  · have hk2 : (k == 5) = false := by simpa using hk
    rw [hk2, Bool.false_and]
    clear e1
    go_enter Tryz.func167, Tryz.ntmps167
    go_wp2_with fail
    refine HH.out.mono ?_
    rintro e w1 ⟨rfl, b1⟩
    have HB := Lib.hid (b1.alloc b1.size (.cells #[.int .i64 k, .string (S x), .int .i64 m, .int .i64 (q : Int)] 79))
    clear b1
    go_wp2_with fail
    go_ret
    exact ⟨rfl, HB.out⟩
set_option maxRecDepth 100000 in
set_option maxHeartbeats 2000000 in
theorem pwrong_any (b g cap len : Nat) (a n o k : Int) (w : World) (h : Psr w b g cap len a n o) :
    Calls Tryz.prog 132 #[.pointer (some ⟨b, 0, none⟩), .int .i64 k] w fun e w' => e = .returned (.agg #[.int .i64 a, .int .i64 k]) ∧ Below w.heap.size w w' := by
  have hb := (Below.refl w.heap.size w).alloc (Nat.le_refl _) (.cells #[.int .i64 a, .int .i64 k] 114)
  have c1 := h.c1
  have hlt := h.lt
  have zb : ∀ o j, (w.alloc o).cell? ⟨b, j, none⟩ = w.cell? ⟨b, j, none⟩ := fun o j => Kept.cell (Kept.alloc (ok := fun _ => True) w o) trivial hlt
  have HXF := Lib.hid (heap_alloc_new w (.cells #[.int .i64 a, .int .i64 k] 114))
  have HBF := Lib.hid hb
  clear hb h
  go_enter Tryz.func132, Tryz.ntmps132
  go_wp2_with fail
  refine bodyPost_ret (res_stop rfl _ _ w.heap.size _ _ rfl HXF.out) rfl ?_
  exact ⟨rfl, HBF.out⟩
end Go.Proofs.YtlmmfhbdebfgkaaGreatDoor.Ex
