/-
  ExPsA, ExPsB.
-/
import Derived.Test.YtlmmfhbdebfgkaaGreatDoorYLxBackQ
import Derived.Test.YtlmmfhbdebfgkaaGreatDoorYExRdgQ
import Derived.Test.YtlmmfhbdebfgkaaGreatDoorYExConsQ
import Derived.WalkLawsBesides
import Derived.Deep.DeepCutAuto
namespace Go.Proofs.YtlmmfhbdebfgkaaGreatDoor.Ex
open Go.RowKit
open Lx Va
set_option linter.unusedVariables false
set_option linter.unusedSimpArgs false
def Psr (w : World) (b g cap len : Nat) (a n o : Int) : Prop :=
  w.heap[b]? = some (.cells #[.slice (some ⟨g, 0, none⟩) len cap, .int .i64 a, .int .i64 n, .int .i64 o] 117 (0, 0))
section
variable {w w' : World} {b g cap len : Nat} {a n o : Int}
theorem Psr.c0 (h : Psr w b g cap len a n o) : w.cell? ⟨b, 0, none⟩ = some (.slice (some ⟨g, 0, none⟩) len cap) := cell_of_row w b 0 _ _ (0, 0) h
theorem Psr.c1 (h : Psr w b g cap len a n o) : w.cell? ⟨b, 1, none⟩ = some (.int .i64 a) := cell_of_row w b 1 _ _ (0, 0) h
theorem Psr.c2 (h : Psr w b g cap len a n o) : w.cell? ⟨b, 2, none⟩ = some (.int .i64 n) := cell_of_row w b 2 _ _ (0, 0) h
theorem Psr.c3 (h : Psr w b g cap len a n o) : w.cell? ⟨b, 3, none⟩ = some (.int .i64 o) := cell_of_row w b 3 _ _ (0, 0) h
theorem Psr.fz (h : Psr w b g cap len a n o) (j : Nat) : w.frozen? ⟨b, j, none⟩ = false := frozen_of_row w b j _ _ h
theorem Psr.lt (h : Psr w b g cap len a n o) : b < w.heap.size := World.block_lt_of_cell? w _ h.c0
theorem Psr.set1 (h : Psr w b g cap len a n o) (v : Int) : Psr (w.setCell ⟨b, 1, none⟩ (.int .i64 v)) b g cap len v n o := heap_setCell_same w b 1 _ _ _ h
theorem Psr.set2 (h : Psr w b g cap len a n o) (v : Int) : Psr (w.setCell ⟨b, 2, none⟩ (.int .i64 v)) b g cap len a v o := heap_setCell_same w b 2 _ _ _ h
theorem Psr.set3 (h : Psr w b g cap len a n o) (v : Int) : Psr (w.setCell ⟨b, 3, none⟩ (.int .i64 v)) b g cap len a n v := heap_setCell_same w b 3 _ _ _ h
theorem Psr.keep {ok : Nat → Prop} (h : Psr w b g cap len a n o) (k : Kept ok w w') (hb : ok b) : Psr w' b g cap len a n o := (k.block b hb h.lt).trans h
theorem Psr.below (h : Psr w b g cap len a n o) (k : Below w.heap.size w w') : Psr w' b g cap len a n o := (k.block b h.lt).trans h
end
def panS (a k : Int) : Ending := .panicked [{ v := .iface 114 (.agg #[.int .i64 a, .int .i64 k]), recovered := false }]
def tokC (t : TA) : Value := .agg #[.int .i64 t.kind, .string (S t.text), .int .i64 t.num, .int .i64 (t.at_ : Int)]
theorem res_tok {fn : Func} {p : Tmp} (h : fn.results = #[.cell p 79]) (tmps : Array Value) (w : World) (g : Nat) (a b c d : Value)
    (hp : tmps.getD p undef = .pointer (some ⟨g, 0, none⟩)) (hg : w.heap[g]? = some (.cells #[a, b, c, d] 79 (0, 0))) : (results fn tmps).run Tryz.prog w = .ok (.agg #[a, b, c, d]) w :=
  results_cell_row h tmps w g _ _ _ _ hp hg Tryz.underlying79 rfl (by kernel_rfl)
theorem res_stop {fn : Func} {p : Tmp} (h : fn.results = #[.cell p 114]) (tmps : Array Value) (w : World) (g : Nat) (a b : Value)
    (hp : tmps.getD p undef = .pointer (some ⟨g, 0, none⟩)) (hg : w.heap[g]? = some (.cells #[a, b] 114 (0, 0))) : (results fn tmps).run Tryz.prog w = .ok (.agg #[a, b]) w :=
  results_cell_row h tmps w g _ _ _ _ hp hg Tryz.underlying114 rfl (by kernel_rfl)
theorem nameS_len {s : List UInt8} (h : nameB s = true) : s.length ≤ 24 := by
  cases s with
  | nil => simp
  | cons c r => simp [nameB] at h; simp; omega
theorem below4 {B : Nat} {w w' : World} (h : Below B w w') (H : Nat) (hH : B ≤ H) (x y z u : Value) : Below B w (put4 w' H x y z u) :=
  (((h.setCell (p := ⟨H, 0, none⟩) hH x).setCell (p := ⟨H, 1, none⟩) hH y).setCell (p := ⟨H, 2, none⟩) hH z).setCell (p := ⟨H, 3, none⟩) hH u
theorem laterB {w w' : World} {H : Nat} {a b c d : Value} (h : Bx w H a b c d) (k : Below w.heap.size w w') : Bx w' H a b c d := (k.block H h.lt).trans h
theorem put4_row {w : World} {H : Nat} {a b c d : Value} {t : TypeId} (h : w.heap[H]? = some (.cells #[a, b, c, d] t (0, 0))) (a' b' c' d' : Value) : (put4 w H a' b' c' d').heap[H]? = some (.cells #[a', b', c', d'] t (0, 0)) :=
  heap_setCell_same _ H 3 _ _ _ (heap_setCell_same _ H 2 _ _ _ (heap_setCell_same _ H 1 _ _ _ (heap_setCell_same w H 0 _ _ _ h)))
set_option maxRecDepth 100000 in
set_option maxHeartbeats 2000000 in
theorem scanned_any (t : TA) (h : TokS t) (w : World) :
    Calls Tryz.prog 170 #[tokC t] w fun e w' => e = .returned (.bool true) ∧ Below w.heap.size w w' := by
  unfold tokC
  obtain ⟨k, x, m, q⟩ := t
  have hb := (Below.refl w.heap.size w).alloc (Nat.le_refl _) (.cells #[.int .i64 k, .string (S x), .int .i64 m, .int .i64 (q : Int)] 79)
  have HB := Lib.hid hb
  clear hb
  simp only
  by_cases h1 : k = 1
  · have hx := h.name (.inl h1)
    have hl : x.length ≤ 24 := nameS_len hx
    have HN := Lib.hid (fun W => Name_any (S x) (by rw [S_size]; omega) W)
    have HX := Lib.hid hx
    subst h1
    clear h hx
    go_enter Tryz.func170, Tryz.ntmps170
    go_wp2_with fail
    refine (HN.out _).mono ?_
    rintro e w1 ⟨rfl, b1⟩
    have HB1 := Lib.hid (HB.out.trans (b1.mono HB.out.size))
    have hx2 : nameB (S x).data.toList = true := HX.out
    rw [hx2]
    clear b1 hx2
    go_wp2_with fail
    go_ret
    exact ⟨rfl, HB1.out⟩
  by_cases h4 : k = 4
  · have hx := h.name (.inr h4)
    have hl : x.length ≤ 24 := nameS_len hx
    have HN := Lib.hid (fun W => Name_any (S x) (by rw [S_size]; omega) W)
    have HX := Lib.hid hx
    subst h4
    clear h hx
    go_enter Tryz.func170, Tryz.ntmps170
    go_wp2_with fail
    refine (HN.out _).mono ?_
    rintro e w1 ⟨rfl, b1⟩
    have HB1 := Lib.hid (HB.out.trans (b1.mono HB.out.size))
    have hx2 : nameB (S x).data.toList = true := HX.out
    rw [hx2]
    clear b1 hx2
    go_wp2_with fail
    go_ret
    exact ⟨rfl, HB1.out⟩
  have e1 : (k == 1) = false := by simpa using h1
  have e4 : (k == 4) = false := by simpa using h4
  by_cases h2 : k = 2
  · have hm := h.num h2
    simp only at hm
    subst h2
    clear h
    go_enter Tryz.func170, Tryz.ntmps170
    go_wp2_with fail
    go_ret
    exact ⟨rfl, HB.out⟩
  have e2 : (k == 2) = false := by simpa using h2
  by_cases h3 : k = 3
  · have hm := h.text h3
    simp only at hm
    have hs : (S x).size = x.length := S_size x
    have hsi : ((S x).size : Int) ≤ 64 := by omega
    clear hs hm
    subst h3
    clear h
    go_enter Tryz.func170, Tryz.ntmps170
    go_wp2_with fail
    go_ret
    exact ⟨rfl, HB.out⟩
  have e3 : (k == 3) = false := by simpa using h3
  clear h
  go_enter Tryz.func170, Tryz.ntmps170
  go_wp2_with fail
  go_ret
  exact ⟨rfl, HB.out⟩
set_option maxRecDepth 100000 in
set_option maxHeartbeats 4000000 in
theorem phere_any (b g cap a : Nat) (n o : Int) (ts : List TA) (w : World) (h : Psr w b g cap ts.length a n o) (ht : TsAt w g ts) (ha : a < ts.length) (hn : ts.length ≤ 8001) (hk : TokS (tk ts a)) :
    Calls Tryz.prog 130 #[.pointer (some ⟨b, 0, none⟩)] w fun e w' => e = .returned (tokC (tk ts a)) ∧ Below w.heap.size w w' := by
  obtain ⟨t0, t1, t2, t3⟩ := ht.tok ha
  have HSC := Lib.hid (fun W => scanned_any (tk ts a) hk W)
  have c0 := h.c0
  have c1 := h.c1
  have hlt := h.lt
  have hgl := ht.lt
  have hai : (a : Int) < (ts.length : Int) := by omega
  have hni : (ts.length : Int) ≤ 8001 := by omega
  have zb : ∀ o j, (w.alloc o).cell? ⟨b, j, none⟩ = w.cell? ⟨b, j, none⟩ := fun o j => Kept.cell (Kept.alloc (ok := fun _ => True) w o) trivial hlt
  have zg : ∀ o j, (w.alloc o).cell? ⟨g, j, none⟩ = w.cell? ⟨g, j, none⟩ := fun o j => Kept.cell (Kept.alloc (ok := fun _ => True) w o) trivial hgl
  unfold tokC at *
  clear h ht hk
  generalize tk ts a = t at *
  obtain ⟨k, x, m, q⟩ := t
  simp only at t0 t1 t2 t3 HSC ⊢
  have hb := ((Below.refl w.heap.size w).alloc (Nat.le_refl _) (.cells #[.int .i64 0, .string ⟨#[]⟩, .int .i64 0, .int .i64 0] 79)).alloc (by simp) (.cells #[.int .i64 k, .string (S x), .int .i64 m, .int .i64 (q : Int)] 79)
  have HB := Lib.hid hb
  have HR0 := Lib.hid (show ((w.alloc (.cells #[.int .i64 0, .string ⟨#[]⟩, .int .i64 0, .int .i64 0] 79)).alloc (.cells #[.int .i64 k, .string (S x), .int .i64 m, .int .i64 (q : Int)] 79)).heap[w.heap.size]? = some (.cells #[.int .i64 0, .string ⟨#[]⟩, .int .i64 0, .int .i64 0] 79 (0, 0)) from (((Below.refl _ _).alloc (Nat.le_refl _) _).block _ (by simp)).trans (heap_alloc_new w _))
  have HT0 := Lib.hid (show ((w.alloc (.cells #[.int .i64 0, .string ⟨#[]⟩, .int .i64 0, .int .i64 0] 79)).alloc (.cells #[.int .i64 k, .string (S x), .int .i64 m, .int .i64 (q : Int)] 79)).heap[w.heap.size + 1]? = some (.cells #[.int .i64 k, .string (S x), .int .i64 m, .int .i64 (q : Int)] 79 (0, 0)) from new_box _ _ _ _ (by simp))
  clear hb
  have HP := Lib.hid (show Below w.heap.size w ((w.alloc (.cells #[.int .i64 0, .string ⟨#[]⟩, .int .i64 0, .int .i64 0] 79)).alloc (.cells #[.int .i64 k, .string (S x), .int .i64 m, .int .i64 (q : Int)] 79)).drew ∧ ((w.alloc (.cells #[.int .i64 0, .string ⟨#[]⟩, .int .i64 0, .int .i64 0] 79)).alloc (.cells #[.int .i64 k, .string (S x), .int .i64 m, .int .i64 (q : Int)] 79)).drew.heap[w.heap.size]? = some (.cells #[.int .i64 0, .string ⟨#[]⟩, .int .i64 0, .int .i64 0] 79 (0, 0)) ∧ ((w.alloc (.cells #[.int .i64 0, .string ⟨#[]⟩, .int .i64 0, .int .i64 0] 79)).alloc (.cells #[.int .i64 k, .string (S x), .int .i64 m, .int .i64 (q : Int)] 79)).drew.heap[w.heap.size + 1]? = some (.cells #[.int .i64 k, .string (S x), .int .i64 m, .int .i64 (q : Int)] 79 (0, 0)) from ⟨HB.out.drew, HR0.out, HT0.out⟩)
  clear HB HR0 HT0
  go_enter Tryz.func130, Tryz.ntmps130
  go_upto_region 1 with fail
  go_cut [3] (fun x3 wx => x3 = .pointer (some ⟨w.heap.size + 1, 0, none⟩) ∧ Below w.heap.size w wx ∧ wx.heap[w.heap.size]? = some (.cells #[.int .i64 0, .string ⟨#[]⟩, .int .i64 0, .int .i64 0] 79 (0, 0)) ∧ wx.heap[w.heap.size + 1]? = some (.cells #[.int .i64 k, .string (S x), .int .i64 m, .int .i64 (q : Int)] 79 (0, 0)))
  case first =>
    go_region_with (fail)
    all_goals
      go_wp2_with fail
      go_meet
      exact ⟨rfl, HP.out⟩
  case rest =>
    obtain ⟨rfl, hbx, hr, ht⟩ := hcut
    have q0 := cell_of_row _ (w.heap.size + 1) 0 _ _ (0, 0) ht
    have q1 := cell_of_row _ (w.heap.size + 1) 1 _ _ (0, 0) ht
    have q2 := cell_of_row _ (w.heap.size + 1) 2 _ _ (0, 0) ht
    have q3 := cell_of_row _ (w.heap.size + 1) 3 _ _ (0, 0) ht
    have HR := Lib.hid hr
    have HT := Lib.hid ht
    have HBX := Lib.hid hbx
    clear hr ht hbx HP c0 c1 t0 t1 t2 t3 zb zg
    go_wp2_with fail
    refine (HSC.out _).mono ?_
    rintro e w1 ⟨rfl, b1⟩
    have hr1 := (b1.block w.heap.size (Array.getElem?_eq_some_iff.1 HR.out).1).trans HR.out
    have ht1 := (b1.block (w.heap.size + 1) (Array.getElem?_eq_some_iff.1 HT.out).1).trans HT.out
    have HB1 := Lib.hid (HBX.out.trans (b1.mono HBX.out.size))
    have p0 := cell_of_row w1 w.heap.size 0 _ _ (0, 0) hr1
    have p1 := cell_of_row w1 w.heap.size 1 _ _ (0, 0) hr1
    have p2 := cell_of_row w1 w.heap.size 2 _ _ (0, 0) hr1
    have p3 := cell_of_row w1 w.heap.size 3 _ _ (0, 0) hr1
    have fz : ∀ j, w1.frozen? ⟨w.heap.size, j, none⟩ = false := fun j => frozen_of_row w1 w.heap.size j _ _ hr1
    have k0 := cell_of_row w1 (w.heap.size + 1) 0 _ _ (0, 0) ht1
    have k1 := cell_of_row w1 (w.heap.size + 1) 1 _ _ (0, 0) ht1
    have k2 := cell_of_row w1 (w.heap.size + 1) 2 _ _ (0, 0) ht1
    have k3 := cell_of_row w1 (w.heap.size + 1) 3 _ _ (0, 0) ht1
    have HXF := Lib.hid (put4_row hr1 (.int .i64 k) (.string (S x)) (.int .i64 m) (.int .i64 (q : Int)))
    have HBF := Lib.hid (below4 HB1.out w.heap.size (Nat.le_refl _) (.int .i64 k) (.string (S x)) (.int .i64 m) (.int .i64 (q : Int)))
    clear b1 hr1 ht1 q0 q1 q2 q3
    go_wp2_with fail
    refine bodyPost_ret (res_tok rfl _ _ w.heap.size _ _ _ _ rfl HXF.out) rfl ?_
    exact ⟨rfl, HBF.out⟩
set_option maxRecDepth 100000 in
set_option maxHeartbeats 2000000 in
theorem pis_any (b g cap a : Nat) (n o : Int) (ts : List TA) (s : ByteArray) (w : World) (h : Psr w b g cap ts.length a n o) (ht : TsAt w g ts) (ha : a < ts.length) (hn : ts.length ≤ 8001) (hk : TokS (tk ts a)) :
    Calls Tryz.prog 167 #[.pointer (some ⟨b, 0, none⟩), .string s] w fun e w' => e = .returned (.bool (isS ts a s.data.toList)) ∧ Below w.heap.size w w' := by
  have HH := Lib.hid (phere_any b g cap a n o ts w h ht ha hn hk)
  clear h ht hk ha hn
  unfold isS
  unfold tokC at *
  generalize tk ts a = t at *
  obtain ⟨k, x, m, q⟩ := t
  simp only at HH ⊢
  have e1 : ((S x).toList == s.toList) = (x == s.data.toList) := by rw [ByteArray.toList_eq, ByteArray.toList_eq, S_toList]
  by_cases hk : k = 5
  · subst hk
    cases hx : (x == s.data.toList) with
    | true =>
      rw [hx] at e1
      clear hx
      go_enter Tryz.func167, Tryz.ntmps167
      go_wp2_with fail
      refine HH.out.mono ?_
      rintro e w1 ⟨rfl, b1⟩
      have HB := Lib.hid (b1.alloc b1.size (.cells #[.int .i64 5, .string (S x), .int .i64 m, .int .i64 (q : Int)] 79))
      clear b1
      go_wp2_with fail
      go_ret
      exact ⟨rfl, HB.out⟩
    | false =>
      rw [hx] at e1
      clear hx
      go_enter Tryz.func167, Tryz.ntmps167
      go_wp2_with fail
      refine HH.out.mono ?_
      rintro e w1 ⟨rfl, b1⟩
      have HB := Lib.hid (b1.alloc b1.size (.cells #[.int .i64 5, .string (S x), .int .i64 m, .int .i64 (q : Int)] 79))
      clear b1
      go_wp2_with fail
      go_ret
      exact ⟨rfl, HB.out⟩
  · have hk2 : (k == 5) = false := by simpa using hk
    rw [hk2, Bool.false_and]
    clear e1
    go_enter Tryz.func167, Tryz.ntmps167
    go_wp2_with fail
    refine HH.out.mono ?_
    rintro e w1 ⟨rfl, b1⟩
    have HB := Lib.hid (b1.alloc b1.size (.cells #[.int .i64 k, .string (S x), .int .i64 m, .int .i64 (q : Int)] 79))
    clear b1
    go_wp2_with fail
    go_ret
    exact ⟨rfl, HB.out⟩
set_option maxRecDepth 100000 in
set_option maxHeartbeats 2000000 in
theorem pwrong_any (b g cap len : Nat) (a n o k : Int) (w : World) (h : Psr w b g cap len a n o) :
    Calls Tryz.prog 132 #[.pointer (some ⟨b, 0, none⟩), .int .i64 k] w fun e w' => e = .returned (.agg #[.int .i64 a, .int .i64 k]) ∧ Below w.heap.size w w' := by
  have hb := (Below.refl w.heap.size w).alloc (Nat.le_refl _) (.cells #[.int .i64 a, .int .i64 k] 114)
  have c1 := h.c1
  have hlt := h.lt
  have zb : ∀ o j, (w.alloc o).cell? ⟨b, j, none⟩ = w.cell? ⟨b, j, none⟩ := fun o j => Kept.cell (Kept.alloc (ok := fun _ => True) w o) trivial hlt
  have HXF := Lib.hid (heap_alloc_new w (.cells #[.int .i64 a, .int .i64 k] 114))
  have HBF := Lib.hid hb
  clear hb h
  go_enter Tryz.func132, Tryz.ntmps132
  go_wp2_with fail
  refine bodyPost_ret (res_stop rfl _ _ w.heap.size _ _ rfl HXF.out) rfl ?_
  exact ⟨rfl, HBF.out⟩
end Go.Proofs.YtlmmfhbdebfgkaaGreatDoor.Ex
namespace Go.Proofs.YtlmmfhbdebfgkaaGreatDoor.Ex
open Go.RowKit
open Lx Va
set_option linter.unusedVariables false
set_option linter.unusedSimpArgs false
section
variable (b g cap a : Nat) (n o : Int) (ts : List TA)
set_option maxRecDepth 100000 in
set_option maxHeartbeats 2000000 in
theorem ppass_ok (s : ByteArray) (w : World) (h : Psr w b g cap ts.length a n o) (ht : TsAt w g ts) (ha : a < ts.length) (hn : ts.length ≤ 8001) (hk : TokS (tk ts a)) (hs : isS ts a s.data.toList = true) :
    Calls Tryz.prog 233 #[.pointer (some ⟨b, 0, none⟩), .string s] w fun e w' => e = .returned (.tuple #[]) ∧ Only b w w' ∧ Psr w' b g cap ts.length ((a : Int) + 1) n o := by
  have HI := Lib.hid (pis_any b g cap a n o ts s w h ht ha hn hk)
  rw [hs] at HI
  have H := Lib.hid h
  have hai : (a : Int) < 8001 := by omega
  clear h ht hk ha hs hn
  go_enter Tryz.func233, Tryz.ntmps233
  go_wp2_with fail
  refine HI.out.mono ?_
  rintro e w1 ⟨rfl, b1⟩
  have h1 := H.out.below b1
  have c1 := h1.c1
  have fz := h1.fz
  have HO := Lib.hid ((Only.of_below (b := b) b1).set' 1 (.int .i64 ((a : Int) + 1)))
  have HP := Lib.hid (h1.set1 ((a : Int) + 1))
  clear b1 h1
  go_wp2_with fail
  go_end0
  exact ⟨rfl, HO.out, HP.out⟩
set_option maxRecDepth 100000 in
set_option maxHeartbeats 2000000 in
theorem ppass_bad (s : ByteArray) (w : World) (h : Psr w b g cap ts.length a n o) (ht : TsAt w g ts) (ha : a < ts.length) (hn : ts.length ≤ 8001) (hk : TokS (tk ts a)) (hs : isS ts a s.data.toList = false) :
    Calls Tryz.prog 233 #[.pointer (some ⟨b, 0, none⟩), .string s] w fun e w' => e = panS a 25 ∧ Below w.heap.size w w' := by
  have HI := Lib.hid (pis_any b g cap a n o ts s w h ht ha hn hk)
  rw [hs] at HI
  have H := Lib.hid h
  clear h ht hk ha hs hn
  go_enter Tryz.func233, Tryz.ntmps233
  go_wp2_with fail
  refine HI.out.mono ?_
  rintro e w1 ⟨rfl, b1⟩
  have HW := Lib.hid (pwrong_any b g cap ts.length a n o 25 w1 (H.out.below b1))
  have HB := Lib.hid b1
  clear b1
  go_wp2_with fail
  refine HW.out.mono ?_
  rintro e w2 ⟨rfl, b2⟩
  have HB2 := Lib.hid (HB.out.trans (b2.mono HB.out.size))
  clear b2
  go_wp2_with fail
  exact ⟨rfl, rfl, HB2.out⟩
set_option maxRecDepth 100000 in
set_option maxHeartbeats 2000000 in
theorem pproduce_ok (m : Nat) (len : Nat) (w : World) (h : Psr w b g cap len a m o) (hm : m < 200) :
    Calls Tryz.prog 80 #[.pointer (some ⟨b, 0, none⟩)] w fun e w' => e = .returned (.tuple #[]) ∧ Only b w w' ∧ Psr w' b g cap len a ((m : Int) + 1) o := by
  have c2 := h.c2
  have fz := h.fz
  have e1 : ((m : Int) == 200) = false := by rw [beq_eq_false_iff_ne]; omega
  have hmi : (m : Int) < 200 := by omega
  have HO := Lib.hid (Only.set b w 2 (.int .i64 ((m : Int) + 1)))
  have HP := Lib.hid (h.set2 ((m : Int) + 1))
  clear h hm
  go_enter Tryz.func80, Tryz.ntmps80
  go_wp2_with fail
  go_end0
  exact ⟨rfl, HO.out, HP.out⟩
set_option maxRecDepth 100000 in
set_option maxHeartbeats 2000000 in
theorem pproduce_bad (len : Nat) (w : World) (h : Psr w b g cap len a 200 o) :
    Calls Tryz.prog 80 #[.pointer (some ⟨b, 0, none⟩)] w fun e w' => e = panS a 27 ∧ Below w.heap.size w w' := by
  have c2 := h.c2
  have HW := Lib.hid (pwrong_any b g cap len a 200 o 27 w h)
  clear h
  go_enter Tryz.func80, Tryz.ntmps80
  go_wp2_with fail
  refine HW.out.mono ?_
  rintro e w2 ⟨rfl, b2⟩
  have HB2 := Lib.hid b2
  clear b2
  go_wp2_with fail
  exact ⟨rfl, rfl, HB2.out⟩
set_option maxRecDepth 100000 in
set_option maxHeartbeats 2000000 in
theorem penter_ok (m : Nat) (len : Nat) (w : World) (h : Psr w b g cap len a n m) (hm : m < 20) :
    Calls Tryz.prog 129 #[.pointer (some ⟨b, 0, none⟩)] w fun e w' => e = .returned (.tuple #[]) ∧ Only b w w' ∧ Psr w' b g cap len a n ((m : Int) + 1) := by
  have c3 := h.c3
  have fz := h.fz
  have e1 : ((m : Int) == 20) = false := by rw [beq_eq_false_iff_ne]; omega
  have hmi : (m : Int) < 20 := by omega
  have HO := Lib.hid (Only.set b w 3 (.int .i64 ((m : Int) + 1)))
  have HP := Lib.hid (h.set3 ((m : Int) + 1))
  clear h hm
  go_enter Tryz.func129, Tryz.ntmps129
  go_wp2_with fail
  go_end0
  exact ⟨rfl, HO.out, HP.out⟩
set_option maxRecDepth 100000 in
set_option maxHeartbeats 2000000 in
theorem penter_bad (len : Nat) (w : World) (h : Psr w b g cap len a n 20) :
    Calls Tryz.prog 129 #[.pointer (some ⟨b, 0, none⟩)] w fun e w' => e = panS a 26 ∧ Below w.heap.size w w' := by
  have c3 := h.c3
  have HW := Lib.hid (pwrong_any b g cap len a n 20 26 w h)
  clear h
  go_enter Tryz.func129, Tryz.ntmps129
  go_wp2_with fail
  refine HW.out.mono ?_
  rintro e w2 ⟨rfl, b2⟩
  have HB2 := Lib.hid b2
  clear b2
  go_wp2_with fail
  exact ⟨rfl, rfl, HB2.out⟩
set_option maxRecDepth 100000 in
set_option maxHeartbeats 2000000 in
theorem pleave_ok (m : Nat) (s : ByteArray) (w : World) (h : Psr w b g cap ts.length a n m) (ht : TsAt w g ts) (ha : a < ts.length) (hn : ts.length ≤ 8001) (hk : TokS (tk ts a)) (hm : 1 ≤ m) (hm2 : m ≤ 20) (hs : isS ts a s.data.toList = true) :
    Calls Tryz.prog 208 #[.pointer (some ⟨b, 0, none⟩), .string s] w fun e w' => e = .returned (.tuple #[]) ∧ Only b w w' ∧ Psr w' b g cap ts.length ((a : Int) + 1) n ((m - 1 : Nat) : Int) := by
  have HI := Lib.hid (ppass_ok b g cap a n m ts s w h ht ha hn hk hs)
  have e1 : ((m - 1 : Nat) : Int) = (m : Int) - 1 := by omega
  rw [e1]
  have hmi : 1 ≤ (m : Int) := by omega
  have hmj : (m : Int) ≤ 20 := by omega
  clear h ht hk ha hs hn hm hm2 e1
  go_enter Tryz.func208, Tryz.ntmps208
  go_wp2_with fail
  refine HI.out.mono ?_
  rintro e w1 ⟨rfl, o1, h1⟩
  have c3 := h1.c3
  have fz := h1.fz
  have HO := Lib.hid (o1.set' 3 (.int .i64 ((m : Int) - 1)))
  have HP := Lib.hid (h1.set3 ((m : Int) - 1))
  clear o1 h1
  go_wp2_with fail
  go_end0
  exact ⟨rfl, HO.out, HP.out⟩
set_option maxRecDepth 100000 in
set_option maxHeartbeats 2000000 in
theorem pleave_bad (s : ByteArray) (w : World) (h : Psr w b g cap ts.length a n o) (ht : TsAt w g ts) (ha : a < ts.length) (hn : ts.length ≤ 8001) (hk : TokS (tk ts a)) (hs : isS ts a s.data.toList = false) :
    Calls Tryz.prog 208 #[.pointer (some ⟨b, 0, none⟩), .string s] w fun e w' => e = panS a 25 ∧ Below w.heap.size w w' := by
  have HI := Lib.hid (ppass_bad b g cap a n o ts s w h ht ha hn hk hs)
  clear h ht hk ha hs hn
  go_enter Tryz.func208, Tryz.ntmps208
  go_wp2_with fail
  refine HI.out.mono ?_
  rintro e w1 ⟨rfl, b1⟩
  have HB2 := Lib.hid b1
  clear b1
  unfold panS
  go_wp2_with fail
  exact ⟨rfl, rfl, HB2.out⟩
end
def conW (lvl : Int) (wd : List UInt8) : Option Con := conL.find? fun c => c.level == lvl && c.word == wd
set_option linter.unusedVariables false
set_option maxRecDepth 100000 in
set_option maxHeartbeats 8000000 in
theorem constructAt_any (lvl : Int) (wd : List UInt8) (w : World) (hc : ConsAt w) :
    Calls Tryz.prog 131 #[.int .i64 lvl, .string (S wd)] w fun e w' => e = .returned (conV (conW lvl wd)) ∧ Below w.heap.size w w' := by
  have hb0 := (Below.refl w.heap.size w).alloc (Nat.le_refl _) (.cells #[.string ⟨#[]⟩, .int .i64 0, .int .i64 0, .int .i64 0, .bool false] 96)
  have HLD := Lib.hid (hc.keep (Kept.of_below (ok := fun _ => True) hb0) trivial).1
  have HSZ := Lib.hid (show (Tryz.prog.info? 135).map (·.size) = some conC.length by kernel_rfl)
  have HB0 := Lib.hid hb0
  have HX0 := Lib.hid (show Bc (w.alloc (.cells #[.string ⟨#[]⟩, .int .i64 0, .int .i64 0, .int .i64 0, .bool false] 96)) w.heap.size con0 from heap_alloc_new w _)
  have HIDX := Lib.hid con_idx
  have HFA := Lib.hid (fun k (hk : k < 18) h0 h => con_find (fun c => c.level == lvl && c.word == wd) k hk h0 h)
  have HFN := Lib.hid (con_none (fun c => c.level == lvl && c.word == wd))
  clear hb0 hc
  go_enter Tryz.func131, Tryz.ntmps131
  go_wp2_with (refine wpList_load_mid rfl 135 _ rfl 0 0 rfl conC _ HLD.out Tryz.underlying135 rfl HSZ.out ?_)
  go_loopw [9] (fun i wr => ∃ k : Nat, k ≤ 18 ∧ i = .int .i64 k ∧ Hid (∀ j, j < k → ((conAt j).level == lvl && (conAt j).word == wd) = false) ∧ Below w.heap.size w wr ∧ w.heap.size < wr.heap.size ∧ Bc wr w.heap.size con0) (fun i _ => 18 - (intOf i).toNat)
  case atStart => exact ⟨0, by omega, rfl, Lib.hid (fun j hj => absurd hj (by omega)), HB0.out, by simp, HX0.out⟩
  case round =>
    obtain ⟨k, hk, rfl, HN, hb, hsz, hx⟩ := hrel
    have HB := Lib.hid hb
    have HX := Lib.hid hx
    have hh := hx
    have f5 : ∀ j, wr.frozen? ⟨w.heap.size, j, none⟩ = false := fun j => frozen_of_row wr w.heap.size j _ _ hx
    have p0 : wr.cell? ⟨w.heap.size, 0, none⟩ = some (.string (S [])) := cell_of_row wr w.heap.size 0 _ _ (0, 0) hx
    have p1 : wr.cell? ⟨w.heap.size, 1, none⟩ = some (.int .i64 0) := cell_of_row wr w.heap.size 1 _ _ (0, 0) hx
    have p2 : wr.cell? ⟨w.heap.size, 2, none⟩ = some (.int .i64 0) := cell_of_row wr w.heap.size 2 _ _ (0, 0) hx
    have p3 : wr.cell? ⟨w.heap.size, 3, none⟩ = some (.int .i64 0) := cell_of_row wr w.heap.size 3 _ _ (0, 0) hx
    have p4 : wr.cell? ⟨w.heap.size, 4, none⟩ = some (.bool false) := cell_of_row wr w.heap.size 4 _ _ (0, 0) hx
    by_cases hlt : k < 18
    · have hki : (k : Int) < 18 := by omega
      have hidx := HIDX.out k hlt
      have HHIT := Lib.hid (HFA.out k hlt HN.out)
      have HST := Lib.hid (fun (e : ((conAt k).level == lvl && (conAt k).word == wd) = false) => show Hid (∀ j, j < k + 1 → ((conAt j).level == lvl && (conAt j).word == wd) = false) from Lib.hid (fun j hj => by
        by_cases ej : j = k
        · subst ej; exact e
        · exact HN.out j (by omega)))
      generalize conAt k = C at *
      obtain ⟨cw, co, cl, cn, ct⟩ := C
      simp only at hidx HHIT HST
      clear hb hx hh
      have e1 : ((S cw).toList == (S wd).toList) = (cw == wd) := by rw [ByteArray.toList_eq, ByteArray.toList_eq, S_toList, S_toList]
      by_cases hop : cl = lvl
      · subst hop
        cases hw : (cw == wd) with
        | true =>
          rw [hw] at e1
          have HR := Lib.hid (show conW cl wd = some ⟨cw, co, cl, cn, ct⟩ from HHIT.out (by simp [hw]))
          clear hw
          go_wp2_with fail
          refine bodyPost_ret (res_con rfl _ _ w.heap.size _ _ _ _ _ (.bool true) rfl (put5_at HX.out _ _ _ _ _ _ hsz) rfl) rfl ?_
          rw [HR.out]
          exact ⟨rfl, (put5_below HB.out _ _ _ _ _).alloc (by simp; omega) _⟩
        | false =>
          rw [hw] at e1
          have hn2 := HST.out (by simp [hw])
          clear hw
          go_wp2_with fail
          go_roundw
          case rel => exact ⟨k + 1, by omega, by go_num, hn2, HB.out.alloc (Nat.le_of_lt hsz) _, by simp; omega, (Kept.alloc (ok := fun _ => True) wr _).block _ trivial hsz |>.trans HX.out⟩
          case measure => simp [intOf]; omega
      · have hop2 : (cl == lvl) = false := by rw [beq_eq_false_iff_ne]; exact hop
        have hn2 := HST.out (by simp [hop2])
        clear e1
        go_wp2_with fail
        go_roundw
        case rel => exact ⟨k + 1, by omega, by go_num, hn2, HB.out.alloc (Nat.le_of_lt hsz) _, by simp; omega, (Kept.alloc (ok := fun _ => True) wr _).block _ trivial hsz |>.trans HX.out⟩
        case measure => simp [intOf]; omega
    · obtain rfl : k = 18 := by omega
      have HR := Lib.hid (show conW lvl wd = none from HFN.out HN.out)
      clear hb hx hh
      go_wp2_with fail
      refine bodyPost_ret (res_con rfl _ _ w.heap.size _ _ _ _ _ (.bool false) rfl (put5_here HX.out _ _ _ _ _) rfl) rfl ?_
      rw [HR.out]
      exact ⟨rfl, put5_below HB.out _ _ _ _ _⟩
end Go.Proofs.YtlmmfhbdebfgkaaGreatDoor.Ex
