/-
  Several texts in one: DdB, DdC, DdE.
-/
import Derived.Test.YtkdhchdhgmaolaaZDdA
import Derived.Test.YtkdhchdhgmaolaaZCdRdB
namespace Go.Proofs.Ytkdhchdhgmaolaa.Dd
open Go.RowKit
open Pk Va
set_option linter.unusedVariables false
set_option linter.unusedSimpArgs false

/-- The reader in block g: what is left, and the error that is kept. -/
structure RdD (w : World) (g : Nat) (l : List UInt8) (bad : Nat) : Prop where
  is : ∃ b a, DrAt w g b a bad ∧ a ≤ b.size ∧ b.size ≤ 2000000 ∧ l = b.data.toList.drop a
  bnd : bad ≤ 5
theorem rdd {w : World} {g : Nat} {l : List UInt8} {b : ByteArray} {a bad : Nat} (h1 : DrAt w g b a bad) (h2 : a ≤ b.size) (h3 : b.size ≤ 2000000) (h4 : l = b.data.toList.drop a) (h5 : bad ≤ 5) : RdD w g l bad := ⟨⟨b, a, h1, h2, h3, h4⟩, h5⟩
theorem RdD.below {w w' : World} {g : Nat} {l : List UInt8} {bad : Nat} (h : RdD w g l bad) (k : Below w.heap.size w w') : RdD w' g l bad := by
  obtain ⟨b, a, h1, h2, h3, h4⟩ := h.is
  exact rdd (h1.below k) h2 h3 h4 h.bnd
theorem RdD.lt {w : World} {g : Nat} {l : List UInt8} {bad : Nat} (h : RdD w g l bad) : g < w.heap.size := by
  obtain ⟨b, a, h1, h2, h3, h4⟩ := h.is
  exact h1.lt
theorem RdD.only {w w' : World} {g c : Nat} {l : List UInt8} {bad : Nat} (h : RdD w g l bad) (k : Only c w w') (hne : g ≠ c) : RdD w' g l bad := by
  obtain ⟨b, a, h1, h2, h3, h4⟩ := h.is
  exact rdd ((k.block g h1.lt (by simpa using hne)).trans h1) h2 h3 h4 h.bnd
theorem only_drew {g : Nat} {w w' : World} (h : Only g w w') : Only g w w'.drew := ⟨h.os, h.tape, h.output, h.size, h.block⟩

set_option maxRecDepth 100000 in
set_option maxHeartbeats 2000000 in
theorem dCount_any (g : Nat) (l : List UInt8) (bad : Nat) (w : World) (h : RdD w g l bad) :
    Calls Try.prog 86 #[.pointer (some ⟨g, 0, none⟩)] w fun e w' =>
      e = .returned (.int .u64 ((rdG 0 (decC l) l bad).1 : Nat)) ∧ RdD w' g (rdG 0 (decC l) l bad).2.1 (rdG 0 (decC l) l bad).2.2 ∧ Only g w w' := by
  obtain ⟨b, a, h1, h2, h3, rfl⟩ := h.is
  have c2 := h1.c2
  have hb5 := h.bnd
  have HC := Lib.hid (rcount_any g b h3 a h2 bad w h1)
  have HD := Lib.hid h1
  have hsz := decC_size (b.data.toList.drop a)
  have hl : (b.data.toList.drop a).length = b.size - a := by simp
  rw [hl] at hsz
  obtain ⟨l9, hdl⟩ : ∃ l9, l9 = b.data.toList.drop a := ⟨_, rfl⟩
  have hdd : ∀ n, (b.data.toList.drop a).drop n = b.data.toList.drop (a + n) := fun n => by rw [List.drop_drop]
  clear h
  rw [← hdl] at hsz hdd hl HC ⊢
  have HL9 := Lib.hid hdl
  clear hdl
  obtain ⟨l, rfl⟩ : ∃ l, l = l9 := ⟨_, rfl⟩
  unfold cntR at HC
  unfold rdG
  obtain ⟨⟨v, sz, er⟩, hd⟩ : ∃ d, decC l = d := ⟨_, rfl⟩
  rw [hd] at HC hsz ⊢
  simp only at HC hsz ⊢
  by_cases hb : bad = 0
  · subst hb
    rw [if_neg (by omega)]
    by_cases he : er = 0
    · subst he
      rw [if_neg (by omega)]
      rw [if_neg (by omega)] at HC
      have HF := Lib.hid (hdd sz)
      have hle : a + sz ≤ b.size := by omega
      clear hdd h1 hd hl
      go_enter Try.func86, Try.ntmps86
      go_wp2_with fail
      refine HC.out.mono ?_
      rintro e w1 ⟨rfl, b1⟩
      have hd1 := HD.out.below b1
      have c1 := hd1.c1
      have f1 := hd1.f0 1
      have HD1 := Lib.hid (hd1.set1 (a + sz))
      have HO := Lib.hid ((Only.of_below (b := g) b1).trans (Only.set g w1 1 (.int .i64 ((a + sz : Nat) : Int))))
      clear b1 hd1
      go_wp2_with fail
      go_ret
      exact ⟨rfl, rdd HD1.out hle h3 HF.out (by omega), HO.out⟩
    · rw [if_pos he]
      rw [if_pos he] at HC
      have h3e := (err_ne er he).1
      clear hdd hd hl he
      go_enter Try.func86, Try.ntmps86
      go_wp2_with fail
      refine HC.out.mono ?_
      rintro e w1 ⟨rfl, b1⟩
      have hd1 := HD.out.below b1
      have c1 := hd1.c2
      have f1 := hd1.f0 2
      have HD1 := Lib.hid (hd1.set2 er)
      have HO := Lib.hid ((Only.of_below (b := g) b1).trans (Only.set g w1 2 (.int .i64 (er : Int))))
      clear b1 hd1
      go_wp2_with fail
      go_ret
      exact ⟨rfl, rdd HD1.out h2 h3 HL9.out (by omega), HO.out⟩
  · rw [if_pos hb]
    have h3e := (err_ne bad hb).1
    clear hdd hd hl hb
    go_enter Try.func86, Try.ntmps86
    go_wp2_with fail
    go_ret
    exact ⟨rfl, rdd HD.out h2 h3 HL9.out hb5, Only.refl _ _⟩
-- MORE
section
variable {P : Program} {ops : Array Oper} {Q : Exit → Act → World → Prop} {md : Region.Mode} {S : World → Prop}
/-- An operation that its guard calls off may be taken first. -/
theorem takeU {oi : Oper} {fuel : Nat} {listed : Array Bool} {a : Act} {w : World} (i : Nat) (hr : (Region.ready md ops listed).contains i = true)
    (hf : Region.free md ops listed i = true) (hs : Region.noSelect ops = true) (hi : ops[i]? = some oi) (hw : Region.wanted oi (yielded ops a.tmps) = false)
    (hQ : ∀ c a w, Q (.panic c) (a.put oi.dst undef) w → Q (.panic c) a w) (hS : S w)
    (h : wpAnyH P md ops Q S fuel (listed.setIfInBounds i true) (a.put oi.dst undef) w) : wpAnyH P md ops Q S (fuel + 1) listed a w :=
  wpAnyH_take hi hs hf hr hQ (Or.inr ⟨hw, rfl⟩) hS h
/-- One that is wanted and yields its value wherever S holds. -/
theorem takeW {oi : Oper} {v : Value} {fuel : Nat} {listed : Array Bool} {a : Act} {w : World} (i : Nat) (hr : (Region.ready md ops listed).contains i = true)
    (hf : Region.free md ops listed i = true) (hs : Region.noSelect ops = true) (hi : ops[i]? = some oi) (hw : Region.wanted oi (yielded ops a.tmps) = true)
    (hQ : ∀ c a w, Q (.panic c) (a.put oi.dst v) w → Q (.panic c) a w) (hS : S w) (hy : ∀ w, S w → (execOp a.eval oi).run P w = .ok (.value v) w)
    (h : wpAnyH P md ops Q S fuel (listed.setIfInBounds i true) (a.put oi.dst v) w) : wpAnyH P md ops Q S (fuel + 1) listed a w :=
  wpAnyH_take hi hs hf hr hQ (Or.inl ⟨hw, hy⟩) hS h
end


set_option maxRecDepth 100000 in
set_option maxHeartbeats 4000000 in
theorem dSmall_any (g : Nat) (l : List UInt8) (bad : Nat) (m : Nat) (hm : m ≤ 100000) (w : World) (h : RdD w g l bad) :
    Calls Try.prog 48 #[.pointer (some ⟨g, 0, none⟩), .int .i64 (m : Int)] w fun e w' =>
      e = .returned (.int .i64 ((rdG 0 (decS l m) l bad).1 : Nat)) ∧ RdD w' g (rdG 0 (decS l m) l bad).2.1 (rdG 0 (decS l m) l bad).2.2 ∧ Only g w w' := by
  obtain ⟨b, a, h1, h2, h3, hl0⟩ := h.is
  subst hl0
  have hb5 := h.bnd
  have c0 := h1.c0
  have c1 := h1.c1
  have c2 := h1.c2
  have HC := Lib.hid (rcount_any g b h3 a h2 bad w h1)
  have HD := Lib.hid h1
  have hsz := decC_size (b.data.toList.drop a)
  have hl : (b.data.toList.drop a).length = b.size - a := by simp
  obtain ⟨l9, hdl⟩ : ∃ l9, l9 = b.data.toList.drop a := ⟨_, rfl⟩
  have hdd : ∀ n, (b.data.toList.drop a).drop n = b.data.toList.drop (a + n) := fun n => by rw [List.drop_drop]
  clear h
  rw [← hdl] at hsz hdd hl HC ⊢
  have HL9 := Lib.hid hdl
  clear hdl
  rw [hl] at hsz
  unfold cntR at HC
  unfold rdG
  have hms : IntKind.u64.wrap (m : Int) = (m : Int) := by rw [IntKind.wrap_u64]; omega
  have hm0 : ¬ (m : Int) < 0 := by omega
  obtain ⟨⟨v, sz, er⟩, hd⟩ : ∃ d, decC l9 = d := ⟨_, rfl⟩
  have hds : decS l9 m = if er ≠ 0 then (0, 0, er) else if (m : Int) < 0 ∨ (m : Int) < (v : Int) then (0, 0, 5) else (v, sz, 0) := by unfold decS; rw [hd]
  rw [hd] at HC hsz
  rw [hds]
  simp only at HC hsz
  by_cases hb : bad = 0
  · subst hb
    rw [if_neg (show ¬ (0 ≠ 0) by omega)]
    by_cases he : er = 0
    · subst he
      rw [if_neg (show ¬ (0 ≠ 0) by omega)] at HC
      simp only [ne_eq, not_true_eq_false, if_false]
      by_cases hv : v ≤ m
      · simp only [show ¬ ((m : Int) < 0 ∨ (m : Int) < (v : Int)) by omega, if_false, ne_eq, not_true_eq_false]
        have hvi : ¬ (m : Int) < (v : Int) := by omega
        have hvw : IntKind.i64.wrap (v : Int) = (v : Int) := by rw [IntKind.wrap_i64]; omega
        have HF := Lib.hid (hdd sz)
        have hle : a + sz ≤ b.size := by omega
        clear hdd h1 hd hl hds
        go_enter Try.func48, Try.ntmps48
        go_wp2_with fail
        refine HC.out.mono ?_
        rintro e w1 ⟨rfl, b1⟩
        have hd1 := HD.out.below b1
        have c10 := hd1.c0
        have c11 := hd1.c1
        have c12 := hd1.c2
        have f1 := hd1.f0 1
        have f2 := hd1.f0 2
        clear c0 c1 c2
        have HD1 := Lib.hid (hd1.set1 (a + sz))
        have HO := Lib.hid ((Only.of_below (b := g) b1).trans (Only.set g w1 1 (.int .i64 ((a + sz : Nat) : Int))))
        clear b1 hd1
        go_wp2_with fail
        go_ret
        exact ⟨rfl, rdd HD1.out hle h3 HF.out (by omega), HO.out⟩
      · simp only [show ((m : Int) < 0 ∨ (m : Int) < (v : Int)) by omega, if_true, ne_eq, show ¬ ((5 : Nat) = 0) by decide, not_false_eq_true]
        have hvi : (m : Int) < (v : Int) := by omega
        clear hdd h1 hd hl hds
        go_enter Try.func48, Try.ntmps48
        go_wp2_with fail
        refine HC.out.mono ?_
        rintro e w1 ⟨rfl, b1⟩
        have hd1 := HD.out.below b1
        have c10 := hd1.c0
        have c11 := hd1.c1
        have c12 := hd1.c2
        have f1 := hd1.f0 1
        have f2 := hd1.f0 2
        clear c0 c1 c2
        have HD1 := Lib.hid (hd1.set2 5)
        have HO := Lib.hid ((Only.of_below (b := g) b1).trans (Only.set g w1 2 (.int .i64 ((5 : Nat) : Int))))
        clear b1 hd1
        go_wp2_with fail
        go_ret
        exact ⟨rfl, rdd HD1.out h2 h3 HL9.out (by omega), HO.out⟩
    · have h3e := (err_ne er he).1
      have h4e := (err_ne er he).2
      rw [if_pos he] at HC
      simp only [ne_eq, he, not_false_eq_true, if_true]
      clear hdd h1 hd hl he hds
      go_enter Try.func48, Try.ntmps48
      go_wp2_with fail
      refine HC.out.mono ?_
      rintro e w1 ⟨rfl, b1⟩
      have hd1 := HD.out.below b1
      have c10 := hd1.c0
      have c11 := hd1.c1
      have c12 := hd1.c2
      have f1 := hd1.f0 1
      have f2 := hd1.f0 2
      clear c0 c1 c2
      have HD1 := Lib.hid (hd1.set2 er)
      have HO := Lib.hid ((Only.of_below (b := g) b1).trans (Only.set g w1 2 (.int .i64 ((er : Nat) : Int))))
      clear b1 hd1
      go_wp2_with fail
      go_ret
      exact ⟨rfl, rdd HD1.out h2 h3 HL9.out (by omega), HO.out⟩
  · rw [if_pos hb]
    have h3e := (err_ne bad hb).1
    have h4e := (err_ne bad hb).2
    clear hdd h1 hd hl hb hds
    go_enter Try.func48, Try.ntmps48
    go_wp2_with fail
    go_ret
    exact ⟨rfl, rdd HD.out h2 h3 HL9.out hb5, Only.refl _ _⟩

set_option maxRecDepth 100000 in
set_option maxHeartbeats 4000000 in
theorem dNumber_any (g : Nat) (l : List UInt8) (bad : Nat) (w : World) (h : RdD w g l bad) :
    Calls Try.prog 47 #[.pointer (some ⟨g, 0, none⟩)] w fun e w' =>
      e = .returned (.int .i64 (rdG (0 : Int) (decN l) l bad).1) ∧ RdD w' g (rdG (0 : Int) (decN l) l bad).2.1 (rdG (0 : Int) (decN l) l bad).2.2 ∧ Only g w w' := by
  have HC := Lib.hid (dCount_any g l bad w h)
  have hlt := (decC_size l).2.1
  unfold decN
  unfold rdG at HC ⊢
  obtain ⟨⟨v, sz, er⟩, hd⟩ : ∃ d, decC l = d := ⟨_, rfl⟩
  rw [hd] at HC hlt ⊢
  simp only at HC hlt ⊢
  have key : ∀ (u : Nat) (l2 : List UInt8) (b2 : Nat), u < 18446744073709551616 → (Calls Try.prog 86 #[.pointer (some ⟨g, 0, none⟩)] w fun e w' => e = .returned (.int .u64 (u : Int)) ∧ RdD w' g l2 b2 ∧ Only g w w') → (Calls Try.prog 47 #[.pointer (some ⟨g, 0, none⟩)] w fun e w' => e = .returned (.int .i64 (unz u)) ∧ RdD w' g l2 b2 ∧ Only g w w') := by
    intro u l2 b2 hu hc
    have HC2 := Lib.hid hc
    clear hc HC hd hlt h
    by_cases ho : u % 2 = 1
    · have hoi : (u : Int) % 2 = 1 := by omega
      have hw1 : IntKind.i64.wrap ((u : Int) / 2) = (u : Int) / 2 := by rw [IntKind.wrap_i64]; omega
      have hw2 : IntKind.i64.wrap (-((u : Int) / 2)) = -((u : Int) / 2) := by rw [IntKind.wrap_i64]; omega
      have hw3 : IntKind.i64.wrap (-((u : Int) / 2) - 1) = -((u : Int) / 2) - 1 := by rw [IntKind.wrap_i64]; omega
      have HU := Lib.hid (show unz u = -((u : Int) / 2) - 1 by unfold unz; rw [if_pos ho]; omega)
      go_enter Try.func47, Try.ntmps47
      go_wp2_with fail
      refine HC2.out.mono ?_
      rintro e w1 ⟨rfl, r1, o1⟩
      have R1 := Lib.hid r1
      have O1 := Lib.hid o1
      clear r1 o1
      go_wp2_with fail
      go_ret
      exact ⟨by rw [HU.out]; rfl, R1.out, O1.out⟩
    · have hoi : ¬ (u : Int) % 2 = 1 := by omega
      have hw1 : IntKind.i64.wrap ((u : Int) / 2) = (u : Int) / 2 := by rw [IntKind.wrap_i64]; omega
      have HU := Lib.hid (show unz u = (u : Int) / 2 by unfold unz; rw [if_neg ho]; omega)
      go_enter Try.func47, Try.ntmps47
      go_wp2_with fail
      refine HC2.out.mono ?_
      rintro e w1 ⟨rfl, r1, o1⟩
      have R1 := Lib.hid r1
      have O1 := Lib.hid o1
      clear r1 o1
      go_wp2_with fail
      go_ret
      exact ⟨by rw [HU.out]; rfl, R1.out, O1.out⟩
  by_cases hb : bad = 0
  · subst hb
    rw [if_neg (by omega)] at HC ⊢
    by_cases he : er = 0
    · subst he
      rw [if_neg (by omega)] at HC ⊢
      exact key v _ _ hlt HC.out
    · rw [if_pos he] at HC ⊢
      exact key 0 _ _ (by omega) HC.out
  · rw [if_pos hb] at HC ⊢
    exact key 0 _ _ (by omega) HC.out

set_option maxRecDepth 100000 in
set_option maxHeartbeats 2000000 in
theorem dEnd_any (g : Nat) (l : List UInt8) (bad : Nat) (w : World) (h : RdD w g l bad) :
    Calls Try.prog 35 #[.pointer (some ⟨g, 0, none⟩)] w fun e w' => e = .returned (.int .i64 (endV l bad : Nat)) ∧ Below w.heap.size w w' := by
  have hb5 := h.bnd
  obtain ⟨b, a, h1, h2, h3, hl0⟩ := h.is
  have hl : l.length = b.size - a := by rw [hl0]; simp
  have c0 := h1.c0
  have c1 := h1.c1
  have c2 := h1.c2
  have hst : w.drew.cell? ⟨g, 0, none⟩ = some (.string b) ∧ w.drew.cell? ⟨g, 1, none⟩ = some (.int .i64 (a : Int)) ∧ w.drew.cell? ⟨g, 2, none⟩ = some (.int .i64 (bad : Int)) := ⟨c0, c1, c2⟩
  have HST := Lib.hid hst
  have HB := Lib.hid ((Below.refl w.heap.size w).drew)
  unfold endV
  clear h h1 hl0 hst
  by_cases hb : bad = 0
  · subst hb
    rw [if_neg (by omega)]
    by_cases hl2 : l.length = 0
    · rw [if_pos hl2]
      have hle : ¬ (a : Int) < (b.size : Int) := by omega
      go_enter Try.func35, Try.ntmps35
      go_wp2_with fail
      go_region_held3 (fun w7 => w7.cell? ⟨g, 0, none⟩ = some (.string b) ∧ w7.cell? ⟨g, 1, none⟩ = some (.int .i64 (a : Int)) ∧ w7.cell? ⟨g, 2, none⟩ = some (.int .i64 0)) (first | assumption | exact HST.out) (fail)
      obtain ⟨d0, d1, d2⟩ := HST.out
      go_wp2_with fail
      go_ret
      exact ⟨rfl, HB.out⟩
    · rw [if_neg hl2]
      have hle : (a : Int) < (b.size : Int) := by omega
      go_enter Try.func35, Try.ntmps35
      go_wp2_with fail
      go_region_held3 (fun w7 => w7.cell? ⟨g, 0, none⟩ = some (.string b) ∧ w7.cell? ⟨g, 1, none⟩ = some (.int .i64 (a : Int)) ∧ w7.cell? ⟨g, 2, none⟩ = some (.int .i64 0)) (first | assumption | exact HST.out) (fail)
      obtain ⟨d0, d1, d2⟩ := HST.out
      go_wp2_with fail
      go_ret
      exact ⟨rfl, HB.out⟩
  · rw [if_pos hb]
    have h3e := (err_ne bad hb).1
    have h4e := (err_ne bad hb).2
    go_enter Try.func35, Try.ntmps35
    go_wp2_with fail
    refine wp_region_held_drew (S := (fun w7 => w7.cell? ⟨g, 0, none⟩ = some (.string b) ∧ w7.cell? ⟨g, 1, none⟩ = some (.int .i64 (a : Int)) ∧ w7.cell? ⟨g, 2, none⟩ = some (.int .i64 (bad : Int)))) (by kernel_rfl) (by exact HST.out) (fun hHeld => ?_)
    refine takeW (v := ?_) 0 (by decide +kernel) (by decide +kernel) (by kernel_rfl) (by simp only [List.getElem?_toArray, List.getElem?_cons_succ, List.getElem?_cons_zero]; rfl) (by rfl) (by exact fun _ _ _ h => h) (by exact hHeld) ?_ ?_
    rotate_left 1
    focus (intro w8 hSw; (try dsimp only at hSw); obtain ⟨s80, s81, s82⟩ := hSw; go_simp; (try with_reducible rfl); done)
    try simp only [Act.put, List.setIfInBounds_toArray, List.set_cons_zero, List.set_cons_succ]
    refine takeW (v := ?_) 1 (by decide +kernel) (by decide +kernel) (by kernel_rfl) (by simp only [List.getElem?_toArray, List.getElem?_cons_succ, List.getElem?_cons_zero]; rfl) (by rfl) (by exact fun _ _ _ h => h) (by exact hHeld) ?_ ?_
    rotate_left 1
    focus (intro w8 hSw; (try dsimp only at hSw); obtain ⟨s80, s81, s82⟩ := hSw; go_simp; (try with_reducible rfl); done)
    try simp only [Act.put, List.setIfInBounds_toArray, List.set_cons_zero, List.set_cons_succ]
    refine takeW (v := ?_) 2 (by decide +kernel) (by decide +kernel) (by kernel_rfl) (by simp only [List.getElem?_toArray, List.getElem?_cons_succ, List.getElem?_cons_zero]; rfl) (by rfl) (by exact fun _ _ _ h => h) (by exact hHeld) ?_ ?_
    rotate_left 1
    focus (intro w8 hSw; (try dsimp only at hSw); obtain ⟨s80, s81, s82⟩ := hSw; go_simp; (try with_reducible rfl); done)
    try simp only [Act.put, List.setIfInBounds_toArray, List.set_cons_zero, List.set_cons_succ]
    refine takeW (v := ?_) 3 (by decide +kernel) (by decide +kernel) (by kernel_rfl) (by simp only [List.getElem?_toArray, List.getElem?_cons_succ, List.getElem?_cons_zero]; rfl) (by rfl) (by exact fun _ _ _ h => h) (by exact hHeld) ?_ ?_
    rotate_left 1
    focus (intro w8 hSw; (try dsimp only at hSw); obtain ⟨s80, s81, s82⟩ := hSw; go_simp; (try with_reducible rfl); done)
    try simp only [Act.put, List.setIfInBounds_toArray, List.set_cons_zero, List.set_cons_succ]
    refine takeW (v := ?_) 4 (by decide +kernel) (by decide +kernel) (by kernel_rfl) (by simp only [List.getElem?_toArray, List.getElem?_cons_succ, List.getElem?_cons_zero]; rfl) (by rfl) (by exact fun _ _ _ h => h) (by exact hHeld) ?_ ?_
    rotate_left 1
    focus (intro w8 hSw; (try dsimp only at hSw); obtain ⟨s80, s81, s82⟩ := hSw; go_simp; (try with_reducible rfl); done)
    try simp only [Act.put, List.setIfInBounds_toArray, List.set_cons_zero, List.set_cons_succ]
    refine takeW (v := ?_) 5 (by decide +kernel) (by decide +kernel) (by kernel_rfl) (by simp only [List.getElem?_toArray, List.getElem?_cons_succ, List.getElem?_cons_zero]; rfl) (by rfl) (by exact fun _ _ _ h => h) (by exact hHeld) ?_ ?_
    rotate_left 1
    focus (intro w8 hSw; (try dsimp only at hSw); obtain ⟨s80, s81, s82⟩ := hSw; go_simp; (try with_reducible rfl); done)
    try simp only [Act.put, List.setIfInBounds_toArray, List.set_cons_zero, List.set_cons_succ]
    refine takeU 6 (by decide +kernel) (by decide +kernel) (by kernel_rfl) (by simp only [List.getElem?_toArray, List.getElem?_cons_succ, List.getElem?_cons_zero]; rfl) (by rfl) (by exact fun _ _ _ h => h) (by exact hHeld) ?_
    try simp only [Act.put, List.setIfInBounds_toArray, List.set_cons_zero, List.set_cons_succ]
    refine takeU 7 (by decide +kernel) (by decide +kernel) (by kernel_rfl) (by simp only [List.getElem?_toArray, List.getElem?_cons_succ, List.getElem?_cons_zero]; rfl) (by rfl) (by exact fun _ _ _ h => h) (by exact hHeld) ?_
    try simp only [Act.put, List.setIfInBounds_toArray, List.set_cons_zero, List.set_cons_succ]
    refine takeU 8 (by decide +kernel) (by decide +kernel) (by kernel_rfl) (by simp only [List.getElem?_toArray, List.getElem?_cons_succ, List.getElem?_cons_zero]; rfl) (by rfl) (by exact fun _ _ _ h => h) (by exact hHeld) ?_
    try simp only [Act.put, List.setIfInBounds_toArray, List.set_cons_zero, List.set_cons_succ]
    refine takeU 9 (by decide +kernel) (by decide +kernel) (by kernel_rfl) (by simp only [List.getElem?_toArray, List.getElem?_cons_succ, List.getElem?_cons_zero]; rfl) (by rfl) (by exact fun _ _ _ h => h) (by exact hHeld) ?_
    try simp only [Act.put, List.setIfInBounds_toArray, List.set_cons_zero, List.set_cons_succ]
    refine takeU 10 (by decide +kernel) (by decide +kernel) (by kernel_rfl) (by simp only [List.getElem?_toArray, List.getElem?_cons_succ, List.getElem?_cons_zero]; rfl) (by rfl) (by exact fun _ _ _ h => h) (by exact hHeld) ?_
    try simp only [Act.put, List.setIfInBounds_toArray, List.set_cons_zero, List.set_cons_succ]
    refine takeU 11 (by decide +kernel) (by decide +kernel) (by kernel_rfl) (by simp only [List.getElem?_toArray, List.getElem?_cons_succ, List.getElem?_cons_zero]; rfl) (by rfl) (by exact fun _ _ _ h => h) (by exact hHeld) ?_
    try simp only [Act.put, List.setIfInBounds_toArray, List.set_cons_zero, List.set_cons_succ]
    refine takeU 12 (by decide +kernel) (by decide +kernel) (by kernel_rfl) (by simp only [List.getElem?_toArray, List.getElem?_cons_succ, List.getElem?_cons_zero]; rfl) (by rfl) (by exact fun _ _ _ h => h) (by exact hHeld) ?_
    try simp only [Act.put, List.setIfInBounds_toArray, List.set_cons_zero, List.set_cons_succ]
    refine takeU 13 (by decide +kernel) (by decide +kernel) (by kernel_rfl) (by simp only [List.getElem?_toArray, List.getElem?_cons_succ, List.getElem?_cons_zero]; rfl) (by rfl) (by exact fun _ _ _ h => h) (by exact hHeld) ?_
    try simp only [Act.put, List.setIfInBounds_toArray, List.set_cons_zero, List.set_cons_succ]
    refine takeU 14 (by decide +kernel) (by decide +kernel) (by kernel_rfl) (by simp only [List.getElem?_toArray, List.getElem?_cons_succ, List.getElem?_cons_zero]; rfl) (by rfl) (by exact fun _ _ _ h => h) (by exact hHeld) ?_
    try simp only [Act.put, List.setIfInBounds_toArray, List.set_cons_zero, List.set_cons_succ]
    refine takeU 15 (by decide +kernel) (by decide +kernel) (by kernel_rfl) (by simp only [List.getElem?_toArray, List.getElem?_cons_succ, List.getElem?_cons_zero]; rfl) (by rfl) (by exact fun _ _ _ h => h) (by exact hHeld) ?_
    try simp only [Act.put, List.setIfInBounds_toArray, List.set_cons_zero, List.set_cons_succ]
    refine takeW (v := ?_) 16 (by decide +kernel) (by decide +kernel) (by kernel_rfl) (by simp only [List.getElem?_toArray, List.getElem?_cons_succ, List.getElem?_cons_zero]; rfl) (by rfl) (by exact fun _ _ _ h => h) (by exact hHeld) ?_ ?_
    rotate_left 1
    focus (intro w8 hSw; (try dsimp only at hSw); obtain ⟨s80, s81, s82⟩ := hSw; go_simp; (try with_reducible rfl); done)
    try simp only [Act.put, List.setIfInBounds_toArray, List.set_cons_zero, List.set_cons_succ]
    refine wpAnyH_done (by decide +kernel) ?_ _
    obtain ⟨d0, d1, d2⟩ := HST.out
    go_wp2_with fail
    go_ret
    exact ⟨rfl, HB.out⟩

end Go.Proofs.Ytkdhchdhgmaolaa.Dd

namespace Go.Proofs.Ytkdhchdhgmaolaa.Dd
open Go.RowKit
open Pk Va
set_option linter.unusedVariables false
set_option linter.unusedSimpArgs false


set_option maxRecDepth 100000 in
set_option maxHeartbeats 4000000 in
theorem dByte_any (g : Nat) (l : List UInt8) (bad : Nat) (w : World) (h : RdD w g l bad) :
    Calls Try.prog 76 #[.pointer (some ⟨g, 0, none⟩)] w fun e w' =>
      e = .returned (.int .i64 ((rdG 0 (decB l) l bad).1 : Nat)) ∧ RdD w' g (rdG 0 (decB l) l bad).2.1 (rdG 0 (decB l) l bad).2.2 ∧ Only g w w' := by
  have hb5 := h.bnd
  obtain ⟨b, a, h1, h2, h3, hl0⟩ := h.is
  have c0 := h1.c0
  have c1 := h1.c1
  have c2 := h1.c2
  have hl : l.length = b.size - a := by rw [hl0]; simp
  have HB := Lib.hid ((Below.refl w.heap.size w).drew)
  have HB2 := Lib.hid ((Below.refl w.heap.size w).drew.drew)
  unfold rdG
  have hD := h1.below HB.out
  have HD := Lib.hid hD
  by_cases hb : bad = 0
  · subst hb
    rw [if_neg (show ¬ (0 ≠ 0) by omega)]
    by_cases he : l = []
    · subst he
      rw [show (if (decB ([] : List UInt8)).2.2 ≠ 0 then ((0 : Nat), ([] : List UInt8), (decB ([] : List UInt8)).2.2) else ((decB ([] : List UInt8)).1, ([] : List UInt8).drop (decB ([] : List UInt8)).2.1, 0)) = ((0 : Nat), ([] : List UInt8), 3) from rfl]
      have hge : (b.size : Int) ≤ (a : Int) := by simp at hl; omega
      have HST := Lib.hid (show w.drew.cell? ⟨g, 0, none⟩ = some (.string b) ∧ w.drew.cell? ⟨g, 1, none⟩ = some (.int .i64 (a : Int)) ∧ w.drew.cell? ⟨g, 2, none⟩ = some (.int .i64 0) from ⟨c0, c1, c2⟩)
      have f2 := hD.f0 2
      have HD1 := Lib.hid (hD.set2 3)
      have k2 : (w.setCell ⟨g, 2, none⟩ (.int .i64 3)).cell? ⟨g, 2, none⟩ = some (.int .i64 3) := (h1.set2 3).c2
      have k3 : (w.setCell ⟨g, 2, none⟩ (.int .i64 3)).drew.cell? ⟨g, 2, none⟩ = some (.int .i64 3) := (h1.set2 3).c2
      have HO := Lib.hid ((Only.of_below (b := g) HB.out).trans (Only.set g w.drew 2 (.int .i64 ((3 : Nat) : Int))))
      clear h h1 c0 c1 c2 hD
      go_enter Try.func76, Try.ntmps76
      go_wp2_with fail
      refine wp_region_held_drew (S := (fun w7 => w7.cell? ⟨g, 0, none⟩ = some (.string b) ∧ w7.cell? ⟨g, 1, none⟩ = some (.int .i64 (a : Int)) ∧ w7.cell? ⟨g, 2, none⟩ = some (.int .i64 0))) (by kernel_rfl) (by exact HST.out) (fun hHeld => ?_)
      refine takeW (v := ?_) 0 (by decide +kernel) (by decide +kernel) (by kernel_rfl) (by simp only [List.getElem?_toArray, List.getElem?_cons_succ, List.getElem?_cons_zero]; rfl) (by rfl) (by exact fun _ _ _ h => h) (by exact hHeld) ?_ ?_
      rotate_left 1
      focus (intro w8 hSw; (try dsimp only at hSw); obtain ⟨s80, s81, s82⟩ := hSw; go_simp; (try with_reducible rfl); done)
      try simp only [Act.put, List.setIfInBounds_toArray, List.set_cons_zero, List.set_cons_succ]
      refine takeW (v := ?_) 1 (by decide +kernel) (by decide +kernel) (by kernel_rfl) (by simp only [List.getElem?_toArray, List.getElem?_cons_succ, List.getElem?_cons_zero]; rfl) (by rfl) (by exact fun _ _ _ h => h) (by exact hHeld) ?_ ?_
      rotate_left 1
      focus (intro w8 hSw; (try dsimp only at hSw); obtain ⟨s80, s81, s82⟩ := hSw; go_simp; (try with_reducible rfl); done)
      try simp only [Act.put, List.setIfInBounds_toArray, List.set_cons_zero, List.set_cons_succ]
      refine takeW (v := ?_) 2 (by decide +kernel) (by decide +kernel) (by kernel_rfl) (by simp only [List.getElem?_toArray, List.getElem?_cons_succ, List.getElem?_cons_zero]; rfl) (by rfl) (by exact fun _ _ _ h => h) (by exact hHeld) ?_ ?_
      rotate_left 1
      focus (intro w8 hSw; (try dsimp only at hSw); obtain ⟨s80, s81, s82⟩ := hSw; go_simp; (try with_reducible rfl); done)
      try simp only [Act.put, List.setIfInBounds_toArray, List.set_cons_zero, List.set_cons_succ]
      refine takeW (v := ?_) 3 (by decide +kernel) (by decide +kernel) (by kernel_rfl) (by simp only [List.getElem?_toArray, List.getElem?_cons_succ, List.getElem?_cons_zero]; rfl) (by rfl) (by exact fun _ _ _ h => h) (by exact hHeld) ?_ ?_
      rotate_left 1
      focus (intro w8 hSw; (try dsimp only at hSw); obtain ⟨s80, s81, s82⟩ := hSw; go_simp; (try with_reducible rfl); done)
      try simp only [Act.put, List.setIfInBounds_toArray, List.set_cons_zero, List.set_cons_succ]
      refine takeW (v := ?_) 4 (by decide +kernel) (by decide +kernel) (by kernel_rfl) (by simp only [List.getElem?_toArray, List.getElem?_cons_succ, List.getElem?_cons_zero]; rfl) (by rfl) (by exact fun _ _ _ h => h) (by exact hHeld) ?_ ?_
      rotate_left 1
      focus (intro w8 hSw; (try dsimp only at hSw); obtain ⟨s80, s81, s82⟩ := hSw; go_simp; (try with_reducible rfl); done)
      try simp only [Act.put, List.setIfInBounds_toArray, List.set_cons_zero, List.set_cons_succ]
      refine takeW (v := ?_) 5 (by decide +kernel) (by decide +kernel) (by kernel_rfl) (by simp only [List.getElem?_toArray, List.getElem?_cons_succ, List.getElem?_cons_zero]; rfl) (by rfl) (by exact fun _ _ _ h => h) (by exact hHeld) ?_ ?_
      rotate_left 1
      focus (intro w8 hSw; (try dsimp only at hSw); obtain ⟨s80, s81, s82⟩ := hSw; go_simp; (try with_reducible rfl); done)
      try simp only [Act.put, List.setIfInBounds_toArray, List.set_cons_zero, List.set_cons_succ]
      refine takeW (v := ?_) 6 (by decide +kernel) (by decide +kernel) (by kernel_rfl) (by simp only [List.getElem?_toArray, List.getElem?_cons_succ, List.getElem?_cons_zero]; rfl) (by rfl) (by exact fun _ _ _ h => h) (by exact hHeld) ?_ ?_
      rotate_left 1
      focus (intro w8 hSw; (try dsimp only at hSw); obtain ⟨s80, s81, s82⟩ := hSw; go_simp; (try with_reducible rfl); done)
      try simp only [Act.put, List.setIfInBounds_toArray, List.set_cons_zero, List.set_cons_succ]
      refine takeW (v := ?_) 7 (by decide +kernel) (by decide +kernel) (by kernel_rfl) (by simp only [List.getElem?_toArray, List.getElem?_cons_succ, List.getElem?_cons_zero]; rfl) (by rfl) (by exact fun _ _ _ h => h) (by exact hHeld) ?_ ?_
      rotate_left 1
      focus (intro w8 hSw; (try dsimp only at hSw); obtain ⟨s80, s81, s82⟩ := hSw; go_simp; (try with_reducible rfl); done)
      try simp only [Act.put, List.setIfInBounds_toArray, List.set_cons_zero, List.set_cons_succ]
      refine takeW (v := ?_) 8 (by decide +kernel) (by decide +kernel) (by kernel_rfl) (by simp only [List.getElem?_toArray, List.getElem?_cons_succ, List.getElem?_cons_zero]; rfl) (by rfl) (by exact fun _ _ _ h => h) (by exact hHeld) ?_ ?_
      rotate_left 1
      focus (intro w8 hSw; (try dsimp only at hSw); obtain ⟨s80, s81, s82⟩ := hSw; go_simp; (try with_reducible rfl); done)
      try simp only [Act.put, List.setIfInBounds_toArray, List.set_cons_zero, List.set_cons_succ]
      refine takeW (v := ?_) 9 (by decide +kernel) (by decide +kernel) (by kernel_rfl) (by simp only [List.getElem?_toArray, List.getElem?_cons_succ, List.getElem?_cons_zero]; rfl) (by rfl) (by exact fun _ _ _ h => h) (by exact hHeld) ?_ ?_
      rotate_left 1
      focus (intro w8 hSw; (try dsimp only at hSw); obtain ⟨s80, s81, s82⟩ := hSw; go_simp; (try with_reducible rfl); done)
      try simp only [Act.put, List.setIfInBounds_toArray, List.set_cons_zero, List.set_cons_succ]
      refine takeW (v := ?_) 10 (by decide +kernel) (by decide +kernel) (by kernel_rfl) (by simp only [List.getElem?_toArray, List.getElem?_cons_succ, List.getElem?_cons_zero]; rfl) (by rfl) (by exact fun _ _ _ h => h) (by exact hHeld) ?_ ?_
      rotate_left 1
      focus (intro w8 hSw; (try dsimp only at hSw); obtain ⟨s80, s81, s82⟩ := hSw; go_simp; (try with_reducible rfl); done)
      try simp only [Act.put, List.setIfInBounds_toArray, List.set_cons_zero, List.set_cons_succ]
      refine takeW (v := ?_) 11 (by decide +kernel) (by decide +kernel) (by kernel_rfl) (by simp only [List.getElem?_toArray, List.getElem?_cons_succ, List.getElem?_cons_zero]; rfl) (by rfl) (by exact fun _ _ _ h => h) (by exact hHeld) ?_ ?_
      rotate_left 1
      focus (intro w8 hSw; (try dsimp only at hSw); obtain ⟨s80, s81, s82⟩ := hSw; go_simp; (try with_reducible rfl); done)
      try simp only [Act.put, List.setIfInBounds_toArray, List.set_cons_zero, List.set_cons_succ]
      refine takeW (v := ?_) 12 (by decide +kernel) (by decide +kernel) (by kernel_rfl) (by simp only [List.getElem?_toArray, List.getElem?_cons_succ, List.getElem?_cons_zero]; rfl) (by rfl) (by exact fun _ _ _ h => h) (by exact hHeld) ?_ ?_
      rotate_left 1
      focus (intro w8 hSw; (try dsimp only at hSw); obtain ⟨s80, s81, s82⟩ := hSw; go_simp; (try with_reducible rfl); done)
      try simp only [Act.put, List.setIfInBounds_toArray, List.set_cons_zero, List.set_cons_succ]
      refine takeW (v := ?_) 13 (by decide +kernel) (by decide +kernel) (by kernel_rfl) (by simp only [List.getElem?_toArray, List.getElem?_cons_succ, List.getElem?_cons_zero]; rfl) (by rfl) (by exact fun _ _ _ h => h) (by exact hHeld) ?_ ?_
      rotate_left 1
      focus (intro w8 hSw; (try dsimp only at hSw); obtain ⟨s80, s81, s82⟩ := hSw; go_simp; (try with_reducible rfl); done)
      try simp only [Act.put, List.setIfInBounds_toArray, List.set_cons_zero, List.set_cons_succ]
      refine takeW (v := ?_) 14 (by decide +kernel) (by decide +kernel) (by kernel_rfl) (by simp only [List.getElem?_toArray, List.getElem?_cons_succ, List.getElem?_cons_zero]; rfl) (by rfl) (by exact fun _ _ _ h => h) (by exact hHeld) ?_ ?_
      rotate_left 1
      focus (intro w8 hSw; (try dsimp only at hSw); obtain ⟨s80, s81, s82⟩ := hSw; go_simp; (try with_reducible rfl); done)
      try simp only [Act.put, List.setIfInBounds_toArray, List.set_cons_zero, List.set_cons_succ]
      refine takeW (v := ?_) 15 (by decide +kernel) (by decide +kernel) (by kernel_rfl) (by simp only [List.getElem?_toArray, List.getElem?_cons_succ, List.getElem?_cons_zero]; rfl) (by rfl) (by exact fun _ _ _ h => h) (by exact hHeld) ?_ ?_
      rotate_left 1
      focus (intro w8 hSw; (try dsimp only at hSw); obtain ⟨s80, s81, s82⟩ := hSw; go_simp; (try with_reducible rfl); done)
      try simp only [Act.put, List.setIfInBounds_toArray, List.set_cons_zero, List.set_cons_succ]
      refine takeW (v := ?_) 16 (by decide +kernel) (by decide +kernel) (by kernel_rfl) (by simp only [List.getElem?_toArray, List.getElem?_cons_succ, List.getElem?_cons_zero]; rfl) (by rfl) (by exact fun _ _ _ h => h) (by exact hHeld) ?_ ?_
      rotate_left 1
      focus (intro w8 hSw; (try dsimp only at hSw); obtain ⟨s80, s81, s82⟩ := hSw; go_simp; (try with_reducible rfl); done)
      try simp only [Act.put, List.setIfInBounds_toArray, List.set_cons_zero, List.set_cons_succ]
      refine wpAnyH_done (by decide +kernel) ?_ _
      obtain ⟨d0, d1, d2⟩ := HST.out
      go_wp2_with fail
      go_ret
      exact ⟨rfl, rdd HD1.out h2 h3 hl0 (by omega), HO.out⟩
    · obtain ⟨c, l2, rfl⟩ : ∃ c l2, l = c :: l2 := by cases l with | nil => exact absurd rfl he | cons c l2 => exact ⟨c, l2, rfl⟩
      rw [show (if (decB (c :: l2)).2.2 ≠ 0 then ((0 : Nat), (c :: l2), (decB (c :: l2)).2.2) else ((decB (c :: l2)).1, (c :: l2).drop (decB (c :: l2)).2.1, 0)) = (c.toNat, l2, 0) from rfl]
      have hwra : IntKind.i64.wrap (a : Int) = (a : Int) := by rw [IntKind.wrap_i64]; omega
      have hlt : a < b.size := by simp at hl; omega
      have hge : ¬ (b.size : Int) ≤ (a : Int) := by omega
      have hgei : (a : Int) < (b.size : Int) := by omega
      have hc : b[a]'hlt = c := by
        have := getElem_list b a hlt
        rw [← this]
        have h9 : (b.data.toList.drop a)[0]? = some c := by rw [← hl0]; rfl
        rw [List.getElem?_drop] at h9
        simp only [Nat.add_zero] at h9
        simp [List.getD, h9]
      have hwr : IntKind.i64.wrap ((a : Int) + 1) = (a : Int) + 1 := by rw [IntKind.wrap_i64]; omega
      have hwr2 : IntKind.i64.wrap ((a : Int) + 1 - 1) = (a : Int) := by rw [IntKind.wrap_i64]; omega
      have hwc : IntKind.i64.wrap (c.toNat : Int) = (c.toNat : Int) := by have := c.toNat_lt; rw [IntKind.wrap_i64]; omega
      have HST := Lib.hid (show w.drew.cell? ⟨g, 0, none⟩ = some (.string b) ∧ w.drew.cell? ⟨g, 1, none⟩ = some (.int .i64 (a : Int)) ∧ w.drew.cell? ⟨g, 2, none⟩ = some (.int .i64 0) from ⟨c0, c1, c2⟩)
      have f1 := hD.f0 1
      have HD1 := Lib.hid (show DrAt ((w.setCell ⟨g, 1, none⟩ (.int .i64 ((a + 1 : Nat) : Int))).drew.drew) g b (a + 1) 0 from h1.set1 (a + 1))
      have HST3 := Lib.hid (show (w.setCell ⟨g, 1, none⟩ (.int .i64 ((a : Int) + 1))).drew.drew.cell? ⟨g, 0, none⟩ = some (.string b) ∧ (w.setCell ⟨g, 1, none⟩ (.int .i64 ((a : Int) + 1))).drew.drew.cell? ⟨g, 1, none⟩ = some (.int .i64 ((a : Int) + 1)) ∧ True from ⟨(h1.set1 (a + 1)).c0, (h1.set1 (a + 1)).c1, trivial⟩)
      have HCN := Lib.hid hc
      have HO := Lib.hid (show Only g w ((w.setCell ⟨g, 1, none⟩ (.int .i64 ((a + 1 : Nat) : Int))).drew.drew) from only_drew (only_drew (Only.set g w 1 _)))
      have hds : l2 = b.data.toList.drop (a + 1) := by rw [show l2 = (c :: l2).drop 1 from rfl, hl0, List.drop_drop]
      clear h h1 c0 c1 c2 hD
      go_enter Try.func76, Try.ntmps76
      go_wp2_with fail
      refine wp_region_held_drew (S := (fun w7 => w7.cell? ⟨g, 0, none⟩ = some (.string b) ∧ w7.cell? ⟨g, 1, none⟩ = some (.int .i64 (a : Int)) ∧ w7.cell? ⟨g, 2, none⟩ = some (.int .i64 0))) (by kernel_rfl) (by exact HST.out) (fun hHeld => ?_)
      refine takeW (v := ?_) 0 (by decide +kernel) (by decide +kernel) (by kernel_rfl) (by simp only [List.getElem?_toArray, List.getElem?_cons_succ, List.getElem?_cons_zero]; rfl) (by rfl) (by exact fun _ _ _ h => h) (by exact hHeld) ?_ ?_
      rotate_left 1
      focus (intro w8 hSw; (try dsimp only at hSw); obtain ⟨s80, s81, s82⟩ := hSw; go_simp; (try with_reducible rfl); done)
      try simp only [Act.put, List.setIfInBounds_toArray, List.set_cons_zero, List.set_cons_succ]
      refine takeW (v := ?_) 1 (by decide +kernel) (by decide +kernel) (by kernel_rfl) (by simp only [List.getElem?_toArray, List.getElem?_cons_succ, List.getElem?_cons_zero]; rfl) (by rfl) (by exact fun _ _ _ h => h) (by exact hHeld) ?_ ?_
      rotate_left 1
      focus (intro w8 hSw; (try dsimp only at hSw); obtain ⟨s80, s81, s82⟩ := hSw; go_simp; (try with_reducible rfl); done)
      try simp only [Act.put, List.setIfInBounds_toArray, List.set_cons_zero, List.set_cons_succ]
      refine takeW (v := ?_) 2 (by decide +kernel) (by decide +kernel) (by kernel_rfl) (by simp only [List.getElem?_toArray, List.getElem?_cons_succ, List.getElem?_cons_zero]; rfl) (by rfl) (by exact fun _ _ _ h => h) (by exact hHeld) ?_ ?_
      rotate_left 1
      focus (intro w8 hSw; (try dsimp only at hSw); obtain ⟨s80, s81, s82⟩ := hSw; go_simp; (try with_reducible rfl); done)
      try simp only [Act.put, List.setIfInBounds_toArray, List.set_cons_zero, List.set_cons_succ]
      refine takeW (v := ?_) 3 (by decide +kernel) (by decide +kernel) (by kernel_rfl) (by simp only [List.getElem?_toArray, List.getElem?_cons_succ, List.getElem?_cons_zero]; rfl) (by rfl) (by exact fun _ _ _ h => h) (by exact hHeld) ?_ ?_
      rotate_left 1
      focus (intro w8 hSw; (try dsimp only at hSw); obtain ⟨s80, s81, s82⟩ := hSw; go_simp; (try with_reducible rfl); done)
      try simp only [Act.put, List.setIfInBounds_toArray, List.set_cons_zero, List.set_cons_succ]
      refine takeW (v := ?_) 4 (by decide +kernel) (by decide +kernel) (by kernel_rfl) (by simp only [List.getElem?_toArray, List.getElem?_cons_succ, List.getElem?_cons_zero]; rfl) (by rfl) (by exact fun _ _ _ h => h) (by exact hHeld) ?_ ?_
      rotate_left 1
      focus (intro w8 hSw; (try dsimp only at hSw); obtain ⟨s80, s81, s82⟩ := hSw; go_simp; (try with_reducible rfl); done)
      try simp only [Act.put, List.setIfInBounds_toArray, List.set_cons_zero, List.set_cons_succ]
      refine takeW (v := ?_) 5 (by decide +kernel) (by decide +kernel) (by kernel_rfl) (by simp only [List.getElem?_toArray, List.getElem?_cons_succ, List.getElem?_cons_zero]; rfl) (by rfl) (by exact fun _ _ _ h => h) (by exact hHeld) ?_ ?_
      rotate_left 1
      focus (intro w8 hSw; (try dsimp only at hSw); obtain ⟨s80, s81, s82⟩ := hSw; go_simp; (try with_reducible rfl); done)
      try simp only [Act.put, List.setIfInBounds_toArray, List.set_cons_zero, List.set_cons_succ]
      refine takeW (v := ?_) 6 (by decide +kernel) (by decide +kernel) (by kernel_rfl) (by simp only [List.getElem?_toArray, List.getElem?_cons_succ, List.getElem?_cons_zero]; rfl) (by rfl) (by exact fun _ _ _ h => h) (by exact hHeld) ?_ ?_
      rotate_left 1
      focus (intro w8 hSw; (try dsimp only at hSw); obtain ⟨s80, s81, s82⟩ := hSw; go_simp; (try with_reducible rfl); done)
      try simp only [Act.put, List.setIfInBounds_toArray, List.set_cons_zero, List.set_cons_succ]
      refine takeW (v := ?_) 7 (by decide +kernel) (by decide +kernel) (by kernel_rfl) (by simp only [List.getElem?_toArray, List.getElem?_cons_succ, List.getElem?_cons_zero]; rfl) (by rfl) (by exact fun _ _ _ h => h) (by exact hHeld) ?_ ?_
      rotate_left 1
      focus (intro w8 hSw; (try dsimp only at hSw); obtain ⟨s80, s81, s82⟩ := hSw; go_simp; (try with_reducible rfl); done)
      try simp only [Act.put, List.setIfInBounds_toArray, List.set_cons_zero, List.set_cons_succ]
      refine takeW (v := ?_) 8 (by decide +kernel) (by decide +kernel) (by kernel_rfl) (by simp only [List.getElem?_toArray, List.getElem?_cons_succ, List.getElem?_cons_zero]; rfl) (by rfl) (by exact fun _ _ _ h => h) (by exact hHeld) ?_ ?_
      rotate_left 1
      focus (intro w8 hSw; (try dsimp only at hSw); obtain ⟨s80, s81, s82⟩ := hSw; go_simp; (try with_reducible rfl); done)
      try simp only [Act.put, List.setIfInBounds_toArray, List.set_cons_zero, List.set_cons_succ]
      refine takeW (v := ?_) 9 (by decide +kernel) (by decide +kernel) (by kernel_rfl) (by simp only [List.getElem?_toArray, List.getElem?_cons_succ, List.getElem?_cons_zero]; rfl) (by rfl) (by exact fun _ _ _ h => h) (by exact hHeld) ?_ ?_
      rotate_left 1
      focus (intro w8 hSw; (try dsimp only at hSw); obtain ⟨s80, s81, s82⟩ := hSw; go_simp; (try with_reducible rfl); done)
      try simp only [Act.put, List.setIfInBounds_toArray, List.set_cons_zero, List.set_cons_succ]
      refine takeW (v := ?_) 10 (by decide +kernel) (by decide +kernel) (by kernel_rfl) (by simp only [List.getElem?_toArray, List.getElem?_cons_succ, List.getElem?_cons_zero]; rfl) (by rfl) (by exact fun _ _ _ h => h) (by exact hHeld) ?_ ?_
      rotate_left 1
      focus (intro w8 hSw; (try dsimp only at hSw); obtain ⟨s80, s81, s82⟩ := hSw; go_simp; (try with_reducible rfl); done)
      try simp only [Act.put, List.setIfInBounds_toArray, List.set_cons_zero, List.set_cons_succ]
      refine takeW (v := ?_) 11 (by decide +kernel) (by decide +kernel) (by kernel_rfl) (by simp only [List.getElem?_toArray, List.getElem?_cons_succ, List.getElem?_cons_zero]; rfl) (by rfl) (by exact fun _ _ _ h => h) (by exact hHeld) ?_ ?_
      rotate_left 1
      focus (intro w8 hSw; (try dsimp only at hSw); obtain ⟨s80, s81, s82⟩ := hSw; go_simp; (try with_reducible rfl); done)
      try simp only [Act.put, List.setIfInBounds_toArray, List.set_cons_zero, List.set_cons_succ]
      refine takeW (v := ?_) 12 (by decide +kernel) (by decide +kernel) (by kernel_rfl) (by simp only [List.getElem?_toArray, List.getElem?_cons_succ, List.getElem?_cons_zero]; rfl) (by rfl) (by exact fun _ _ _ h => h) (by exact hHeld) ?_ ?_
      rotate_left 1
      focus (intro w8 hSw; (try dsimp only at hSw); obtain ⟨s80, s81, s82⟩ := hSw; go_simp; (try with_reducible rfl); done)
      try simp only [Act.put, List.setIfInBounds_toArray, List.set_cons_zero, List.set_cons_succ]
      refine takeW (v := ?_) 13 (by decide +kernel) (by decide +kernel) (by kernel_rfl) (by simp only [List.getElem?_toArray, List.getElem?_cons_succ, List.getElem?_cons_zero]; rfl) (by rfl) (by exact fun _ _ _ h => h) (by exact hHeld) ?_ ?_
      rotate_left 1
      focus (intro w8 hSw; (try dsimp only at hSw); obtain ⟨s80, s81, s82⟩ := hSw; go_simp; (try with_reducible rfl); done)
      try simp only [Act.put, List.setIfInBounds_toArray, List.set_cons_zero, List.set_cons_succ]
      refine takeW (v := ?_) 14 (by decide +kernel) (by decide +kernel) (by kernel_rfl) (by simp only [List.getElem?_toArray, List.getElem?_cons_succ, List.getElem?_cons_zero]; rfl) (by rfl) (by exact fun _ _ _ h => h) (by exact hHeld) ?_ ?_
      rotate_left 1
      focus (intro w8 hSw; (try dsimp only at hSw); obtain ⟨s80, s81, s82⟩ := hSw; go_simp; (try with_reducible rfl); done)
      try simp only [Act.put, List.setIfInBounds_toArray, List.set_cons_zero, List.set_cons_succ]
      refine takeW (v := ?_) 15 (by decide +kernel) (by decide +kernel) (by kernel_rfl) (by simp only [List.getElem?_toArray, List.getElem?_cons_succ, List.getElem?_cons_zero]; rfl) (by rfl) (by exact fun _ _ _ h => h) (by exact hHeld) ?_ ?_
      rotate_left 1
      focus (intro w8 hSw; (try dsimp only at hSw); obtain ⟨s80, s81, s82⟩ := hSw; go_simp; (try with_reducible rfl); done)
      try simp only [Act.put, List.setIfInBounds_toArray, List.set_cons_zero, List.set_cons_succ]
      refine takeW (v := ?_) 16 (by decide +kernel) (by decide +kernel) (by kernel_rfl) (by simp only [List.getElem?_toArray, List.getElem?_cons_succ, List.getElem?_cons_zero]; rfl) (by rfl) (by exact fun _ _ _ h => h) (by exact hHeld) ?_ ?_
      rotate_left 1
      focus (intro w8 hSw; (try dsimp only at hSw); obtain ⟨s80, s81, s82⟩ := hSw; go_simp; (try with_reducible rfl); done)
      try simp only [Act.put, List.setIfInBounds_toArray, List.set_cons_zero, List.set_cons_succ]
      refine wpAnyH_done (by decide +kernel) ?_ _
      obtain ⟨d0, d1, d2⟩ := HST.out
      go_wp2_with fail
      refine wp_region_held_drew (S := (fun w7 => w7.cell? ⟨g, 0, none⟩ = some (.string b) ∧ w7.cell? ⟨g, 1, none⟩ = some (.int .i64 ((a : Int) + 1)) ∧ True)) (by kernel_rfl) (by exact HST3.out) (fun hHeld => ?_)
      refine takeW (v := ?_) 0 (by decide +kernel) (by decide +kernel) (by kernel_rfl) (by simp only [List.getElem?_toArray, List.getElem?_cons_succ, List.getElem?_cons_zero]; rfl) (by rfl) (by exact fun _ _ _ h => h) (by exact hHeld) ?_ ?_
      rotate_left 1
      focus (intro w8 hSw; (try dsimp only at hSw); obtain ⟨s80, s81, s82⟩ := hSw; go_simp; (try with_reducible rfl); done)
      try simp only [Act.put, List.setIfInBounds_toArray, List.set_cons_zero, List.set_cons_succ]
      refine takeW (v := ?_) 1 (by decide +kernel) (by decide +kernel) (by kernel_rfl) (by simp only [List.getElem?_toArray, List.getElem?_cons_succ, List.getElem?_cons_zero]; rfl) (by rfl) (by exact fun _ _ _ h => h) (by exact hHeld) ?_ ?_
      rotate_left 1
      focus (intro w8 hSw; (try dsimp only at hSw); obtain ⟨s80, s81, s82⟩ := hSw; go_simp; (try with_reducible rfl); done)
      try simp only [Act.put, List.setIfInBounds_toArray, List.set_cons_zero, List.set_cons_succ]
      refine takeW (v := ?_) 2 (by decide +kernel) (by decide +kernel) (by kernel_rfl) (by simp only [List.getElem?_toArray, List.getElem?_cons_succ, List.getElem?_cons_zero]; rfl) (by rfl) (by exact fun _ _ _ h => h) (by exact hHeld) ?_ ?_
      rotate_left 1
      focus (intro w8 hSw; (try dsimp only at hSw); obtain ⟨s80, s81, s82⟩ := hSw; go_simp; (try with_reducible rfl); done)
      try simp only [Act.put, List.setIfInBounds_toArray, List.set_cons_zero, List.set_cons_succ]
      refine takeW (v := ?_) 3 (by decide +kernel) (by decide +kernel) (by kernel_rfl) (by simp only [List.getElem?_toArray, List.getElem?_cons_succ, List.getElem?_cons_zero]; rfl) (by rfl) (by exact fun _ _ _ h => h) (by exact hHeld) ?_ ?_
      rotate_left 1
      focus (intro w8 hSw; (try dsimp only at hSw); obtain ⟨s80, s81, s82⟩ := hSw; go_simp; (try with_reducible rfl); done)
      try simp only [Act.put, List.setIfInBounds_toArray, List.set_cons_zero, List.set_cons_succ]
      refine takeW (v := ?_) 4 (by decide +kernel) (by decide +kernel) (by kernel_rfl) (by simp only [List.getElem?_toArray, List.getElem?_cons_succ, List.getElem?_cons_zero]; rfl) (by rfl) (by exact fun _ _ _ h => h) (by exact hHeld) ?_ ?_
      rotate_left 1
      focus (intro w8 hSw; (try dsimp only at hSw); obtain ⟨s80, s81, s82⟩ := hSw; go_simp; (try with_reducible rfl); done)
      try simp only [Act.put, List.setIfInBounds_toArray, List.set_cons_zero, List.set_cons_succ]
      refine takeW (v := ?_) 5 (by decide +kernel) (by decide +kernel) (by kernel_rfl) (by simp only [List.getElem?_toArray, List.getElem?_cons_succ, List.getElem?_cons_zero]; rfl) (by rfl) (by exact fun _ _ _ h => h) (by exact hHeld) ?_ ?_
      rotate_left 1
      focus (intro w8 hSw; (try dsimp only at hSw); obtain ⟨s80, s81, s82⟩ := hSw; go_simp; (try with_reducible rfl); done)
      try simp only [Act.put, List.setIfInBounds_toArray, List.set_cons_zero, List.set_cons_succ]
      refine takeW (v := ?_) 6 (by decide +kernel) (by decide +kernel) (by kernel_rfl) (by simp only [List.getElem?_toArray, List.getElem?_cons_succ, List.getElem?_cons_zero]; rfl) (by rfl) (by exact fun _ _ _ h => h) (by exact hHeld) ?_ ?_
      rotate_left 1
      focus (intro w8 hSw; (try dsimp only at hSw); obtain ⟨s80, s81, s82⟩ := hSw; go_simp; (try with_reducible rfl); done)
      try simp only [Act.put, List.setIfInBounds_toArray, List.set_cons_zero, List.set_cons_succ]
      refine takeW (v := ?_) 7 (by decide +kernel) (by decide +kernel) (by kernel_rfl) (by simp only [List.getElem?_toArray, List.getElem?_cons_succ, List.getElem?_cons_zero]; rfl) (by rfl) (by exact fun _ _ _ h => h) (by exact hHeld) ?_ ?_
      rotate_left 1
      focus (intro w8 hSw; (try dsimp only at hSw); obtain ⟨s80, s81, s82⟩ := hSw; go_simp; (try with_reducible rfl); done)
      try simp only [Act.put, List.setIfInBounds_toArray, List.set_cons_zero, List.set_cons_succ]
      refine takeW (v := ?_) 8 (by decide +kernel) (by decide +kernel) (by kernel_rfl) (by simp only [List.getElem?_toArray, List.getElem?_cons_succ, List.getElem?_cons_zero]; rfl) (by rfl) (by exact fun _ _ _ h => h) (by exact hHeld) ?_ ?_
      rotate_left 1
      focus (intro w8 hSw; (try dsimp only at hSw); obtain ⟨s80, s81, s82⟩ := hSw; go_simp; (try with_reducible rfl); done)
      try simp only [Act.put, List.setIfInBounds_toArray, List.set_cons_zero, List.set_cons_succ]
      refine takeW (v := ?_) 9 (by decide +kernel) (by decide +kernel) (by kernel_rfl) (by simp only [List.getElem?_toArray, List.getElem?_cons_succ, List.getElem?_cons_zero]; rfl) (by rfl) (by exact fun _ _ _ h => h) (by exact hHeld) ?_ ?_
      rotate_left 1
      focus (intro w8 hSw; (try dsimp only at hSw); obtain ⟨s80, s81, s82⟩ := hSw; go_simp; (try with_reducible rfl); done)
      try simp only [Act.put, List.setIfInBounds_toArray, List.set_cons_zero, List.set_cons_succ]
      refine takeW (v := ?_) 10 (by decide +kernel) (by decide +kernel) (by kernel_rfl) (by simp only [List.getElem?_toArray, List.getElem?_cons_succ, List.getElem?_cons_zero]; rfl) (by rfl) (by exact fun _ _ _ h => h) (by exact hHeld) ?_ ?_
      rotate_left 1
      focus (intro w8 hSw; (try dsimp only at hSw); obtain ⟨s80, s81, s82⟩ := hSw; go_simp; (try with_reducible rfl); done)
      try simp only [Act.put, List.setIfInBounds_toArray, List.set_cons_zero, List.set_cons_succ]
      refine takeW (v := ?_) 11 (by decide +kernel) (by decide +kernel) (by kernel_rfl) (by simp only [List.getElem?_toArray, List.getElem?_cons_succ, List.getElem?_cons_zero]; rfl) (by rfl) (by exact fun _ _ _ h => h) (by exact hHeld) ?_ ?_
      rotate_left 1
      focus (intro w8 hSw; (try dsimp only at hSw); obtain ⟨s80, s81, s82⟩ := hSw; go_simp; (try with_reducible rfl); done)
      try simp only [Act.put, List.setIfInBounds_toArray, List.set_cons_zero, List.set_cons_succ]
      refine wpAnyH_done (by decide +kernel) ?_ _
      go_wp2_with fail
      go_ret
      exact ⟨rfl, rdd HD1.out (by omega) h3 hds (by omega), HO.out⟩
  · rw [if_pos hb]
    have h3e := (err_ne bad hb).1
    have h4e := (err_ne bad hb).2
    have HST := Lib.hid (show w.drew.cell? ⟨g, 0, none⟩ = some (.string b) ∧ w.drew.cell? ⟨g, 1, none⟩ = some (.int .i64 (a : Int)) ∧ w.drew.cell? ⟨g, 2, none⟩ = some (.int .i64 (bad : Int)) from ⟨c0, c1, c2⟩)
    clear h h1 c0 c1 c2 hD
    go_enter Try.func76, Try.ntmps76
    go_wp2_with fail
    refine wp_region_held_drew (S := (fun w7 => w7.cell? ⟨g, 0, none⟩ = some (.string b) ∧ w7.cell? ⟨g, 1, none⟩ = some (.int .i64 (a : Int)) ∧ w7.cell? ⟨g, 2, none⟩ = some (.int .i64 (bad : Int)))) (by kernel_rfl) (by exact HST.out) (fun hHeld => ?_)
    refine takeW (v := ?_) 0 (by decide +kernel) (by decide +kernel) (by kernel_rfl) (by simp only [List.getElem?_toArray, List.getElem?_cons_succ, List.getElem?_cons_zero]; rfl) (by rfl) (by exact fun _ _ _ h => h) (by exact hHeld) ?_ ?_
    rotate_left 1
    focus (intro w8 hSw; (try dsimp only at hSw); obtain ⟨s80, s81, s82⟩ := hSw; go_simp; (try with_reducible rfl); done)
    try simp only [Act.put, List.setIfInBounds_toArray, List.set_cons_zero, List.set_cons_succ]
    refine takeW (v := ?_) 1 (by decide +kernel) (by decide +kernel) (by kernel_rfl) (by simp only [List.getElem?_toArray, List.getElem?_cons_succ, List.getElem?_cons_zero]; rfl) (by rfl) (by exact fun _ _ _ h => h) (by exact hHeld) ?_ ?_
    rotate_left 1
    focus (intro w8 hSw; (try dsimp only at hSw); obtain ⟨s80, s81, s82⟩ := hSw; go_simp; (try with_reducible rfl); done)
    try simp only [Act.put, List.setIfInBounds_toArray, List.set_cons_zero, List.set_cons_succ]
    refine takeW (v := ?_) 2 (by decide +kernel) (by decide +kernel) (by kernel_rfl) (by simp only [List.getElem?_toArray, List.getElem?_cons_succ, List.getElem?_cons_zero]; rfl) (by rfl) (by exact fun _ _ _ h => h) (by exact hHeld) ?_ ?_
    rotate_left 1
    focus (intro w8 hSw; (try dsimp only at hSw); obtain ⟨s80, s81, s82⟩ := hSw; go_simp; (try with_reducible rfl); done)
    try simp only [Act.put, List.setIfInBounds_toArray, List.set_cons_zero, List.set_cons_succ]
    refine takeW (v := ?_) 3 (by decide +kernel) (by decide +kernel) (by kernel_rfl) (by simp only [List.getElem?_toArray, List.getElem?_cons_succ, List.getElem?_cons_zero]; rfl) (by rfl) (by exact fun _ _ _ h => h) (by exact hHeld) ?_ ?_
    rotate_left 1
    focus (intro w8 hSw; (try dsimp only at hSw); obtain ⟨s80, s81, s82⟩ := hSw; go_simp; (try with_reducible rfl); done)
    try simp only [Act.put, List.setIfInBounds_toArray, List.set_cons_zero, List.set_cons_succ]
    refine takeW (v := ?_) 4 (by decide +kernel) (by decide +kernel) (by kernel_rfl) (by simp only [List.getElem?_toArray, List.getElem?_cons_succ, List.getElem?_cons_zero]; rfl) (by rfl) (by exact fun _ _ _ h => h) (by exact hHeld) ?_ ?_
    rotate_left 1
    focus (intro w8 hSw; (try dsimp only at hSw); obtain ⟨s80, s81, s82⟩ := hSw; go_simp; (try with_reducible rfl); done)
    try simp only [Act.put, List.setIfInBounds_toArray, List.set_cons_zero, List.set_cons_succ]
    refine takeW (v := ?_) 5 (by decide +kernel) (by decide +kernel) (by kernel_rfl) (by simp only [List.getElem?_toArray, List.getElem?_cons_succ, List.getElem?_cons_zero]; rfl) (by rfl) (by exact fun _ _ _ h => h) (by exact hHeld) ?_ ?_
    rotate_left 1
    focus (intro w8 hSw; (try dsimp only at hSw); obtain ⟨s80, s81, s82⟩ := hSw; go_simp; (try with_reducible rfl); done)
    try simp only [Act.put, List.setIfInBounds_toArray, List.set_cons_zero, List.set_cons_succ]
    refine takeU 6 (by decide +kernel) (by decide +kernel) (by kernel_rfl) (by simp only [List.getElem?_toArray, List.getElem?_cons_succ, List.getElem?_cons_zero]; rfl) (by rfl) (by exact fun _ _ _ h => h) (by exact hHeld) ?_
    try simp only [Act.put, List.setIfInBounds_toArray, List.set_cons_zero, List.set_cons_succ]
    refine takeU 7 (by decide +kernel) (by decide +kernel) (by kernel_rfl) (by simp only [List.getElem?_toArray, List.getElem?_cons_succ, List.getElem?_cons_zero]; rfl) (by rfl) (by exact fun _ _ _ h => h) (by exact hHeld) ?_
    try simp only [Act.put, List.setIfInBounds_toArray, List.set_cons_zero, List.set_cons_succ]
    refine takeU 8 (by decide +kernel) (by decide +kernel) (by kernel_rfl) (by simp only [List.getElem?_toArray, List.getElem?_cons_succ, List.getElem?_cons_zero]; rfl) (by rfl) (by exact fun _ _ _ h => h) (by exact hHeld) ?_
    try simp only [Act.put, List.setIfInBounds_toArray, List.set_cons_zero, List.set_cons_succ]
    refine takeU 9 (by decide +kernel) (by decide +kernel) (by kernel_rfl) (by simp only [List.getElem?_toArray, List.getElem?_cons_succ, List.getElem?_cons_zero]; rfl) (by rfl) (by exact fun _ _ _ h => h) (by exact hHeld) ?_
    try simp only [Act.put, List.setIfInBounds_toArray, List.set_cons_zero, List.set_cons_succ]
    refine takeU 10 (by decide +kernel) (by decide +kernel) (by kernel_rfl) (by simp only [List.getElem?_toArray, List.getElem?_cons_succ, List.getElem?_cons_zero]; rfl) (by rfl) (by exact fun _ _ _ h => h) (by exact hHeld) ?_
    try simp only [Act.put, List.setIfInBounds_toArray, List.set_cons_zero, List.set_cons_succ]
    refine takeU 11 (by decide +kernel) (by decide +kernel) (by kernel_rfl) (by simp only [List.getElem?_toArray, List.getElem?_cons_succ, List.getElem?_cons_zero]; rfl) (by rfl) (by exact fun _ _ _ h => h) (by exact hHeld) ?_
    try simp only [Act.put, List.setIfInBounds_toArray, List.set_cons_zero, List.set_cons_succ]
    refine takeU 12 (by decide +kernel) (by decide +kernel) (by kernel_rfl) (by simp only [List.getElem?_toArray, List.getElem?_cons_succ, List.getElem?_cons_zero]; rfl) (by rfl) (by exact fun _ _ _ h => h) (by exact hHeld) ?_
    try simp only [Act.put, List.setIfInBounds_toArray, List.set_cons_zero, List.set_cons_succ]
    refine takeU 13 (by decide +kernel) (by decide +kernel) (by kernel_rfl) (by simp only [List.getElem?_toArray, List.getElem?_cons_succ, List.getElem?_cons_zero]; rfl) (by rfl) (by exact fun _ _ _ h => h) (by exact hHeld) ?_
    try simp only [Act.put, List.setIfInBounds_toArray, List.set_cons_zero, List.set_cons_succ]
    refine takeU 14 (by decide +kernel) (by decide +kernel) (by kernel_rfl) (by simp only [List.getElem?_toArray, List.getElem?_cons_succ, List.getElem?_cons_zero]; rfl) (by rfl) (by exact fun _ _ _ h => h) (by exact hHeld) ?_
    try simp only [Act.put, List.setIfInBounds_toArray, List.set_cons_zero, List.set_cons_succ]
    refine takeU 15 (by decide +kernel) (by decide +kernel) (by kernel_rfl) (by simp only [List.getElem?_toArray, List.getElem?_cons_succ, List.getElem?_cons_zero]; rfl) (by rfl) (by exact fun _ _ _ h => h) (by exact hHeld) ?_
    try simp only [Act.put, List.setIfInBounds_toArray, List.set_cons_zero, List.set_cons_succ]
    refine takeW (v := ?_) 16 (by decide +kernel) (by decide +kernel) (by kernel_rfl) (by simp only [List.getElem?_toArray, List.getElem?_cons_succ, List.getElem?_cons_zero]; rfl) (by rfl) (by exact fun _ _ _ h => h) (by exact hHeld) ?_ ?_
    rotate_left 1
    focus (intro w8 hSw; (try dsimp only at hSw); obtain ⟨s80, s81, s82⟩ := hSw; go_simp; (try with_reducible rfl); done)
    try simp only [Act.put, List.setIfInBounds_toArray, List.set_cons_zero, List.set_cons_succ]
    refine wpAnyH_done (by decide +kernel) ?_ _
    obtain ⟨d0, d1, d2⟩ := HST.out
    go_wp2_with fail
    go_ret
    exact ⟨rfl, rdd HD.out h2 h3 hl0 hb5, Only.of_below HB.out⟩

set_option maxRecDepth 100000 in
set_option maxHeartbeats 4000000 in
theorem dTruth_any (g : Nat) (l : List UInt8) (bad : Nat) (w : World) (h : RdD w g l bad) :
    Calls Try.prog 77 #[.pointer (some ⟨g, 0, none⟩)] w fun e w' =>
      e = .returned (.bool (rdG false (decT l) l bad).1) ∧ RdD w' g (rdG false (decT l) l bad).2.1 (rdG false (decT l) l bad).2.2 ∧ Only g w w' := by
  have hb5 := h.bnd
  have h9 := h
  obtain ⟨b, a, h1, h2, h3, hl0⟩ := h.is
  have c0 := h1.c0
  have c1 := h1.c1
  have c2 := h1.c2
  have hl : l.length = b.size - a := by rw [hl0]; simp
  have HB := Lib.hid ((Below.refl w.heap.size w).drew)
  have hD := h1.below HB.out
  have HD := Lib.hid hD
  have HRD := Lib.hid (h9.below HB.out)
  by_cases hb : bad = 0
  · subst hb
    by_cases he : l = []
    · subst he
      rw [show rdG false (decT ([] : List UInt8)) ([] : List UInt8) 0 = (false, ([] : List UInt8), 3) from rfl]
      have hge : ¬ (a : Int) < (b.size : Int) := by simp at hl; omega
      have HBY := Lib.hid (dByte_any g [] 0 w.drew HRD.out)
      rw [show rdG 0 (decB ([] : List UInt8)) ([] : List UInt8) 0 = (0, ([] : List UInt8), 3) from rfl] at HBY
      have HST := Lib.hid (show w.drew.cell? ⟨g, 0, none⟩ = some (.string b) ∧ w.drew.cell? ⟨g, 1, none⟩ = some (.int .i64 (a : Int)) ∧ w.drew.cell? ⟨g, 2, none⟩ = some (.int .i64 0) from ⟨c0, c1, c2⟩)
      clear h h1 c0 c1 c2 hD h9
      have hdec : decide (a < b.size) = false := by simp at hl; simp; omega
      go_enter Try.func77, Try.ntmps77
      go_wp2_with fail
      refine wp_region_held_drew (S := (fun w7 => w7.cell? ⟨g, 0, none⟩ = some (.string b) ∧ w7.cell? ⟨g, 1, none⟩ = some (.int .i64 (a : Int)) ∧ w7.cell? ⟨g, 2, none⟩ = some (.int .i64 0))) (by kernel_rfl) (by exact HST.out) (fun hHeld => ?_)
      refine takeW (v := ?_) 0 (by decide +kernel) (by decide +kernel) (by kernel_rfl) (by simp only [List.getElem?_toArray, List.getElem?_cons_succ, List.getElem?_cons_zero]; rfl) (by rfl) (by exact fun _ _ _ h => h) (by exact hHeld) ?_ ?_
      rotate_left 1
      focus (intro w8 hSw; (try dsimp only at hSw); obtain ⟨s80, s81, s82⟩ := hSw; go_simp; (try simp only [hdec]); (try with_reducible rfl); done)
      try simp only [Act.put, List.setIfInBounds_toArray, List.set_cons_zero, List.set_cons_succ]
      refine takeW (v := ?_) 1 (by decide +kernel) (by decide +kernel) (by kernel_rfl) (by simp only [List.getElem?_toArray, List.getElem?_cons_succ, List.getElem?_cons_zero]; rfl) (by rfl) (by exact fun _ _ _ h => h) (by exact hHeld) ?_ ?_
      rotate_left 1
      focus (intro w8 hSw; (try dsimp only at hSw); obtain ⟨s80, s81, s82⟩ := hSw; go_simp; (try simp only [hdec]); (try with_reducible rfl); done)
      try simp only [Act.put, List.setIfInBounds_toArray, List.set_cons_zero, List.set_cons_succ]
      refine takeW (v := ?_) 2 (by decide +kernel) (by decide +kernel) (by kernel_rfl) (by simp only [List.getElem?_toArray, List.getElem?_cons_succ, List.getElem?_cons_zero]; rfl) (by rfl) (by exact fun _ _ _ h => h) (by exact hHeld) ?_ ?_
      rotate_left 1
      focus (intro w8 hSw; (try dsimp only at hSw); obtain ⟨s80, s81, s82⟩ := hSw; go_simp; (try simp only [hdec]); (try with_reducible rfl); done)
      try simp only [Act.put, List.setIfInBounds_toArray, List.set_cons_zero, List.set_cons_succ]
      refine takeW (v := ?_) 3 (by decide +kernel) (by decide +kernel) (by kernel_rfl) (by simp only [List.getElem?_toArray, List.getElem?_cons_succ, List.getElem?_cons_zero]; rfl) (by rfl) (by exact fun _ _ _ h => h) (by exact hHeld) ?_ ?_
      rotate_left 1
      focus (intro w8 hSw; (try dsimp only at hSw); obtain ⟨s80, s81, s82⟩ := hSw; go_simp; (try simp only [hdec]); (try with_reducible rfl); done)
      try simp only [Act.put, List.setIfInBounds_toArray, List.set_cons_zero, List.set_cons_succ]
      refine takeW (v := ?_) 4 (by decide +kernel) (by decide +kernel) (by kernel_rfl) (by simp only [List.getElem?_toArray, List.getElem?_cons_succ, List.getElem?_cons_zero]; rfl) (by rfl) (by exact fun _ _ _ h => h) (by exact hHeld) ?_ ?_
      rotate_left 1
      focus (intro w8 hSw; (try dsimp only at hSw); obtain ⟨s80, s81, s82⟩ := hSw; go_simp; (try simp only [hdec]); (try with_reducible rfl); done)
      try simp only [Act.put, List.setIfInBounds_toArray, List.set_cons_zero, List.set_cons_succ]
      refine takeW (v := ?_) 5 (by decide +kernel) (by decide +kernel) (by kernel_rfl) (by simp only [List.getElem?_toArray, List.getElem?_cons_succ, List.getElem?_cons_zero]; rfl) (by rfl) (by exact fun _ _ _ h => h) (by exact hHeld) ?_ ?_
      rotate_left 1
      focus (intro w8 hSw; (try dsimp only at hSw); obtain ⟨s80, s81, s82⟩ := hSw; go_simp; (try simp only [hdec]); (try with_reducible rfl); done)
      try simp only [Act.put, List.setIfInBounds_toArray, List.set_cons_zero, List.set_cons_succ]
      refine takeW (v := ?_) 6 (by decide +kernel) (by decide +kernel) (by kernel_rfl) (by simp only [List.getElem?_toArray, List.getElem?_cons_succ, List.getElem?_cons_zero]; rfl) (by rfl) (by exact fun _ _ _ h => h) (by exact hHeld) ?_ ?_
      rotate_left 1
      focus (intro w8 hSw; (try dsimp only at hSw); obtain ⟨s80, s81, s82⟩ := hSw; go_simp; (try simp only [hdec]); (try with_reducible rfl); done)
      try simp only [Act.put, List.setIfInBounds_toArray, List.set_cons_zero, List.set_cons_succ]
      refine takeW (v := ?_) 7 (by decide +kernel) (by decide +kernel) (by kernel_rfl) (by simp only [List.getElem?_toArray, List.getElem?_cons_succ, List.getElem?_cons_zero]; rfl) (by rfl) (by exact fun _ _ _ h => h) (by exact hHeld) ?_ ?_
      rotate_left 1
      focus (intro w8 hSw; (try dsimp only at hSw); obtain ⟨s80, s81, s82⟩ := hSw; go_simp; (try simp only [hdec]); (try with_reducible rfl); done)
      try simp only [Act.put, List.setIfInBounds_toArray, List.set_cons_zero, List.set_cons_succ]
      refine takeW (v := ?_) 8 (by decide +kernel) (by decide +kernel) (by kernel_rfl) (by simp only [List.getElem?_toArray, List.getElem?_cons_succ, List.getElem?_cons_zero]; rfl) (by rfl) (by exact fun _ _ _ h => h) (by exact hHeld) ?_ ?_
      rotate_left 1
      focus (intro w8 hSw; (try dsimp only at hSw); obtain ⟨s80, s81, s82⟩ := hSw; go_simp; (try simp only [hdec]); (try with_reducible rfl); done)
      try simp only [Act.put, List.setIfInBounds_toArray, List.set_cons_zero, List.set_cons_succ]
      refine takeW (v := ?_) 9 (by decide +kernel) (by decide +kernel) (by kernel_rfl) (by simp only [List.getElem?_toArray, List.getElem?_cons_succ, List.getElem?_cons_zero]; rfl) (by rfl) (by exact fun _ _ _ h => h) (by exact hHeld) ?_ ?_
      rotate_left 1
      focus (intro w8 hSw; (try dsimp only at hSw); obtain ⟨s80, s81, s82⟩ := hSw; go_simp; (try simp only [hdec]); (try with_reducible rfl); done)
      try simp only [Act.put, List.setIfInBounds_toArray, List.set_cons_zero, List.set_cons_succ]
      refine takeW (v := ?_) 10 (by decide +kernel) (by decide +kernel) (by kernel_rfl) (by simp only [List.getElem?_toArray, List.getElem?_cons_succ, List.getElem?_cons_zero]; rfl) (by rfl) (by exact fun _ _ _ h => h) (by exact hHeld) ?_ ?_
      rotate_left 1
      focus (intro w8 hSw; (try dsimp only at hSw); obtain ⟨s80, s81, s82⟩ := hSw; go_simp; (try simp only [hdec]); (try with_reducible rfl); done)
      try simp only [Act.put, List.setIfInBounds_toArray, List.set_cons_zero, List.set_cons_succ]
      refine takeW (v := ?_) 11 (by decide +kernel) (by decide +kernel) (by kernel_rfl) (by simp only [List.getElem?_toArray, List.getElem?_cons_succ, List.getElem?_cons_zero]; rfl) (by rfl) (by exact fun _ _ _ h => h) (by exact hHeld) ?_ ?_
      rotate_left 1
      focus (intro w8 hSw; (try dsimp only at hSw); obtain ⟨s80, s81, s82⟩ := hSw; go_simp; (try simp only [hdec]); (try with_reducible rfl); done)
      try simp only [Act.put, List.setIfInBounds_toArray, List.set_cons_zero, List.set_cons_succ]
      refine takeW (v := ?_) 12 (by decide +kernel) (by decide +kernel) (by kernel_rfl) (by simp only [List.getElem?_toArray, List.getElem?_cons_succ, List.getElem?_cons_zero]; rfl) (by rfl) (by exact fun _ _ _ h => h) (by exact hHeld) ?_ ?_
      rotate_left 1
      focus (intro w8 hSw; (try dsimp only at hSw); obtain ⟨s80, s81, s82⟩ := hSw; go_simp; (try simp only [hdec]); (try with_reducible rfl); done)
      try simp only [Act.put, List.setIfInBounds_toArray, List.set_cons_zero, List.set_cons_succ]
      refine takeW (v := ?_) 13 (by decide +kernel) (by decide +kernel) (by kernel_rfl) (by simp only [List.getElem?_toArray, List.getElem?_cons_succ, List.getElem?_cons_zero]; rfl) (by rfl) (by exact fun _ _ _ h => h) (by exact hHeld) ?_ ?_
      rotate_left 1
      focus (intro w8 hSw; (try dsimp only at hSw); obtain ⟨s80, s81, s82⟩ := hSw; go_simp; (try simp only [hdec]); (try with_reducible rfl); done)
      try simp only [Act.put, List.setIfInBounds_toArray, List.set_cons_zero, List.set_cons_succ]
      refine takeW (v := ?_) 14 (by decide +kernel) (by decide +kernel) (by kernel_rfl) (by simp only [List.getElem?_toArray, List.getElem?_cons_succ, List.getElem?_cons_zero]; rfl) (by rfl) (by exact fun _ _ _ h => h) (by exact hHeld) ?_ ?_
      rotate_left 1
      focus (intro w8 hSw; (try dsimp only at hSw); obtain ⟨s80, s81, s82⟩ := hSw; go_simp; (try simp only [hdec]); (try with_reducible rfl); done)
      try simp only [Act.put, List.setIfInBounds_toArray, List.set_cons_zero, List.set_cons_succ]
      refine takeW (v := ?_) 15 (by decide +kernel) (by decide +kernel) (by kernel_rfl) (by simp only [List.getElem?_toArray, List.getElem?_cons_succ, List.getElem?_cons_zero]; rfl) (by rfl) (by exact fun _ _ _ h => h) (by exact hHeld) ?_ ?_
      rotate_left 1
      focus (intro w8 hSw; (try dsimp only at hSw); obtain ⟨s80, s81, s82⟩ := hSw; go_simp; (try simp only [hdec]); (try with_reducible rfl); done)
      try simp only [Act.put, List.setIfInBounds_toArray, List.set_cons_zero, List.set_cons_succ]
      refine takeW (v := ?_) 16 (by decide +kernel) (by decide +kernel) (by kernel_rfl) (by simp only [List.getElem?_toArray, List.getElem?_cons_succ, List.getElem?_cons_zero]; rfl) (by rfl) (by exact fun _ _ _ h => h) (by exact hHeld) ?_ ?_
      rotate_left 1
      focus (intro w8 hSw; (try dsimp only at hSw); obtain ⟨s80, s81, s82⟩ := hSw; go_simp; (try simp only [hdec]); (try with_reducible rfl); done)
      try simp only [Act.put, List.setIfInBounds_toArray, List.set_cons_zero, List.set_cons_succ]
      refine takeW (v := ?_) 17 (by decide +kernel) (by decide +kernel) (by kernel_rfl) (by simp only [List.getElem?_toArray, List.getElem?_cons_succ, List.getElem?_cons_zero]; rfl) (by rfl) (by exact fun _ _ _ h => h) (by exact hHeld) ?_ ?_
      rotate_left 1
      focus (intro w8 hSw; (try dsimp only at hSw); obtain ⟨s80, s81, s82⟩ := hSw; go_simp; (try simp only [hdec]); (try with_reducible rfl); done)
      try simp only [Act.put, List.setIfInBounds_toArray, List.set_cons_zero, List.set_cons_succ]
      refine takeU 18 (by decide +kernel) (by decide +kernel) (by kernel_rfl) (by simp only [List.getElem?_toArray, List.getElem?_cons_succ, List.getElem?_cons_zero]; rfl) (by rfl) (by exact fun _ _ _ h => h) (by exact hHeld) ?_
      try simp only [Act.put, List.setIfInBounds_toArray, List.set_cons_zero, List.set_cons_succ]
      refine takeU 19 (by decide +kernel) (by decide +kernel) (by kernel_rfl) (by simp only [List.getElem?_toArray, List.getElem?_cons_succ, List.getElem?_cons_zero]; rfl) (by rfl) (by exact fun _ _ _ h => h) (by exact hHeld) ?_
      try simp only [Act.put, List.setIfInBounds_toArray, List.set_cons_zero, List.set_cons_succ]
      refine takeU 20 (by decide +kernel) (by decide +kernel) (by kernel_rfl) (by simp only [List.getElem?_toArray, List.getElem?_cons_succ, List.getElem?_cons_zero]; rfl) (by rfl) (by exact fun _ _ _ h => h) (by exact hHeld) ?_
      try simp only [Act.put, List.setIfInBounds_toArray, List.set_cons_zero, List.set_cons_succ]
      refine takeU 21 (by decide +kernel) (by decide +kernel) (by kernel_rfl) (by simp only [List.getElem?_toArray, List.getElem?_cons_succ, List.getElem?_cons_zero]; rfl) (by rfl) (by exact fun _ _ _ h => h) (by exact hHeld) ?_
      try simp only [Act.put, List.setIfInBounds_toArray, List.set_cons_zero, List.set_cons_succ]
      refine takeU 22 (by decide +kernel) (by decide +kernel) (by kernel_rfl) (by simp only [List.getElem?_toArray, List.getElem?_cons_succ, List.getElem?_cons_zero]; rfl) (by rfl) (by exact fun _ _ _ h => h) (by exact hHeld) ?_
      try simp only [Act.put, List.setIfInBounds_toArray, List.set_cons_zero, List.set_cons_succ]
      refine takeU 23 (by decide +kernel) (by decide +kernel) (by kernel_rfl) (by simp only [List.getElem?_toArray, List.getElem?_cons_succ, List.getElem?_cons_zero]; rfl) (by rfl) (by exact fun _ _ _ h => h) (by exact hHeld) ?_
      try simp only [Act.put, List.setIfInBounds_toArray, List.set_cons_zero, List.set_cons_succ]
      refine takeU 24 (by decide +kernel) (by decide +kernel) (by kernel_rfl) (by simp only [List.getElem?_toArray, List.getElem?_cons_succ, List.getElem?_cons_zero]; rfl) (by rfl) (by exact fun _ _ _ h => h) (by exact hHeld) ?_
      try simp only [Act.put, List.setIfInBounds_toArray, List.set_cons_zero, List.set_cons_succ]
      refine takeU 25 (by decide +kernel) (by decide +kernel) (by kernel_rfl) (by simp only [List.getElem?_toArray, List.getElem?_cons_succ, List.getElem?_cons_zero]; rfl) (by rfl) (by exact fun _ _ _ h => h) (by exact hHeld) ?_
      try simp only [Act.put, List.setIfInBounds_toArray, List.set_cons_zero, List.set_cons_succ]
      refine takeU 26 (by decide +kernel) (by decide +kernel) (by kernel_rfl) (by simp only [List.getElem?_toArray, List.getElem?_cons_succ, List.getElem?_cons_zero]; rfl) (by rfl) (by exact fun _ _ _ h => h) (by exact hHeld) ?_
      try simp only [Act.put, List.setIfInBounds_toArray, List.set_cons_zero, List.set_cons_succ]
      refine takeU 27 (by decide +kernel) (by decide +kernel) (by kernel_rfl) (by simp only [List.getElem?_toArray, List.getElem?_cons_succ, List.getElem?_cons_zero]; rfl) (by rfl) (by exact fun _ _ _ h => h) (by exact hHeld) ?_
      try simp only [Act.put, List.setIfInBounds_toArray, List.set_cons_zero, List.set_cons_succ]
      refine takeW (v := ?_) 28 (by decide +kernel) (by decide +kernel) (by kernel_rfl) (by simp only [List.getElem?_toArray, List.getElem?_cons_succ, List.getElem?_cons_zero]; rfl) (by rfl) (by exact fun _ _ _ h => h) (by exact hHeld) ?_ ?_
      rotate_left 1
      focus (intro w8 hSw; (try dsimp only at hSw); obtain ⟨s80, s81, s82⟩ := hSw; go_simp; (try simp only [hdec]); (try with_reducible rfl); done)
      try simp only [Act.put, List.setIfInBounds_toArray, List.set_cons_zero, List.set_cons_succ]
      refine wpAnyH_done (by decide +kernel) ?_ _
      obtain ⟨d0, d1, d2⟩ := HST.out
      go_wp2_with fail
      refine HBY.out.mono ?_
      rintro e w1 ⟨rfl, r1, o1⟩
      have R1 := Lib.hid r1
      have O1 := Lib.hid ((Only.of_below (b := g) HB.out).trans o1)
      clear r1 o1
      go_wp2_with fail
      go_ret
      exact ⟨rfl, R1.out, O1.out⟩
    · obtain ⟨c, l2, rfl⟩ : ∃ c l2, l = c :: l2 := by cases l with | nil => exact absurd rfl he | cons c l2 => exact ⟨c, l2, rfl⟩
      have hwra : IntKind.i64.wrap (a : Int) = (a : Int) := by rw [IntKind.wrap_i64]; omega
      have hlt : a < b.size := by simp at hl; omega
      have hgei : (a : Int) < (b.size : Int) := by omega
      have hc : b[a]'hlt = c := by
        have := getElem_list b a hlt
        rw [← this]
        have h9 : (b.data.toList.drop a)[0]? = some c := by rw [← hl0]; rfl
        rw [List.getElem?_drop] at h9
        simp only [Nat.add_zero] at h9
        simp [List.getD, h9]
      have HST := Lib.hid (show w.drew.cell? ⟨g, 0, none⟩ = some (.string b) ∧ w.drew.cell? ⟨g, 1, none⟩ = some (.int .i64 (a : Int)) ∧ w.drew.cell? ⟨g, 2, none⟩ = some (.int .i64 0) from ⟨c0, c1, c2⟩)
      by_cases hc1 : 1 < c.toNat
      · have hc1i : (1 : Int) < (c.toNat : Int) := by omega
        rw [show rdG false (decT (c :: l2)) (c :: l2) 0 = (false, (c :: l2), 4) by simp [rdG, decT, decB, hc1]]
        have HBY := Lib.hid (dByte_any g (c :: l2) 4 (w.setCell ⟨g, 2, none⟩ (.int .i64 4)).drew (rdd (show DrAt (w.setCell ⟨g, 2, none⟩ (.int .i64 4)).drew g b a 4 from h1.set2 4) h2 h3 hl0 (by omega)))
        rw [show rdG 0 (decB (c :: l2)) (c :: l2) 4 = (0, (c :: l2), 4) from rfl] at HBY
        have HO := Lib.hid (only_drew (Only.set g w 2 (.int .i64 4)))
        have f2 := hD.f0 2
        clear h h1 c0 c1 c2 hD h9
        have hdec : decide (a < b.size) = true := by simp; omega
        go_enter Try.func77, Try.ntmps77
        go_wp2_with fail
        refine wp_region_held_drew (S := (fun w7 => w7.cell? ⟨g, 0, none⟩ = some (.string b) ∧ w7.cell? ⟨g, 1, none⟩ = some (.int .i64 (a : Int)) ∧ w7.cell? ⟨g, 2, none⟩ = some (.int .i64 0))) (by kernel_rfl) (by exact HST.out) (fun hHeld => ?_)
        refine takeW (v := ?_) 0 (by decide +kernel) (by decide +kernel) (by kernel_rfl) (by simp only [List.getElem?_toArray, List.getElem?_cons_succ, List.getElem?_cons_zero]; rfl) (by rfl) (by exact fun _ _ _ h => h) (by exact hHeld) ?_ ?_
        rotate_left 1
        focus (intro w8 hSw; (try dsimp only at hSw); obtain ⟨s80, s81, s82⟩ := hSw; go_simp; (try simp only [hdec]); (try with_reducible rfl); done)
        try simp only [Act.put, List.setIfInBounds_toArray, List.set_cons_zero, List.set_cons_succ]
        refine takeW (v := ?_) 1 (by decide +kernel) (by decide +kernel) (by kernel_rfl) (by simp only [List.getElem?_toArray, List.getElem?_cons_succ, List.getElem?_cons_zero]; rfl) (by rfl) (by exact fun _ _ _ h => h) (by exact hHeld) ?_ ?_
        rotate_left 1
        focus (intro w8 hSw; (try dsimp only at hSw); obtain ⟨s80, s81, s82⟩ := hSw; go_simp; (try simp only [hdec]); (try with_reducible rfl); done)
        try simp only [Act.put, List.setIfInBounds_toArray, List.set_cons_zero, List.set_cons_succ]
        refine takeW (v := ?_) 2 (by decide +kernel) (by decide +kernel) (by kernel_rfl) (by simp only [List.getElem?_toArray, List.getElem?_cons_succ, List.getElem?_cons_zero]; rfl) (by rfl) (by exact fun _ _ _ h => h) (by exact hHeld) ?_ ?_
        rotate_left 1
        focus (intro w8 hSw; (try dsimp only at hSw); obtain ⟨s80, s81, s82⟩ := hSw; go_simp; (try simp only [hdec]); (try with_reducible rfl); done)
        try simp only [Act.put, List.setIfInBounds_toArray, List.set_cons_zero, List.set_cons_succ]
        refine takeW (v := ?_) 3 (by decide +kernel) (by decide +kernel) (by kernel_rfl) (by simp only [List.getElem?_toArray, List.getElem?_cons_succ, List.getElem?_cons_zero]; rfl) (by rfl) (by exact fun _ _ _ h => h) (by exact hHeld) ?_ ?_
        rotate_left 1
        focus (intro w8 hSw; (try dsimp only at hSw); obtain ⟨s80, s81, s82⟩ := hSw; go_simp; (try simp only [hdec]); (try with_reducible rfl); done)
        try simp only [Act.put, List.setIfInBounds_toArray, List.set_cons_zero, List.set_cons_succ]
        refine takeW (v := ?_) 4 (by decide +kernel) (by decide +kernel) (by kernel_rfl) (by simp only [List.getElem?_toArray, List.getElem?_cons_succ, List.getElem?_cons_zero]; rfl) (by rfl) (by exact fun _ _ _ h => h) (by exact hHeld) ?_ ?_
        rotate_left 1
        focus (intro w8 hSw; (try dsimp only at hSw); obtain ⟨s80, s81, s82⟩ := hSw; go_simp; (try simp only [hdec]); (try with_reducible rfl); done)
        try simp only [Act.put, List.setIfInBounds_toArray, List.set_cons_zero, List.set_cons_succ]
        refine takeW (v := ?_) 5 (by decide +kernel) (by decide +kernel) (by kernel_rfl) (by simp only [List.getElem?_toArray, List.getElem?_cons_succ, List.getElem?_cons_zero]; rfl) (by rfl) (by exact fun _ _ _ h => h) (by exact hHeld) ?_ ?_
        rotate_left 1
        focus (intro w8 hSw; (try dsimp only at hSw); obtain ⟨s80, s81, s82⟩ := hSw; go_simp; (try simp only [hdec]); (try with_reducible rfl); done)
        try simp only [Act.put, List.setIfInBounds_toArray, List.set_cons_zero, List.set_cons_succ]
        refine takeW (v := ?_) 6 (by decide +kernel) (by decide +kernel) (by kernel_rfl) (by simp only [List.getElem?_toArray, List.getElem?_cons_succ, List.getElem?_cons_zero]; rfl) (by rfl) (by exact fun _ _ _ h => h) (by exact hHeld) ?_ ?_
        rotate_left 1
        focus (intro w8 hSw; (try dsimp only at hSw); obtain ⟨s80, s81, s82⟩ := hSw; go_simp; (try simp only [hdec]); (try with_reducible rfl); done)
        try simp only [Act.put, List.setIfInBounds_toArray, List.set_cons_zero, List.set_cons_succ]
        refine takeW (v := ?_) 7 (by decide +kernel) (by decide +kernel) (by kernel_rfl) (by simp only [List.getElem?_toArray, List.getElem?_cons_succ, List.getElem?_cons_zero]; rfl) (by rfl) (by exact fun _ _ _ h => h) (by exact hHeld) ?_ ?_
        rotate_left 1
        focus (intro w8 hSw; (try dsimp only at hSw); obtain ⟨s80, s81, s82⟩ := hSw; go_simp; (try simp only [hdec]); (try with_reducible rfl); done)
        try simp only [Act.put, List.setIfInBounds_toArray, List.set_cons_zero, List.set_cons_succ]
        refine takeW (v := ?_) 8 (by decide +kernel) (by decide +kernel) (by kernel_rfl) (by simp only [List.getElem?_toArray, List.getElem?_cons_succ, List.getElem?_cons_zero]; rfl) (by rfl) (by exact fun _ _ _ h => h) (by exact hHeld) ?_ ?_
        rotate_left 1
        focus (intro w8 hSw; (try dsimp only at hSw); obtain ⟨s80, s81, s82⟩ := hSw; go_simp; (try simp only [hdec]); (try with_reducible rfl); done)
        try simp only [Act.put, List.setIfInBounds_toArray, List.set_cons_zero, List.set_cons_succ]
        refine takeW (v := ?_) 9 (by decide +kernel) (by decide +kernel) (by kernel_rfl) (by simp only [List.getElem?_toArray, List.getElem?_cons_succ, List.getElem?_cons_zero]; rfl) (by rfl) (by exact fun _ _ _ h => h) (by exact hHeld) ?_ ?_
        rotate_left 1
        focus (intro w8 hSw; (try dsimp only at hSw); obtain ⟨s80, s81, s82⟩ := hSw; go_simp; (try simp only [hdec]); (try with_reducible rfl); done)
        try simp only [Act.put, List.setIfInBounds_toArray, List.set_cons_zero, List.set_cons_succ]
        refine takeW (v := ?_) 10 (by decide +kernel) (by decide +kernel) (by kernel_rfl) (by simp only [List.getElem?_toArray, List.getElem?_cons_succ, List.getElem?_cons_zero]; rfl) (by rfl) (by exact fun _ _ _ h => h) (by exact hHeld) ?_ ?_
        rotate_left 1
        focus (intro w8 hSw; (try dsimp only at hSw); obtain ⟨s80, s81, s82⟩ := hSw; go_simp; (try simp only [hdec]); (try with_reducible rfl); done)
        try simp only [Act.put, List.setIfInBounds_toArray, List.set_cons_zero, List.set_cons_succ]
        refine takeW (v := ?_) 11 (by decide +kernel) (by decide +kernel) (by kernel_rfl) (by simp only [List.getElem?_toArray, List.getElem?_cons_succ, List.getElem?_cons_zero]; rfl) (by rfl) (by exact fun _ _ _ h => h) (by exact hHeld) ?_ ?_
        rotate_left 1
        focus (intro w8 hSw; (try dsimp only at hSw); obtain ⟨s80, s81, s82⟩ := hSw; go_simp; (try simp only [hdec]); (try with_reducible rfl); done)
        try simp only [Act.put, List.setIfInBounds_toArray, List.set_cons_zero, List.set_cons_succ]
        refine takeW (v := ?_) 12 (by decide +kernel) (by decide +kernel) (by kernel_rfl) (by simp only [List.getElem?_toArray, List.getElem?_cons_succ, List.getElem?_cons_zero]; rfl) (by rfl) (by exact fun _ _ _ h => h) (by exact hHeld) ?_ ?_
        rotate_left 1
        focus (intro w8 hSw; (try dsimp only at hSw); obtain ⟨s80, s81, s82⟩ := hSw; go_simp; (try simp only [hdec]); (try with_reducible rfl); done)
        try simp only [Act.put, List.setIfInBounds_toArray, List.set_cons_zero, List.set_cons_succ]
        refine takeW (v := ?_) 13 (by decide +kernel) (by decide +kernel) (by kernel_rfl) (by simp only [List.getElem?_toArray, List.getElem?_cons_succ, List.getElem?_cons_zero]; rfl) (by rfl) (by exact fun _ _ _ h => h) (by exact hHeld) ?_ ?_
        rotate_left 1
        focus (intro w8 hSw; (try dsimp only at hSw); obtain ⟨s80, s81, s82⟩ := hSw; go_simp; (try simp only [hdec]); (try with_reducible rfl); done)
        try simp only [Act.put, List.setIfInBounds_toArray, List.set_cons_zero, List.set_cons_succ]
        refine takeW (v := ?_) 14 (by decide +kernel) (by decide +kernel) (by kernel_rfl) (by simp only [List.getElem?_toArray, List.getElem?_cons_succ, List.getElem?_cons_zero]; rfl) (by rfl) (by exact fun _ _ _ h => h) (by exact hHeld) ?_ ?_
        rotate_left 1
        focus (intro w8 hSw; (try dsimp only at hSw); obtain ⟨s80, s81, s82⟩ := hSw; go_simp; (try simp only [hdec]); (try with_reducible rfl); done)
        try simp only [Act.put, List.setIfInBounds_toArray, List.set_cons_zero, List.set_cons_succ]
        refine takeW (v := ?_) 15 (by decide +kernel) (by decide +kernel) (by kernel_rfl) (by simp only [List.getElem?_toArray, List.getElem?_cons_succ, List.getElem?_cons_zero]; rfl) (by rfl) (by exact fun _ _ _ h => h) (by exact hHeld) ?_ ?_
        rotate_left 1
        focus (intro w8 hSw; (try dsimp only at hSw); obtain ⟨s80, s81, s82⟩ := hSw; go_simp; (try simp only [hdec]); (try with_reducible rfl); done)
        try simp only [Act.put, List.setIfInBounds_toArray, List.set_cons_zero, List.set_cons_succ]
        refine takeW (v := ?_) 16 (by decide +kernel) (by decide +kernel) (by kernel_rfl) (by simp only [List.getElem?_toArray, List.getElem?_cons_succ, List.getElem?_cons_zero]; rfl) (by rfl) (by exact fun _ _ _ h => h) (by exact hHeld) ?_ ?_
        rotate_left 1
        focus (intro w8 hSw; (try dsimp only at hSw); obtain ⟨s80, s81, s82⟩ := hSw; go_simp; (try simp only [hdec]); (try with_reducible rfl); done)
        try simp only [Act.put, List.setIfInBounds_toArray, List.set_cons_zero, List.set_cons_succ]
        refine takeW (v := ?_) 17 (by decide +kernel) (by decide +kernel) (by kernel_rfl) (by simp only [List.getElem?_toArray, List.getElem?_cons_succ, List.getElem?_cons_zero]; rfl) (by rfl) (by exact fun _ _ _ h => h) (by exact hHeld) ?_ ?_
        rotate_left 1
        focus (intro w8 hSw; (try dsimp only at hSw); obtain ⟨s80, s81, s82⟩ := hSw; go_simp; (try simp only [hdec]); (try with_reducible rfl); done)
        try simp only [Act.put, List.setIfInBounds_toArray, List.set_cons_zero, List.set_cons_succ]
        refine takeW (v := ?_) 18 (by decide +kernel) (by decide +kernel) (by kernel_rfl) (by simp only [List.getElem?_toArray, List.getElem?_cons_succ, List.getElem?_cons_zero]; rfl) (by rfl) (by exact fun _ _ _ h => h) (by exact hHeld) ?_ ?_
        rotate_left 1
        focus (intro w8 hSw; (try dsimp only at hSw); obtain ⟨s80, s81, s82⟩ := hSw; go_simp; (try simp only [hdec]); (try with_reducible rfl); done)
        try simp only [Act.put, List.setIfInBounds_toArray, List.set_cons_zero, List.set_cons_succ]
        refine takeW (v := ?_) 19 (by decide +kernel) (by decide +kernel) (by kernel_rfl) (by simp only [List.getElem?_toArray, List.getElem?_cons_succ, List.getElem?_cons_zero]; rfl) (by rfl) (by exact fun _ _ _ h => h) (by exact hHeld) ?_ ?_
        rotate_left 1
        focus (intro w8 hSw; (try dsimp only at hSw); obtain ⟨s80, s81, s82⟩ := hSw; go_simp; (try simp only [hdec]); (try with_reducible rfl); done)
        try simp only [Act.put, List.setIfInBounds_toArray, List.set_cons_zero, List.set_cons_succ]
        refine takeW (v := ?_) 20 (by decide +kernel) (by decide +kernel) (by kernel_rfl) (by simp only [List.getElem?_toArray, List.getElem?_cons_succ, List.getElem?_cons_zero]; rfl) (by rfl) (by exact fun _ _ _ h => h) (by exact hHeld) ?_ ?_
        rotate_left 1
        focus (intro w8 hSw; (try dsimp only at hSw); obtain ⟨s80, s81, s82⟩ := hSw; go_simp; (try simp only [hdec]); (try with_reducible rfl); done)
        try simp only [Act.put, List.setIfInBounds_toArray, List.set_cons_zero, List.set_cons_succ]
        refine takeW (v := ?_) 21 (by decide +kernel) (by decide +kernel) (by kernel_rfl) (by simp only [List.getElem?_toArray, List.getElem?_cons_succ, List.getElem?_cons_zero]; rfl) (by rfl) (by exact fun _ _ _ h => h) (by exact hHeld) ?_ ?_
        rotate_left 1
        focus (intro w8 hSw; (try dsimp only at hSw); obtain ⟨s80, s81, s82⟩ := hSw; go_simp; (try simp only [hdec]); (try with_reducible rfl); done)
        try simp only [Act.put, List.setIfInBounds_toArray, List.set_cons_zero, List.set_cons_succ]
        refine takeW (v := ?_) 22 (by decide +kernel) (by decide +kernel) (by kernel_rfl) (by simp only [List.getElem?_toArray, List.getElem?_cons_succ, List.getElem?_cons_zero]; rfl) (by rfl) (by exact fun _ _ _ h => h) (by exact hHeld) ?_ ?_
        rotate_left 1
        focus (intro w8 hSw; (try dsimp only at hSw); obtain ⟨s80, s81, s82⟩ := hSw; go_simp; (try simp only [hdec]); (try with_reducible rfl); done)
        try simp only [Act.put, List.setIfInBounds_toArray, List.set_cons_zero, List.set_cons_succ]
        refine takeW (v := ?_) 23 (by decide +kernel) (by decide +kernel) (by kernel_rfl) (by simp only [List.getElem?_toArray, List.getElem?_cons_succ, List.getElem?_cons_zero]; rfl) (by rfl) (by exact fun _ _ _ h => h) (by exact hHeld) ?_ ?_
        rotate_left 1
        focus (intro w8 hSw; (try dsimp only at hSw); obtain ⟨s80, s81, s82⟩ := hSw; go_simp; (try simp only [hdec]); (try with_reducible rfl); done)
        try simp only [Act.put, List.setIfInBounds_toArray, List.set_cons_zero, List.set_cons_succ]
        refine takeW (v := ?_) 24 (by decide +kernel) (by decide +kernel) (by kernel_rfl) (by simp only [List.getElem?_toArray, List.getElem?_cons_succ, List.getElem?_cons_zero]; rfl) (by rfl) (by exact fun _ _ _ h => h) (by exact hHeld) ?_ ?_
        rotate_left 1
        focus (intro w8 hSw; (try dsimp only at hSw); obtain ⟨s80, s81, s82⟩ := hSw; go_simp; (try simp only [hdec]); (try with_reducible rfl); done)
        try simp only [Act.put, List.setIfInBounds_toArray, List.set_cons_zero, List.set_cons_succ]
        refine takeW (v := ?_) 25 (by decide +kernel) (by decide +kernel) (by kernel_rfl) (by simp only [List.getElem?_toArray, List.getElem?_cons_succ, List.getElem?_cons_zero]; rfl) (by rfl) (by exact fun _ _ _ h => h) (by exact hHeld) ?_ ?_
        rotate_left 1
        focus (intro w8 hSw; (try dsimp only at hSw); obtain ⟨s80, s81, s82⟩ := hSw; go_simp; (try simp only [hdec]); (try with_reducible rfl); done)
        try simp only [Act.put, List.setIfInBounds_toArray, List.set_cons_zero, List.set_cons_succ]
        refine takeW (v := ?_) 26 (by decide +kernel) (by decide +kernel) (by kernel_rfl) (by simp only [List.getElem?_toArray, List.getElem?_cons_succ, List.getElem?_cons_zero]; rfl) (by rfl) (by exact fun _ _ _ h => h) (by exact hHeld) ?_ ?_
        rotate_left 1
        focus (intro w8 hSw; (try dsimp only at hSw); obtain ⟨s80, s81, s82⟩ := hSw; go_simp; (try simp only [hdec]); (try with_reducible rfl); done)
        try simp only [Act.put, List.setIfInBounds_toArray, List.set_cons_zero, List.set_cons_succ]
        refine takeW (v := ?_) 27 (by decide +kernel) (by decide +kernel) (by kernel_rfl) (by simp only [List.getElem?_toArray, List.getElem?_cons_succ, List.getElem?_cons_zero]; rfl) (by rfl) (by exact fun _ _ _ h => h) (by exact hHeld) ?_ ?_
        rotate_left 1
        focus (intro w8 hSw; (try dsimp only at hSw); obtain ⟨s80, s81, s82⟩ := hSw; go_simp; (try simp only [hdec]); (try with_reducible rfl); done)
        try simp only [Act.put, List.setIfInBounds_toArray, List.set_cons_zero, List.set_cons_succ]
        refine takeW (v := ?_) 28 (by decide +kernel) (by decide +kernel) (by kernel_rfl) (by simp only [List.getElem?_toArray, List.getElem?_cons_succ, List.getElem?_cons_zero]; rfl) (by rfl) (by exact fun _ _ _ h => h) (by exact hHeld) ?_ ?_
        rotate_left 1
        focus (intro w8 hSw; (try dsimp only at hSw); obtain ⟨s80, s81, s82⟩ := hSw; go_simp; (try simp only [hdec]); (try with_reducible rfl); done)
        try simp only [Act.put, List.setIfInBounds_toArray, List.set_cons_zero, List.set_cons_succ]
        refine wpAnyH_done (by decide +kernel) ?_ _
        obtain ⟨d0, d1, d2⟩ := HST.out
        go_wp2_with fail
        refine HBY.out.mono ?_
        rintro e w1 ⟨rfl, r1, o1⟩
        have R1 := Lib.hid r1
        have O1 := Lib.hid (HO.out.trans o1)
        clear r1 o1
        go_wp2_with fail
        go_ret
        exact ⟨rfl, R1.out, O1.out⟩
      · have hc1i : ¬ (1 : Int) < (c.toNat : Int) := by omega
        rw [show rdG false (decT (c :: l2)) (c :: l2) 0 = (c.toNat == 1, l2, 0) by simp [rdG, decT, decB, hc1]]
        have HBY := Lib.hid (dByte_any g (c :: l2) 0 w.drew HRD.out)
        rw [show rdG 0 (decB (c :: l2)) (c :: l2) 0 = (c.toNat, l2, 0) from rfl] at HBY
        have HEQ := Lib.hid (show ((c.toNat : Int) == 1) = (c.toNat == 1) by rw [Bool.eq_iff_iff]; simp; omega)
        clear h h1 c0 c1 c2 hD h9
        have hdec : decide (a < b.size) = true := by simp; omega
        go_enter Try.func77, Try.ntmps77
        go_wp2_with fail
        refine wp_region_held_drew (S := (fun w7 => w7.cell? ⟨g, 0, none⟩ = some (.string b) ∧ w7.cell? ⟨g, 1, none⟩ = some (.int .i64 (a : Int)) ∧ w7.cell? ⟨g, 2, none⟩ = some (.int .i64 0))) (by kernel_rfl) (by exact HST.out) (fun hHeld => ?_)
        refine takeW (v := ?_) 0 (by decide +kernel) (by decide +kernel) (by kernel_rfl) (by simp only [List.getElem?_toArray, List.getElem?_cons_succ, List.getElem?_cons_zero]; rfl) (by rfl) (by exact fun _ _ _ h => h) (by exact hHeld) ?_ ?_
        rotate_left 1
        focus (intro w8 hSw; (try dsimp only at hSw); obtain ⟨s80, s81, s82⟩ := hSw; go_simp; (try simp only [hdec]); (try with_reducible rfl); done)
        try simp only [Act.put, List.setIfInBounds_toArray, List.set_cons_zero, List.set_cons_succ]
        refine takeW (v := ?_) 1 (by decide +kernel) (by decide +kernel) (by kernel_rfl) (by simp only [List.getElem?_toArray, List.getElem?_cons_succ, List.getElem?_cons_zero]; rfl) (by rfl) (by exact fun _ _ _ h => h) (by exact hHeld) ?_ ?_
        rotate_left 1
        focus (intro w8 hSw; (try dsimp only at hSw); obtain ⟨s80, s81, s82⟩ := hSw; go_simp; (try simp only [hdec]); (try with_reducible rfl); done)
        try simp only [Act.put, List.setIfInBounds_toArray, List.set_cons_zero, List.set_cons_succ]
        refine takeW (v := ?_) 2 (by decide +kernel) (by decide +kernel) (by kernel_rfl) (by simp only [List.getElem?_toArray, List.getElem?_cons_succ, List.getElem?_cons_zero]; rfl) (by rfl) (by exact fun _ _ _ h => h) (by exact hHeld) ?_ ?_
        rotate_left 1
        focus (intro w8 hSw; (try dsimp only at hSw); obtain ⟨s80, s81, s82⟩ := hSw; go_simp; (try simp only [hdec]); (try with_reducible rfl); done)
        try simp only [Act.put, List.setIfInBounds_toArray, List.set_cons_zero, List.set_cons_succ]
        refine takeW (v := ?_) 3 (by decide +kernel) (by decide +kernel) (by kernel_rfl) (by simp only [List.getElem?_toArray, List.getElem?_cons_succ, List.getElem?_cons_zero]; rfl) (by rfl) (by exact fun _ _ _ h => h) (by exact hHeld) ?_ ?_
        rotate_left 1
        focus (intro w8 hSw; (try dsimp only at hSw); obtain ⟨s80, s81, s82⟩ := hSw; go_simp; (try simp only [hdec]); (try with_reducible rfl); done)
        try simp only [Act.put, List.setIfInBounds_toArray, List.set_cons_zero, List.set_cons_succ]
        refine takeW (v := ?_) 4 (by decide +kernel) (by decide +kernel) (by kernel_rfl) (by simp only [List.getElem?_toArray, List.getElem?_cons_succ, List.getElem?_cons_zero]; rfl) (by rfl) (by exact fun _ _ _ h => h) (by exact hHeld) ?_ ?_
        rotate_left 1
        focus (intro w8 hSw; (try dsimp only at hSw); obtain ⟨s80, s81, s82⟩ := hSw; go_simp; (try simp only [hdec]); (try with_reducible rfl); done)
        try simp only [Act.put, List.setIfInBounds_toArray, List.set_cons_zero, List.set_cons_succ]
        refine takeW (v := ?_) 5 (by decide +kernel) (by decide +kernel) (by kernel_rfl) (by simp only [List.getElem?_toArray, List.getElem?_cons_succ, List.getElem?_cons_zero]; rfl) (by rfl) (by exact fun _ _ _ h => h) (by exact hHeld) ?_ ?_
        rotate_left 1
        focus (intro w8 hSw; (try dsimp only at hSw); obtain ⟨s80, s81, s82⟩ := hSw; go_simp; (try simp only [hdec]); (try with_reducible rfl); done)
        try simp only [Act.put, List.setIfInBounds_toArray, List.set_cons_zero, List.set_cons_succ]
        refine takeW (v := ?_) 6 (by decide +kernel) (by decide +kernel) (by kernel_rfl) (by simp only [List.getElem?_toArray, List.getElem?_cons_succ, List.getElem?_cons_zero]; rfl) (by rfl) (by exact fun _ _ _ h => h) (by exact hHeld) ?_ ?_
        rotate_left 1
        focus (intro w8 hSw; (try dsimp only at hSw); obtain ⟨s80, s81, s82⟩ := hSw; go_simp; (try simp only [hdec]); (try with_reducible rfl); done)
        try simp only [Act.put, List.setIfInBounds_toArray, List.set_cons_zero, List.set_cons_succ]
        refine takeW (v := ?_) 7 (by decide +kernel) (by decide +kernel) (by kernel_rfl) (by simp only [List.getElem?_toArray, List.getElem?_cons_succ, List.getElem?_cons_zero]; rfl) (by rfl) (by exact fun _ _ _ h => h) (by exact hHeld) ?_ ?_
        rotate_left 1
        focus (intro w8 hSw; (try dsimp only at hSw); obtain ⟨s80, s81, s82⟩ := hSw; go_simp; (try simp only [hdec]); (try with_reducible rfl); done)
        try simp only [Act.put, List.setIfInBounds_toArray, List.set_cons_zero, List.set_cons_succ]
        refine takeW (v := ?_) 8 (by decide +kernel) (by decide +kernel) (by kernel_rfl) (by simp only [List.getElem?_toArray, List.getElem?_cons_succ, List.getElem?_cons_zero]; rfl) (by rfl) (by exact fun _ _ _ h => h) (by exact hHeld) ?_ ?_
        rotate_left 1
        focus (intro w8 hSw; (try dsimp only at hSw); obtain ⟨s80, s81, s82⟩ := hSw; go_simp; (try simp only [hdec]); (try with_reducible rfl); done)
        try simp only [Act.put, List.setIfInBounds_toArray, List.set_cons_zero, List.set_cons_succ]
        refine takeW (v := ?_) 9 (by decide +kernel) (by decide +kernel) (by kernel_rfl) (by simp only [List.getElem?_toArray, List.getElem?_cons_succ, List.getElem?_cons_zero]; rfl) (by rfl) (by exact fun _ _ _ h => h) (by exact hHeld) ?_ ?_
        rotate_left 1
        focus (intro w8 hSw; (try dsimp only at hSw); obtain ⟨s80, s81, s82⟩ := hSw; go_simp; (try simp only [hdec]); (try with_reducible rfl); done)
        try simp only [Act.put, List.setIfInBounds_toArray, List.set_cons_zero, List.set_cons_succ]
        refine takeW (v := ?_) 10 (by decide +kernel) (by decide +kernel) (by kernel_rfl) (by simp only [List.getElem?_toArray, List.getElem?_cons_succ, List.getElem?_cons_zero]; rfl) (by rfl) (by exact fun _ _ _ h => h) (by exact hHeld) ?_ ?_
        rotate_left 1
        focus (intro w8 hSw; (try dsimp only at hSw); obtain ⟨s80, s81, s82⟩ := hSw; go_simp; (try simp only [hdec]); (try with_reducible rfl); done)
        try simp only [Act.put, List.setIfInBounds_toArray, List.set_cons_zero, List.set_cons_succ]
        refine takeW (v := ?_) 11 (by decide +kernel) (by decide +kernel) (by kernel_rfl) (by simp only [List.getElem?_toArray, List.getElem?_cons_succ, List.getElem?_cons_zero]; rfl) (by rfl) (by exact fun _ _ _ h => h) (by exact hHeld) ?_ ?_
        rotate_left 1
        focus (intro w8 hSw; (try dsimp only at hSw); obtain ⟨s80, s81, s82⟩ := hSw; go_simp; (try simp only [hdec]); (try with_reducible rfl); done)
        try simp only [Act.put, List.setIfInBounds_toArray, List.set_cons_zero, List.set_cons_succ]
        refine takeW (v := ?_) 12 (by decide +kernel) (by decide +kernel) (by kernel_rfl) (by simp only [List.getElem?_toArray, List.getElem?_cons_succ, List.getElem?_cons_zero]; rfl) (by rfl) (by exact fun _ _ _ h => h) (by exact hHeld) ?_ ?_
        rotate_left 1
        focus (intro w8 hSw; (try dsimp only at hSw); obtain ⟨s80, s81, s82⟩ := hSw; go_simp; (try simp only [hdec]); (try with_reducible rfl); done)
        try simp only [Act.put, List.setIfInBounds_toArray, List.set_cons_zero, List.set_cons_succ]
        refine takeW (v := ?_) 13 (by decide +kernel) (by decide +kernel) (by kernel_rfl) (by simp only [List.getElem?_toArray, List.getElem?_cons_succ, List.getElem?_cons_zero]; rfl) (by rfl) (by exact fun _ _ _ h => h) (by exact hHeld) ?_ ?_
        rotate_left 1
        focus (intro w8 hSw; (try dsimp only at hSw); obtain ⟨s80, s81, s82⟩ := hSw; go_simp; (try simp only [hdec]); (try with_reducible rfl); done)
        try simp only [Act.put, List.setIfInBounds_toArray, List.set_cons_zero, List.set_cons_succ]
        refine takeW (v := ?_) 14 (by decide +kernel) (by decide +kernel) (by kernel_rfl) (by simp only [List.getElem?_toArray, List.getElem?_cons_succ, List.getElem?_cons_zero]; rfl) (by rfl) (by exact fun _ _ _ h => h) (by exact hHeld) ?_ ?_
        rotate_left 1
        focus (intro w8 hSw; (try dsimp only at hSw); obtain ⟨s80, s81, s82⟩ := hSw; go_simp; (try simp only [hdec]); (try with_reducible rfl); done)
        try simp only [Act.put, List.setIfInBounds_toArray, List.set_cons_zero, List.set_cons_succ]
        refine takeW (v := ?_) 15 (by decide +kernel) (by decide +kernel) (by kernel_rfl) (by simp only [List.getElem?_toArray, List.getElem?_cons_succ, List.getElem?_cons_zero]; rfl) (by rfl) (by exact fun _ _ _ h => h) (by exact hHeld) ?_ ?_
        rotate_left 1
        focus (intro w8 hSw; (try dsimp only at hSw); obtain ⟨s80, s81, s82⟩ := hSw; go_simp; (try simp only [hdec]); (try with_reducible rfl); done)
        try simp only [Act.put, List.setIfInBounds_toArray, List.set_cons_zero, List.set_cons_succ]
        refine takeW (v := ?_) 16 (by decide +kernel) (by decide +kernel) (by kernel_rfl) (by simp only [List.getElem?_toArray, List.getElem?_cons_succ, List.getElem?_cons_zero]; rfl) (by rfl) (by exact fun _ _ _ h => h) (by exact hHeld) ?_ ?_
        rotate_left 1
        focus (intro w8 hSw; (try dsimp only at hSw); obtain ⟨s80, s81, s82⟩ := hSw; go_simp; (try simp only [hdec]); (try with_reducible rfl); done)
        try simp only [Act.put, List.setIfInBounds_toArray, List.set_cons_zero, List.set_cons_succ]
        refine takeW (v := ?_) 17 (by decide +kernel) (by decide +kernel) (by kernel_rfl) (by simp only [List.getElem?_toArray, List.getElem?_cons_succ, List.getElem?_cons_zero]; rfl) (by rfl) (by exact fun _ _ _ h => h) (by exact hHeld) ?_ ?_
        rotate_left 1
        focus (intro w8 hSw; (try dsimp only at hSw); obtain ⟨s80, s81, s82⟩ := hSw; go_simp; (try simp only [hdec]); (try with_reducible rfl); done)
        try simp only [Act.put, List.setIfInBounds_toArray, List.set_cons_zero, List.set_cons_succ]
        refine takeW (v := ?_) 18 (by decide +kernel) (by decide +kernel) (by kernel_rfl) (by simp only [List.getElem?_toArray, List.getElem?_cons_succ, List.getElem?_cons_zero]; rfl) (by rfl) (by exact fun _ _ _ h => h) (by exact hHeld) ?_ ?_
        rotate_left 1
        focus (intro w8 hSw; (try dsimp only at hSw); obtain ⟨s80, s81, s82⟩ := hSw; go_simp; (try simp only [hdec]); (try with_reducible rfl); done)
        try simp only [Act.put, List.setIfInBounds_toArray, List.set_cons_zero, List.set_cons_succ]
        refine takeW (v := ?_) 19 (by decide +kernel) (by decide +kernel) (by kernel_rfl) (by simp only [List.getElem?_toArray, List.getElem?_cons_succ, List.getElem?_cons_zero]; rfl) (by rfl) (by exact fun _ _ _ h => h) (by exact hHeld) ?_ ?_
        rotate_left 1
        focus (intro w8 hSw; (try dsimp only at hSw); obtain ⟨s80, s81, s82⟩ := hSw; go_simp; (try simp only [hdec]); (try with_reducible rfl); done)
        try simp only [Act.put, List.setIfInBounds_toArray, List.set_cons_zero, List.set_cons_succ]
        refine takeW (v := ?_) 20 (by decide +kernel) (by decide +kernel) (by kernel_rfl) (by simp only [List.getElem?_toArray, List.getElem?_cons_succ, List.getElem?_cons_zero]; rfl) (by rfl) (by exact fun _ _ _ h => h) (by exact hHeld) ?_ ?_
        rotate_left 1
        focus (intro w8 hSw; (try dsimp only at hSw); obtain ⟨s80, s81, s82⟩ := hSw; go_simp; (try simp only [hdec]); (try with_reducible rfl); done)
        try simp only [Act.put, List.setIfInBounds_toArray, List.set_cons_zero, List.set_cons_succ]
        refine takeW (v := ?_) 21 (by decide +kernel) (by decide +kernel) (by kernel_rfl) (by simp only [List.getElem?_toArray, List.getElem?_cons_succ, List.getElem?_cons_zero]; rfl) (by rfl) (by exact fun _ _ _ h => h) (by exact hHeld) ?_ ?_
        rotate_left 1
        focus (intro w8 hSw; (try dsimp only at hSw); obtain ⟨s80, s81, s82⟩ := hSw; go_simp; (try simp only [hdec]); (try with_reducible rfl); done)
        try simp only [Act.put, List.setIfInBounds_toArray, List.set_cons_zero, List.set_cons_succ]
        refine takeW (v := ?_) 22 (by decide +kernel) (by decide +kernel) (by kernel_rfl) (by simp only [List.getElem?_toArray, List.getElem?_cons_succ, List.getElem?_cons_zero]; rfl) (by rfl) (by exact fun _ _ _ h => h) (by exact hHeld) ?_ ?_
        rotate_left 1
        focus (intro w8 hSw; (try dsimp only at hSw); obtain ⟨s80, s81, s82⟩ := hSw; go_simp; (try simp only [hdec]); (try with_reducible rfl); done)
        try simp only [Act.put, List.setIfInBounds_toArray, List.set_cons_zero, List.set_cons_succ]
        refine takeW (v := ?_) 23 (by decide +kernel) (by decide +kernel) (by kernel_rfl) (by simp only [List.getElem?_toArray, List.getElem?_cons_succ, List.getElem?_cons_zero]; rfl) (by rfl) (by exact fun _ _ _ h => h) (by exact hHeld) ?_ ?_
        rotate_left 1
        focus (intro w8 hSw; (try dsimp only at hSw); obtain ⟨s80, s81, s82⟩ := hSw; go_simp; (try simp only [hdec]); (try with_reducible rfl); done)
        try simp only [Act.put, List.setIfInBounds_toArray, List.set_cons_zero, List.set_cons_succ]
        refine takeW (v := ?_) 24 (by decide +kernel) (by decide +kernel) (by kernel_rfl) (by simp only [List.getElem?_toArray, List.getElem?_cons_succ, List.getElem?_cons_zero]; rfl) (by rfl) (by exact fun _ _ _ h => h) (by exact hHeld) ?_ ?_
        rotate_left 1
        focus (intro w8 hSw; (try dsimp only at hSw); obtain ⟨s80, s81, s82⟩ := hSw; go_simp; (try simp only [hdec]); (try with_reducible rfl); done)
        try simp only [Act.put, List.setIfInBounds_toArray, List.set_cons_zero, List.set_cons_succ]
        refine takeW (v := ?_) 25 (by decide +kernel) (by decide +kernel) (by kernel_rfl) (by simp only [List.getElem?_toArray, List.getElem?_cons_succ, List.getElem?_cons_zero]; rfl) (by rfl) (by exact fun _ _ _ h => h) (by exact hHeld) ?_ ?_
        rotate_left 1
        focus (intro w8 hSw; (try dsimp only at hSw); obtain ⟨s80, s81, s82⟩ := hSw; go_simp; (try simp only [hdec]); (try with_reducible rfl); done)
        try simp only [Act.put, List.setIfInBounds_toArray, List.set_cons_zero, List.set_cons_succ]
        refine takeW (v := ?_) 26 (by decide +kernel) (by decide +kernel) (by kernel_rfl) (by simp only [List.getElem?_toArray, List.getElem?_cons_succ, List.getElem?_cons_zero]; rfl) (by rfl) (by exact fun _ _ _ h => h) (by exact hHeld) ?_ ?_
        rotate_left 1
        focus (intro w8 hSw; (try dsimp only at hSw); obtain ⟨s80, s81, s82⟩ := hSw; go_simp; (try simp only [hdec]); (try with_reducible rfl); done)
        try simp only [Act.put, List.setIfInBounds_toArray, List.set_cons_zero, List.set_cons_succ]
        refine takeW (v := ?_) 27 (by decide +kernel) (by decide +kernel) (by kernel_rfl) (by simp only [List.getElem?_toArray, List.getElem?_cons_succ, List.getElem?_cons_zero]; rfl) (by rfl) (by exact fun _ _ _ h => h) (by exact hHeld) ?_ ?_
        rotate_left 1
        focus (intro w8 hSw; (try dsimp only at hSw); obtain ⟨s80, s81, s82⟩ := hSw; go_simp; (try simp only [hdec]); (try with_reducible rfl); done)
        try simp only [Act.put, List.setIfInBounds_toArray, List.set_cons_zero, List.set_cons_succ]
        refine takeW (v := ?_) 28 (by decide +kernel) (by decide +kernel) (by kernel_rfl) (by simp only [List.getElem?_toArray, List.getElem?_cons_succ, List.getElem?_cons_zero]; rfl) (by rfl) (by exact fun _ _ _ h => h) (by exact hHeld) ?_ ?_
        rotate_left 1
        focus (intro w8 hSw; (try dsimp only at hSw); obtain ⟨s80, s81, s82⟩ := hSw; go_simp; (try simp only [hdec]); (try with_reducible rfl); done)
        try simp only [Act.put, List.setIfInBounds_toArray, List.set_cons_zero, List.set_cons_succ]
        refine wpAnyH_done (by decide +kernel) ?_ _
        obtain ⟨d0, d1, d2⟩ := HST.out
        go_wp2_with fail
        refine HBY.out.mono ?_
        rintro e w1 ⟨rfl, r1, o1⟩
        have R1 := Lib.hid r1
        have O1 := Lib.hid ((Only.of_below (b := g) HB.out).trans o1)
        clear r1 o1
        go_wp2_with fail
        go_ret
        exact ⟨congrArg (fun x => Ending.returned (.bool x)) HEQ.out, R1.out, O1.out⟩
  · rw [show rdG false (decT l) l bad = (false, l, bad) by unfold rdG; rw [if_pos hb]]
    have h3e := (err_ne bad hb).1
    have h4e := (err_ne bad hb).2
    have HBY := Lib.hid (dByte_any g l bad w.drew HRD.out)
    rw [show rdG 0 (decB l) l bad = (0, l, bad) by unfold rdG; rw [if_pos hb]] at HBY
    have HST := Lib.hid (show w.drew.cell? ⟨g, 0, none⟩ = some (.string b) ∧ w.drew.cell? ⟨g, 1, none⟩ = some (.int .i64 (a : Int)) ∧ w.drew.cell? ⟨g, 2, none⟩ = some (.int .i64 (bad : Int)) from ⟨c0, c1, c2⟩)
    clear h h1 c0 c1 c2 hD h9
    go_enter Try.func77, Try.ntmps77
    go_wp2_with fail
    refine wp_region_held_drew (S := (fun w7 => w7.cell? ⟨g, 0, none⟩ = some (.string b) ∧ w7.cell? ⟨g, 1, none⟩ = some (.int .i64 (a : Int)) ∧ w7.cell? ⟨g, 2, none⟩ = some (.int .i64 (bad : Int)))) (by kernel_rfl) (by exact HST.out) (fun hHeld => ?_)
    refine takeW (v := ?_) 0 (by decide +kernel) (by decide +kernel) (by kernel_rfl) (by simp only [List.getElem?_toArray, List.getElem?_cons_succ, List.getElem?_cons_zero]; rfl) (by rfl) (by exact fun _ _ _ h => h) (by exact hHeld) ?_ ?_
    rotate_left 1
    focus (intro w8 hSw; (try dsimp only at hSw); obtain ⟨s80, s81, s82⟩ := hSw; go_simp; (try with_reducible rfl); done)
    try simp only [Act.put, List.setIfInBounds_toArray, List.set_cons_zero, List.set_cons_succ]
    refine takeW (v := ?_) 1 (by decide +kernel) (by decide +kernel) (by kernel_rfl) (by simp only [List.getElem?_toArray, List.getElem?_cons_succ, List.getElem?_cons_zero]; rfl) (by rfl) (by exact fun _ _ _ h => h) (by exact hHeld) ?_ ?_
    rotate_left 1
    focus (intro w8 hSw; (try dsimp only at hSw); obtain ⟨s80, s81, s82⟩ := hSw; go_simp; (try with_reducible rfl); done)
    try simp only [Act.put, List.setIfInBounds_toArray, List.set_cons_zero, List.set_cons_succ]
    refine takeW (v := ?_) 2 (by decide +kernel) (by decide +kernel) (by kernel_rfl) (by simp only [List.getElem?_toArray, List.getElem?_cons_succ, List.getElem?_cons_zero]; rfl) (by rfl) (by exact fun _ _ _ h => h) (by exact hHeld) ?_ ?_
    rotate_left 1
    focus (intro w8 hSw; (try dsimp only at hSw); obtain ⟨s80, s81, s82⟩ := hSw; go_simp; (try with_reducible rfl); done)
    try simp only [Act.put, List.setIfInBounds_toArray, List.set_cons_zero, List.set_cons_succ]
    refine takeW (v := ?_) 3 (by decide +kernel) (by decide +kernel) (by kernel_rfl) (by simp only [List.getElem?_toArray, List.getElem?_cons_succ, List.getElem?_cons_zero]; rfl) (by rfl) (by exact fun _ _ _ h => h) (by exact hHeld) ?_ ?_
    rotate_left 1
    focus (intro w8 hSw; (try dsimp only at hSw); obtain ⟨s80, s81, s82⟩ := hSw; go_simp; (try with_reducible rfl); done)
    try simp only [Act.put, List.setIfInBounds_toArray, List.set_cons_zero, List.set_cons_succ]
    refine takeW (v := ?_) 4 (by decide +kernel) (by decide +kernel) (by kernel_rfl) (by simp only [List.getElem?_toArray, List.getElem?_cons_succ, List.getElem?_cons_zero]; rfl) (by rfl) (by exact fun _ _ _ h => h) (by exact hHeld) ?_ ?_
    rotate_left 1
    focus (intro w8 hSw; (try dsimp only at hSw); obtain ⟨s80, s81, s82⟩ := hSw; go_simp; (try with_reducible rfl); done)
    try simp only [Act.put, List.setIfInBounds_toArray, List.set_cons_zero, List.set_cons_succ]
    refine takeW (v := ?_) 5 (by decide +kernel) (by decide +kernel) (by kernel_rfl) (by simp only [List.getElem?_toArray, List.getElem?_cons_succ, List.getElem?_cons_zero]; rfl) (by rfl) (by exact fun _ _ _ h => h) (by exact hHeld) ?_ ?_
    rotate_left 1
    focus (intro w8 hSw; (try dsimp only at hSw); obtain ⟨s80, s81, s82⟩ := hSw; go_simp; (try with_reducible rfl); done)
    try simp only [Act.put, List.setIfInBounds_toArray, List.set_cons_zero, List.set_cons_succ]
    refine takeU 6 (by decide +kernel) (by decide +kernel) (by kernel_rfl) (by simp only [List.getElem?_toArray, List.getElem?_cons_succ, List.getElem?_cons_zero]; rfl) (by rfl) (by exact fun _ _ _ h => h) (by exact hHeld) ?_
    try simp only [Act.put, List.setIfInBounds_toArray, List.set_cons_zero, List.set_cons_succ]
    refine takeU 7 (by decide +kernel) (by decide +kernel) (by kernel_rfl) (by simp only [List.getElem?_toArray, List.getElem?_cons_succ, List.getElem?_cons_zero]; rfl) (by rfl) (by exact fun _ _ _ h => h) (by exact hHeld) ?_
    try simp only [Act.put, List.setIfInBounds_toArray, List.set_cons_zero, List.set_cons_succ]
    refine takeU 8 (by decide +kernel) (by decide +kernel) (by kernel_rfl) (by simp only [List.getElem?_toArray, List.getElem?_cons_succ, List.getElem?_cons_zero]; rfl) (by rfl) (by exact fun _ _ _ h => h) (by exact hHeld) ?_
    try simp only [Act.put, List.setIfInBounds_toArray, List.set_cons_zero, List.set_cons_succ]
    refine takeU 9 (by decide +kernel) (by decide +kernel) (by kernel_rfl) (by simp only [List.getElem?_toArray, List.getElem?_cons_succ, List.getElem?_cons_zero]; rfl) (by rfl) (by exact fun _ _ _ h => h) (by exact hHeld) ?_
    try simp only [Act.put, List.setIfInBounds_toArray, List.set_cons_zero, List.set_cons_succ]
    refine takeU 10 (by decide +kernel) (by decide +kernel) (by kernel_rfl) (by simp only [List.getElem?_toArray, List.getElem?_cons_succ, List.getElem?_cons_zero]; rfl) (by rfl) (by exact fun _ _ _ h => h) (by exact hHeld) ?_
    try simp only [Act.put, List.setIfInBounds_toArray, List.set_cons_zero, List.set_cons_succ]
    refine takeU 11 (by decide +kernel) (by decide +kernel) (by kernel_rfl) (by simp only [List.getElem?_toArray, List.getElem?_cons_succ, List.getElem?_cons_zero]; rfl) (by rfl) (by exact fun _ _ _ h => h) (by exact hHeld) ?_
    try simp only [Act.put, List.setIfInBounds_toArray, List.set_cons_zero, List.set_cons_succ]
    refine takeU 12 (by decide +kernel) (by decide +kernel) (by kernel_rfl) (by simp only [List.getElem?_toArray, List.getElem?_cons_succ, List.getElem?_cons_zero]; rfl) (by rfl) (by exact fun _ _ _ h => h) (by exact hHeld) ?_
    try simp only [Act.put, List.setIfInBounds_toArray, List.set_cons_zero, List.set_cons_succ]
    refine takeU 13 (by decide +kernel) (by decide +kernel) (by kernel_rfl) (by simp only [List.getElem?_toArray, List.getElem?_cons_succ, List.getElem?_cons_zero]; rfl) (by rfl) (by exact fun _ _ _ h => h) (by exact hHeld) ?_
    try simp only [Act.put, List.setIfInBounds_toArray, List.set_cons_zero, List.set_cons_succ]
    refine takeU 14 (by decide +kernel) (by decide +kernel) (by kernel_rfl) (by simp only [List.getElem?_toArray, List.getElem?_cons_succ, List.getElem?_cons_zero]; rfl) (by rfl) (by exact fun _ _ _ h => h) (by exact hHeld) ?_
    try simp only [Act.put, List.setIfInBounds_toArray, List.set_cons_zero, List.set_cons_succ]
    refine takeU 15 (by decide +kernel) (by decide +kernel) (by kernel_rfl) (by simp only [List.getElem?_toArray, List.getElem?_cons_succ, List.getElem?_cons_zero]; rfl) (by rfl) (by exact fun _ _ _ h => h) (by exact hHeld) ?_
    try simp only [Act.put, List.setIfInBounds_toArray, List.set_cons_zero, List.set_cons_succ]
    refine takeW (v := ?_) 16 (by decide +kernel) (by decide +kernel) (by kernel_rfl) (by simp only [List.getElem?_toArray, List.getElem?_cons_succ, List.getElem?_cons_zero]; rfl) (by rfl) (by exact fun _ _ _ h => h) (by exact hHeld) ?_ ?_
    rotate_left 1
    focus (intro w8 hSw; (try dsimp only at hSw); obtain ⟨s80, s81, s82⟩ := hSw; go_simp; (try with_reducible rfl); done)
    try simp only [Act.put, List.setIfInBounds_toArray, List.set_cons_zero, List.set_cons_succ]
    refine takeW (v := ?_) 17 (by decide +kernel) (by decide +kernel) (by kernel_rfl) (by simp only [List.getElem?_toArray, List.getElem?_cons_succ, List.getElem?_cons_zero]; rfl) (by rfl) (by exact fun _ _ _ h => h) (by exact hHeld) ?_ ?_
    rotate_left 1
    focus (intro w8 hSw; (try dsimp only at hSw); obtain ⟨s80, s81, s82⟩ := hSw; go_simp; (try with_reducible rfl); done)
    try simp only [Act.put, List.setIfInBounds_toArray, List.set_cons_zero, List.set_cons_succ]
    refine takeU 18 (by decide +kernel) (by decide +kernel) (by kernel_rfl) (by simp only [List.getElem?_toArray, List.getElem?_cons_succ, List.getElem?_cons_zero]; rfl) (by rfl) (by exact fun _ _ _ h => h) (by exact hHeld) ?_
    try simp only [Act.put, List.setIfInBounds_toArray, List.set_cons_zero, List.set_cons_succ]
    refine takeU 19 (by decide +kernel) (by decide +kernel) (by kernel_rfl) (by simp only [List.getElem?_toArray, List.getElem?_cons_succ, List.getElem?_cons_zero]; rfl) (by rfl) (by exact fun _ _ _ h => h) (by exact hHeld) ?_
    try simp only [Act.put, List.setIfInBounds_toArray, List.set_cons_zero, List.set_cons_succ]
    refine takeU 20 (by decide +kernel) (by decide +kernel) (by kernel_rfl) (by simp only [List.getElem?_toArray, List.getElem?_cons_succ, List.getElem?_cons_zero]; rfl) (by rfl) (by exact fun _ _ _ h => h) (by exact hHeld) ?_
    try simp only [Act.put, List.setIfInBounds_toArray, List.set_cons_zero, List.set_cons_succ]
    refine takeU 21 (by decide +kernel) (by decide +kernel) (by kernel_rfl) (by simp only [List.getElem?_toArray, List.getElem?_cons_succ, List.getElem?_cons_zero]; rfl) (by rfl) (by exact fun _ _ _ h => h) (by exact hHeld) ?_
    try simp only [Act.put, List.setIfInBounds_toArray, List.set_cons_zero, List.set_cons_succ]
    refine takeU 22 (by decide +kernel) (by decide +kernel) (by kernel_rfl) (by simp only [List.getElem?_toArray, List.getElem?_cons_succ, List.getElem?_cons_zero]; rfl) (by rfl) (by exact fun _ _ _ h => h) (by exact hHeld) ?_
    try simp only [Act.put, List.setIfInBounds_toArray, List.set_cons_zero, List.set_cons_succ]
    refine takeU 23 (by decide +kernel) (by decide +kernel) (by kernel_rfl) (by simp only [List.getElem?_toArray, List.getElem?_cons_succ, List.getElem?_cons_zero]; rfl) (by rfl) (by exact fun _ _ _ h => h) (by exact hHeld) ?_
    try simp only [Act.put, List.setIfInBounds_toArray, List.set_cons_zero, List.set_cons_succ]
    refine takeU 24 (by decide +kernel) (by decide +kernel) (by kernel_rfl) (by simp only [List.getElem?_toArray, List.getElem?_cons_succ, List.getElem?_cons_zero]; rfl) (by rfl) (by exact fun _ _ _ h => h) (by exact hHeld) ?_
    try simp only [Act.put, List.setIfInBounds_toArray, List.set_cons_zero, List.set_cons_succ]
    refine takeU 25 (by decide +kernel) (by decide +kernel) (by kernel_rfl) (by simp only [List.getElem?_toArray, List.getElem?_cons_succ, List.getElem?_cons_zero]; rfl) (by rfl) (by exact fun _ _ _ h => h) (by exact hHeld) ?_
    try simp only [Act.put, List.setIfInBounds_toArray, List.set_cons_zero, List.set_cons_succ]
    refine takeU 26 (by decide +kernel) (by decide +kernel) (by kernel_rfl) (by simp only [List.getElem?_toArray, List.getElem?_cons_succ, List.getElem?_cons_zero]; rfl) (by rfl) (by exact fun _ _ _ h => h) (by exact hHeld) ?_
    try simp only [Act.put, List.setIfInBounds_toArray, List.set_cons_zero, List.set_cons_succ]
    refine takeU 27 (by decide +kernel) (by decide +kernel) (by kernel_rfl) (by simp only [List.getElem?_toArray, List.getElem?_cons_succ, List.getElem?_cons_zero]; rfl) (by rfl) (by exact fun _ _ _ h => h) (by exact hHeld) ?_
    try simp only [Act.put, List.setIfInBounds_toArray, List.set_cons_zero, List.set_cons_succ]
    refine takeW (v := ?_) 28 (by decide +kernel) (by decide +kernel) (by kernel_rfl) (by simp only [List.getElem?_toArray, List.getElem?_cons_succ, List.getElem?_cons_zero]; rfl) (by rfl) (by exact fun _ _ _ h => h) (by exact hHeld) ?_ ?_
    rotate_left 1
    focus (intro w8 hSw; (try dsimp only at hSw); obtain ⟨s80, s81, s82⟩ := hSw; go_simp; (try with_reducible rfl); done)
    try simp only [Act.put, List.setIfInBounds_toArray, List.set_cons_zero, List.set_cons_succ]
    refine wpAnyH_done (by decide +kernel) ?_ _
    obtain ⟨d0, d1, d2⟩ := HST.out
    go_wp2_with fail
    refine HBY.out.mono ?_
    rintro e w1 ⟨rfl, r1, o1⟩
    have R1 := Lib.hid r1
    have O1 := Lib.hid ((Only.of_below (b := g) HB.out).trans o1)
    clear r1 o1
    go_wp2_with fail
    go_ret
    exact ⟨rfl, R1.out, O1.out⟩
end Go.Proofs.Ytkdhchdhgmaolaa.Dd

namespace Go.Proofs.Ytkdhchdhgmaolaa.Dd
open Go.RowKit
open Pk Va
set_option linter.unusedVariables false
set_option linter.unusedSimpArgs false


set_option maxRecDepth 100000 in
set_option maxHeartbeats 4000000 in
theorem dText_any (g : Nat) (l : List UInt8) (bad : Nat) (m : Nat) (hm : m ≤ 100000) (w : World) (h : RdD w g l bad) :
    Calls Try.prog 51 #[.pointer (some ⟨g, 0, none⟩), .int .i64 (m : Int)] w fun e w' =>
      e = .returned (.string (S (rdG [] (decX l m) l bad).1)) ∧ RdD w' g (rdG [] (decX l m) l bad).2.1 (rdG [] (decX l m) l bad).2.2 ∧ Only g w w' := by
  obtain ⟨b, a, h1, h2, h3, hl0⟩ := h.is
  subst hl0
  have hb5 := h.bnd
  have c0 := h1.c0
  have c1 := h1.c1
  have c2 := h1.c2
  have HC := Lib.hid (rcount_any g b h3 a h2 bad w h1)
  have HD := Lib.hid h1
  have hsz := decC_size (b.data.toList.drop a)
  have hl : (b.data.toList.drop a).length = b.size - a := by simp
  obtain ⟨l9, hdl⟩ : ∃ l9, l9 = b.data.toList.drop a := ⟨_, rfl⟩
  have hdd : ∀ n, (b.data.toList.drop a).drop n = b.data.toList.drop (a + n) := fun n => by rw [List.drop_drop]
  clear h
  rw [← hdl] at hsz hdd hl HC ⊢
  have HL9 := Lib.hid hdl
  clear hdl
  rw [hl] at hsz
  unfold cntR at HC
  unfold rdG
  have hms : IntKind.u64.wrap (m : Int) = (m : Int) := by rw [IntKind.wrap_u64]; omega
  have hm0 : ¬ (m : Int) < 0 := by omega
  obtain ⟨⟨v, sz, er⟩, hd⟩ : ∃ d, decC l9 = d := ⟨_, rfl⟩
  have hds : decX l9 m = if er ≠ 0 then ([], 0, er) else if m < v then ([], 0, 5) else if l9.length - sz < v then ([], 0, 3) else ((l9.drop sz).take v, sz + v, 0) := by
    unfold decX decS
    rw [hd]
    by_cases he : er = 0
    · subst he
      by_cases hv : m < v
      · simp [hv, show ((m : Int) < 0 ∨ (m : Int) < (v : Int)) by omega]
      · simp [hv, show ¬ (m : Int) < 0 by omega, show ¬ ((m : Int) < (v : Int)) by omega]
    · simp [he]
  rw [hd] at HC hsz
  rw [hds]
  simp only at HC hsz
  by_cases hb : bad = 0
  · subst hb
    rw [if_neg (show ¬ (0 ≠ 0) by omega)]
    by_cases he : er = 0
    · subst he
      rw [if_neg (show ¬ (0 ≠ 0) by omega)] at HC
      simp only [ne_eq, not_true_eq_false, if_false]
      by_cases hv : m < v
      · simp only [hv, if_true, ne_eq, show ¬ ((5 : Nat) = 0) by decide, not_false_eq_true]
        have hvi : (m : Int) < (v : Int) := by omega
        clear hdd h1 hd hl hds
        go_enter Try.func51, Try.ntmps51
        go_wp2_with fail
        refine HC.out.mono ?_
        rintro e w1 ⟨rfl, b1⟩
        have hd1 := HD.out.below b1
        have c10 := hd1.c0
        have c11 := hd1.c1
        have c12 := hd1.c2
        have f1 := hd1.f0 1
        have f2 := hd1.f0 2
        clear c0 c1 c2
        have HD1 := Lib.hid (hd1.set2 5)
        have HO := Lib.hid ((Only.of_below (b := g) b1).trans (Only.set g w1 2 (.int .i64 ((5 : Nat) : Int))))
        clear b1 hd1
        go_wp2_with fail
        go_ret
        exact ⟨rfl, rdd HD1.out h2 h3 HL9.out (by omega), HO.out⟩
      · simp only [hv, if_false, ne_eq]
        have hvi : ¬ (m : Int) < (v : Int) := by omega
        have hle : a + sz ≤ b.size := by omega
        have hw1 : IntKind.i64.wrap ((b.size : Int) - ((a + sz : Nat) : Int)) = (b.size : Int) - ((a + sz : Nat) : Int) := by rw [IntKind.wrap_i64]; omega
        have hw2 : IntKind.u64.wrap ((b.size : Int) - ((a + sz : Nat) : Int)) = (b.size : Int) - ((a + sz : Nat) : Int) := by rw [IntKind.wrap_u64]; omega
        obtain ⟨en, hen⟩ : ∃ en, en = a + sz := ⟨_, rfl⟩
        rw [← hen] at HC hw1 hw2 hle
        by_cases hr : l9.length - sz < v
        · simp only [hr, if_true, show ¬ ((3 : Nat) = 0) by decide, not_false_eq_true]
          have hri : (b.size : Int) - (en : Int) < (v : Int) := by omega
          clear hdd h1 hd hl hds hen
          go_enter Try.func51, Try.ntmps51
          go_wp2_with fail
          refine HC.out.mono ?_
          rintro e w1 ⟨rfl, b1⟩
          have hd1 := HD.out.below b1
          have c10 := hd1.c0
          have c11 := hd1.c1
          have c12 := hd1.c2
          have f1 := hd1.f0 1
          have f2 := hd1.f0 2
          clear c0 c1 c2
          have HD1 := Lib.hid (hd1.set2 3)
          have HO := Lib.hid ((Only.of_below (b := g) b1).trans (Only.set g w1 2 (.int .i64 ((3 : Nat) : Int))))
          clear b1 hd1
          go_wp2_with fail
          go_ret
          exact ⟨rfl, rdd HD1.out h2 h3 HL9.out (by omega), HO.out⟩
        · simp only [hr, if_false, not_true_eq_false]
          have hri : ¬ (b.size : Int) - (en : Int) < (v : Int) := by omega
          have hvw : IntKind.i64.wrap (v : Int) = (v : Int) := by rw [IntKind.wrap_i64]; omega
          have hwe : IntKind.i64.wrap ((en : Int) + (v : Int)) = (en : Int) + (v : Int) := by rw [IntKind.wrap_i64]; omega
          have hle2 : en + v ≤ b.size := by omega
          have hF : l9.drop (sz + v) = b.data.toList.drop (en + v) := by rw [HL9.out, List.drop_drop, hen, Nat.add_assoc]
          have HF := Lib.hid hF
          have hX : b.extract en (en + v) = S ((l9.drop sz).take v) := by rw [S_extract, HL9.out, List.drop_drop, ← hen, show en + v - en = v by omega]
          have hs2 : (en : Int) ≤ (en : Int) + (v : Int) := by omega
          have hs3 : (en : Int) + (v : Int) ≤ (b.size : Int) := by omega
          have hs4 : ((en : Int) + (v : Int)).toNat = en + v := by omega
          have hs5 : (0 : Int) ≤ (en : Int) + (v : Int) := by omega
          clear hdd h1 hd hl hds hen
          go_enter Try.func51, Try.ntmps51
          go_wp2_with fail
          refine HC.out.mono ?_
          rintro e w1 ⟨rfl, b1⟩
          have hd1 := HD.out.below b1
          have c10 := hd1.c0
          have c11 := hd1.c1
          have c12 := hd1.c2
          have f1 := hd1.f0 1
          have f2 := hd1.f0 2
          clear c0 c1 c2
          have HD1 := Lib.hid (show DrAt ((w1.setCell ⟨g, 1, none⟩ (.int .i64 ((en + v : Nat) : Int))).drew) g b (en + v) 0 from hd1.set1 (en + v))
          have HST3 := Lib.hid (show (w1.setCell ⟨g, 1, none⟩ (.int .i64 ((en : Int) + (v : Int)))).drew.cell? ⟨g, 0, none⟩ = some (.string b) ∧ (w1.setCell ⟨g, 1, none⟩ (.int .i64 ((en : Int) + (v : Int)))).drew.cell? ⟨g, 1, none⟩ = some (.int .i64 ((en : Int) + (v : Int))) ∧ True from ⟨(hd1.set1 (en + v)).c0, (hd1.set1 (en + v)).c1, trivial⟩)
          have HO := Lib.hid (only_drew ((Only.of_below (b := g) b1).trans (Only.set g w1 1 (.int .i64 ((en + v : Nat) : Int)))))
          clear b1 hd1
          go_wp2_with fail
          refine wp_region_held_drew (S := (fun w7 => w7.cell? ⟨g, 0, none⟩ = some (.string b) ∧ w7.cell? ⟨g, 1, none⟩ = some (.int .i64 ((en : Int) + (v : Int))) ∧ True)) (by kernel_rfl) (by exact HST3.out) (fun hHeld => ?_)
          refine takeW (v := ?_) 0 (by decide +kernel) (by decide +kernel) (by kernel_rfl) (by simp only [List.getElem?_toArray, List.getElem?_cons_succ, List.getElem?_cons_zero]; rfl) (by rfl) (by exact fun _ _ _ h => h) (by exact hHeld) ?_ ?_
          rotate_left 1
          focus (intro w8 hSw; (try dsimp only at hSw); obtain ⟨s80, s81, s82⟩ := hSw; go_simp; (try with_reducible rfl); done)
          try simp only [Act.put, List.setIfInBounds_toArray, List.set_cons_zero, List.set_cons_succ]
          refine takeW (v := ?_) 1 (by decide +kernel) (by decide +kernel) (by kernel_rfl) (by simp only [List.getElem?_toArray, List.getElem?_cons_succ, List.getElem?_cons_zero]; rfl) (by rfl) (by exact fun _ _ _ h => h) (by exact hHeld) ?_ ?_
          rotate_left 1
          focus (intro w8 hSw; (try dsimp only at hSw); obtain ⟨s80, s81, s82⟩ := hSw; go_simp; (try with_reducible rfl); done)
          try simp only [Act.put, List.setIfInBounds_toArray, List.set_cons_zero, List.set_cons_succ]
          refine takeW (v := ?_) 2 (by decide +kernel) (by decide +kernel) (by kernel_rfl) (by simp only [List.getElem?_toArray, List.getElem?_cons_succ, List.getElem?_cons_zero]; rfl) (by rfl) (by exact fun _ _ _ h => h) (by exact hHeld) ?_ ?_
          rotate_left 1
          focus (intro w8 hSw; (try dsimp only at hSw); obtain ⟨s80, s81, s82⟩ := hSw; go_simp; (try with_reducible rfl); done)
          try simp only [Act.put, List.setIfInBounds_toArray, List.set_cons_zero, List.set_cons_succ]
          refine takeW (v := ?_) 3 (by decide +kernel) (by decide +kernel) (by kernel_rfl) (by simp only [List.getElem?_toArray, List.getElem?_cons_succ, List.getElem?_cons_zero]; rfl) (by rfl) (by exact fun _ _ _ h => h) (by exact hHeld) ?_ ?_
          rotate_left 1
          focus (intro w8 hSw; (try dsimp only at hSw); obtain ⟨s80, s81, s82⟩ := hSw; go_simp; (try with_reducible rfl); done)
          try simp only [Act.put, List.setIfInBounds_toArray, List.set_cons_zero, List.set_cons_succ]
          refine takeW (v := ?_) 4 (by decide +kernel) (by decide +kernel) (by kernel_rfl) (by simp only [List.getElem?_toArray, List.getElem?_cons_succ, List.getElem?_cons_zero]; rfl) (by rfl) (by exact fun _ _ _ h => h) (by exact hHeld) ?_ ?_
          rotate_left 1
          focus (intro w8 hSw; (try dsimp only at hSw); obtain ⟨s80, s81, s82⟩ := hSw; go_simp; (try with_reducible rfl); done)
          try simp only [Act.put, List.setIfInBounds_toArray, List.set_cons_zero, List.set_cons_succ]
          refine takeW (v := ?_) 5 (by decide +kernel) (by decide +kernel) (by kernel_rfl) (by simp only [List.getElem?_toArray, List.getElem?_cons_succ, List.getElem?_cons_zero]; rfl) (by rfl) (by exact fun _ _ _ h => h) (by exact hHeld) ?_ ?_
          rotate_left 1
          focus (intro w8 hSw; (try dsimp only at hSw); obtain ⟨s80, s81, s82⟩ := hSw; go_simp; (try with_reducible rfl); done)
          try simp only [Act.put, List.setIfInBounds_toArray, List.set_cons_zero, List.set_cons_succ]
          refine takeW (v := ?_) 6 (by decide +kernel) (by decide +kernel) (by kernel_rfl) (by simp only [List.getElem?_toArray, List.getElem?_cons_succ, List.getElem?_cons_zero]; rfl) (by rfl) (by exact fun _ _ _ h => h) (by exact hHeld) ?_ ?_
          rotate_left 1
          focus (intro w8 hSw; (try dsimp only at hSw); obtain ⟨s80, s81, s82⟩ := hSw; go_simp; (try with_reducible rfl); done)
          try simp only [Act.put, List.setIfInBounds_toArray, List.set_cons_zero, List.set_cons_succ]
          refine takeW (v := ?_) 7 (by decide +kernel) (by decide +kernel) (by kernel_rfl) (by simp only [List.getElem?_toArray, List.getElem?_cons_succ, List.getElem?_cons_zero]; rfl) (by rfl) (by exact fun _ _ _ h => h) (by exact hHeld) ?_ ?_
          rotate_left 1
          focus (intro w8 hSw; (try dsimp only at hSw); obtain ⟨s80, s81, s82⟩ := hSw; go_simp; (try with_reducible rfl); done)
          try simp only [Act.put, List.setIfInBounds_toArray, List.set_cons_zero, List.set_cons_succ]
          refine takeW (v := ?_) 8 (by decide +kernel) (by decide +kernel) (by kernel_rfl) (by simp only [List.getElem?_toArray, List.getElem?_cons_succ, List.getElem?_cons_zero]; rfl) (by rfl) (by exact fun _ _ _ h => h) (by exact hHeld) ?_ ?_
          rotate_left 1
          focus (intro w8 hSw; (try dsimp only at hSw); obtain ⟨s80, s81, s82⟩ := hSw; go_simp; (try with_reducible rfl); done)
          try simp only [Act.put, List.setIfInBounds_toArray, List.set_cons_zero, List.set_cons_succ]
          refine takeW (v := ?_) 9 (by decide +kernel) (by decide +kernel) (by kernel_rfl) (by simp only [List.getElem?_toArray, List.getElem?_cons_succ, List.getElem?_cons_zero]; rfl) (by rfl) (by exact fun _ _ _ h => h) (by exact hHeld) ?_ ?_
          rotate_left 1
          focus (intro w8 hSw; (try dsimp only at hSw); obtain ⟨s80, s81, s82⟩ := hSw; go_simp; (try with_reducible rfl); done)
          try simp only [Act.put, List.setIfInBounds_toArray, List.set_cons_zero, List.set_cons_succ]
          refine takeW (v := ?_) 10 (by decide +kernel) (by decide +kernel) (by kernel_rfl) (by simp only [List.getElem?_toArray, List.getElem?_cons_succ, List.getElem?_cons_zero]; rfl) (by rfl) (by exact fun _ _ _ h => h) (by exact hHeld) ?_ ?_
          rotate_left 1
          focus (intro w8 hSw; (try dsimp only at hSw); obtain ⟨s80, s81, s82⟩ := hSw; go_simp; (try with_reducible rfl); done)
          try simp only [Act.put, List.setIfInBounds_toArray, List.set_cons_zero, List.set_cons_succ]
          refine wpAnyH_done (by decide +kernel) ?_ _
          go_wp2_with fail
          go_ret
          exact ⟨by first | rfl | rw [← hX]; rfl, rdd HD1.out hle2 h3 HF.out (by omega), HO.out⟩
    · have h3e := (err_ne er he).1
      have h4e := (err_ne er he).2
      rw [if_pos he] at HC
      simp only [ne_eq, he, not_false_eq_true, if_true]
      clear hdd h1 hd hl he hds
      go_enter Try.func51, Try.ntmps51
      go_wp2_with fail
      refine HC.out.mono ?_
      rintro e w1 ⟨rfl, b1⟩
      have hd1 := HD.out.below b1
      have c10 := hd1.c0
      have c11 := hd1.c1
      have c12 := hd1.c2
      have f1 := hd1.f0 1
      have f2 := hd1.f0 2
      clear c0 c1 c2
      have HD1 := Lib.hid (hd1.set2 er)
      have HO := Lib.hid ((Only.of_below (b := g) b1).trans (Only.set g w1 2 (.int .i64 ((er : Nat) : Int))))
      clear b1 hd1
      go_wp2_with fail
      go_ret
      exact ⟨rfl, rdd HD1.out h2 h3 HL9.out (by omega), HO.out⟩
  · rw [if_pos hb]
    have h3e := (err_ne bad hb).1
    have h4e := (err_ne bad hb).2
    clear hdd h1 hd hl hb hds
    go_enter Try.func51, Try.ntmps51
    go_wp2_with fail
    go_ret
    exact ⟨rfl, rdd HD.out h2 h3 HL9.out hb5, Only.refl _ _⟩
end Go.Proofs.Ytkdhchdhgmaolaa.Dd
