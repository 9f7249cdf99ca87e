/-
  GetValue: the value that bytes are.
-/
import Derived.Test.YtkdhchdhgmaolaaZCdRdD
namespace Go.Proofs.Ytkdhchdhgmaolaa.Cd
open Go.RowKit
open Pk Va
set_option linter.unusedVariables false
set_option linter.unusedSimpArgs false
set_option linter.unnecessarySimpa false

/-- What GetValue answers. -/
def getV (l : List UInt8) : V × Nat := if endV (pVal l 0).2.1 (pVal l 0).2.2 = 0 then ((pVal l 0).1, 0) else (⟨0, 0, [], []⟩, endV (pVal l 0).2.1 (pVal l 0).2.2)
theorem res_bv2 {fn : Func} {p u : Tmp} (h : fn.results = #[.cell p 25, .tmp u]) (tmps : Array Value) (w : World) (g : Nat) (a b c d x : Value)
    (hp : tmps.getD p undef = .pointer (some ⟨g, 0, none⟩)) (hg : BV w g a b c d) (hx : tmps.getD u undef = x) :
    (results fn tmps).run Try.prog w = .ok (.tuple #[.agg #[a, b, c, d], x]) w := by
  have hp' : tmps[p]?.getD undef = .pointer (some ⟨g, 0, none⟩) := by simpa using hp
  have hx' : tmps[u]?.getD undef = x := by simpa using hx
  have hr := run_loadVar_row (P := Try.prog) w g 25 25 #[a, b, c, d] (0, 0) _ hg Try.underlying25 rfl (by kernel_rfl)
  simp [results, h, hp', hx', asAddr, hr]
theorem bput_below {B : Nat} {w w' : World} (h : Below B w w') (g : Nat) (hg : B ≤ g) (x y z u : Value) : Below B w (bput w' g x y z u) :=
  (((h.setCell (p := ⟨g, 0, none⟩) hg x).setCell (p := ⟨g, 1, none⟩) hg y).setCell (p := ⟨g, 2, none⟩) hg z).setCell (p := ⟨g, 3, none⟩) hg u
/-- A reader that is made anew. -/
theorem rdr_new (H : Nat) (l : List UInt8) (w : World) (R : Nat) (hR : RdAt w R l 0) (hH : H ≤ R) (k : Nat) (hk : w.heap.size = k) : RdrR H k R l 0 (w.alloc (.cells #[.pointer (some ⟨R, 0, none⟩)] 133)) := by
  subst hk
  have hlt := hR.lt
  exact ⟨by omega, hH, by omega, heap_alloc_new w _, hR.below ((Below.refl _ _).alloc (Nat.le_refl _) _)⟩

set_option maxRecDepth 100000 in
set_option maxHeartbeats 4000000 in
theorem get_value (s : List UInt8) (hs : s.length ≤ 2000000) (w : World) :
    Calls Try.prog 32 #[.string (S s), .func (Fn.func 33) #[] #[]] w fun e w' =>
      ∃ q cap, e = .returned (.tuple #[valC (getV s).1 q cap, .int .i64 ((getV s).2 : Int)]) ∧ Below w.heap.size w w' ∧ NumsAt w' q (getV s).1.list ∧ ∀ g off, q = some ⟨g, off, none⟩ → (getV s).1.list ≠ [] → w.heap.size ≤ g := by
  have kk := (Below.refl w.heap.size w).alloc (Nat.le_refl _) (.cells #[.int .i64 0, .int .i64 0, .string ⟨#[]⟩, .slice none 0 0] 25)
  have hz0 : BV (w.alloc (.cells #[.int .i64 0, .int .i64 0, .string ⟨#[]⟩, .slice none 0 0] 25)) w.heap.size (.int .i64 0) (.int .i64 0) (.string ⟨#[]⟩) (.slice none 0 0) := heap_alloc_new w _
  have HN := Lib.hid (new_any (S s) (w.alloc (.cells #[.int .i64 0, .int .i64 0, .string ⟨#[]⟩, .slice none 0 0] 25)))
  rw [S_toList, show (w.alloc (.cells #[.int .i64 0, .int .i64 0, .string ⟨#[]⟩, .slice none 0 0] 25)).heap.size = w.heap.size + 1 by simp] at HN
  unfold getV
  obtain ⟨⟨⟨xk, xn, xt, xl⟩, l2, b2⟩, hX⟩ : ∃ x, x = pVal s 0 := ⟨_, rfl⟩
  rw [← hX]
  simp only
  have HX := Lib.hid hX
  have HZ0 := Lib.hid hz0
  have HK := Lib.hid kk
  clear kk hz0 hX
  obtain ⟨ev, hev⟩ : ∃ ev, ev = endV l2 b2 := ⟨_, rfl⟩
  rw [← hev]
  have HEV := Lib.hid hev
  clear hev
  by_cases h0 : ev = 0
  · subst h0
    rw [if_pos rfl]
    unfold valC
    simp only
    generalize hlx : xl.length = lx
    have HLX := Lib.hid hlx
    clear hlx
    go_enter Try.func32, Try.ntmps32
    go_wp2_with fail
    refine HN.out.mono ?_
    rintro e w1 ⟨rfl, r1, b1, s1⟩
    have hz1 : BV w1 w.heap.size (.int .i64 0) (.int .i64 0) (.string ⟨#[]⟩) (.slice none 0 0) := (b1.block _ (Nat.lt_succ_self _)).trans HZ0.out
    have hR2 := rdr_new (w.heap.size + 1) s w1 (w.heap.size + 1) r1 (Nat.le_refl _) w1.heap.size rfl
    have ka := (Below.refl w1.heap.size w1).alloc (Nat.le_refl _) (.cells #[.pointer (some ⟨w.heap.size + 1, 0, none⟩)] 133)
    have hz2 : BV (w1.alloc (.cells #[.pointer (some ⟨w.heap.size + 1, 0, none⟩)] 133)) w.heap.size (.int .i64 0) (.int .i64 0) (.string ⟨#[]⟩) (.slice none 0 0) := (ka.block _ hz1.lt).trans hz1
    have HC := Lib.hid (value_r (w.heap.size + 1) w1.heap.size (w.heap.size + 1) s hs 0 _ hR2)
    rw [← HX.out] at HC
    have HZ2 := Lib.hid hz2
    have HB2 := Lib.hid ((HK.out.trans (b1.mono (Nat.le_succ _))).trans (ka.mono (by omega)))
    have HR2 := Lib.hid hR2
    have HSZ := Lib.hid s1
    clear r1 b1 s1 hz1 hR2 ka hz2
    go_wp2_with fail
    refine HC.out.mono ?_
    rintro e w3 ⟨q, cap, rfl, t3, hn3, hf3⟩
    unfold valC
    simp only at t3 hn3 hf3 ⊢
    rw [HLX.out]
    have kv := (Below.refl w3.heap.size w3).alloc (Nat.le_refl _) (.cells #[.int .i64 xk, .int .i64 xn, .string (S xt), .slice q lx cap] 25)
    have hz3 := (t3.bv HZ2.out (HR2.out.off (Nat.lt_succ_self _))).1
    obtain ⟨R3, hR3⟩ := t3.rdr
    have hR4 := hR3.below kv
    have c0 := hR4.c0
    have HEN := Lib.hid (end_any R3 l2 b2 _ hR4.2.2.2.2)
    rw [← HEV.out] at HEN
    have hz4 : BV (w3.alloc (.cells #[.int .i64 xk, .int .i64 xn, .string (S xt), .slice q lx cap] 25)) w.heap.size (.int .i64 0) (.int .i64 0) (.string ⟨#[]⟩) (.slice none 0 0) := (kv.block _ hz3.lt).trans hz3
    have hn4 := hn3.below kv
    have hne : ∀ b off, q = some ⟨b, off, none⟩ → xl ≠ [] → b ≠ w.heap.size := fun b off e hn => by have h1 := (hf3 b off e hn).1; have h2 := HR2.out.1; have h3 := HR2.out.lt; omega
    have z0 := hz4.c0
    have z1 := hz4.c1
    have z2 := hz4.c2
    have z3 := hz4.c3
    have fz := hz4.fz
    have HB4 := Lib.hid (bput_below ((HB2.out.trans (t3.below.mono (Nat.le_succ _))).trans (kv.mono (Nat.le_of_lt hz3.lt))) w.heap.size (Nat.le_refl _) (.int .i64 xk) (.int .i64 xn) (.string (S xt)) (.slice q lx cap))
    have HP := Lib.hid (hz4.put (.int .i64 xk) (.int .i64 xn) (.string (S xt)) (.slice q lx cap))
    have HN4 := Lib.hid (NumsAt.bput hn4 w.heap.size hne (.int .i64 xk) (.int .i64 xn) (.string (S xt)) (.slice q lx cap))
    have HFR := Lib.hid (fun g off (e : q = some ⟨g, off, none⟩) (hn : xl ≠ []) => show w.heap.size ≤ g from by have h1 := (hf3 g off e hn).1; have h2 := HR2.out.1; have h3 := HR2.out.lt; omega)
    clear t3 hn3 hf3 kv hz3 hR3 hR4 hz4 hn4 hne
    go_wp2_with fail
    refine HEN.out.mono ?_
    rintro e w5 ⟨rfl, rfl⟩
    go_wp2_with fail
    refine bodyPost_ret (res_bv2 rfl _ _ w.heap.size _ _ _ _ (.int .i64 0) rfl HP.out rfl) rfl ?_
    exact ⟨q, cap, rfl, HB4.out, HN4.out, HFR.out⟩
  · rw [if_neg h0]
    have h3 := (err_ne ev h0).1
    clear h0
    unfold valC
    simp only
    go_enter Try.func32, Try.ntmps32
    go_wp2_with fail
    refine HN.out.mono ?_
    rintro e w1 ⟨rfl, r1, b1, s1⟩
    have hz1 : BV w1 w.heap.size (.int .i64 0) (.int .i64 0) (.string ⟨#[]⟩) (.slice none 0 0) := (b1.block _ (Nat.lt_succ_self _)).trans HZ0.out
    have hR2 := rdr_new (w.heap.size + 1) s w1 (w.heap.size + 1) r1 (Nat.le_refl _) w1.heap.size rfl
    have ka := (Below.refl w1.heap.size w1).alloc (Nat.le_refl _) (.cells #[.pointer (some ⟨w.heap.size + 1, 0, none⟩)] 133)
    have hz2 : BV (w1.alloc (.cells #[.pointer (some ⟨w.heap.size + 1, 0, none⟩)] 133)) w.heap.size (.int .i64 0) (.int .i64 0) (.string ⟨#[]⟩) (.slice none 0 0) := (ka.block _ hz1.lt).trans hz1
    have HC := Lib.hid (value_r (w.heap.size + 1) w1.heap.size (w.heap.size + 1) s hs 0 _ hR2)
    rw [← HX.out] at HC
    have HZ2 := Lib.hid hz2
    have HB2 := Lib.hid ((HK.out.trans (b1.mono (Nat.le_succ _))).trans (ka.mono (by omega)))
    have HR2 := Lib.hid hR2
    clear r1 b1 s1 hz1 hR2 ka hz2
    go_wp2_with fail
    refine HC.out.mono ?_
    rintro e w3 ⟨q, cap, rfl, t3, hn3, hf3⟩
    unfold valC
    simp only at t3 hn3 hf3 ⊢
    have kv := (Below.refl w3.heap.size w3).alloc (Nat.le_refl _) (.cells #[.int .i64 xk, .int .i64 xn, .string (S xt), .slice q xl.length cap] 25)
    have kv2 := kv.alloc kv.size (.cells #[.int .i64 0, .int .i64 0, .string ⟨#[]⟩, .slice none 0 0] 25)
    have hz3 := (t3.bv HZ2.out (HR2.out.off (Nat.lt_succ_self _))).1
    obtain ⟨R3, hR3⟩ := t3.rdr
    have hR4 := hR3.below kv
    have c0 := hR4.c0
    have HEN := Lib.hid (end_any R3 l2 b2 _ hR4.2.2.2.2)
    rw [← HEV.out] at HEN
    have hz4 : BV ((w3.alloc (.cells #[.int .i64 xk, .int .i64 xn, .string (S xt), .slice q xl.length cap] 25)).alloc (.cells #[.int .i64 0, .int .i64 0, .string ⟨#[]⟩, .slice none 0 0] 25)) w.heap.size (.int .i64 0) (.int .i64 0) (.string ⟨#[]⟩) (.slice none 0 0) := (kv2.block _ hz3.lt).trans hz3
    have z0 := hz4.c0
    have z1 := hz4.c1
    have z2 := hz4.c2
    have z3 := hz4.c3
    have fz := hz4.fz
    have HB4 := Lib.hid (bput_below ((HB2.out.trans (t3.below.mono (Nat.le_succ _))).trans (kv2.mono (Nat.le_of_lt hz3.lt))) w.heap.size (Nat.le_refl _) (.int .i64 0) (.int .i64 0) (.string ⟨#[]⟩) (.slice none 0 0))
    have HP := Lib.hid (hz4.put (.int .i64 0) (.int .i64 0) (.string ⟨#[]⟩) (.slice none 0 0))
    clear t3 hn3 hf3 kv kv2 hz3 hR3 hR4 hz4
    go_wp2_with fail
    refine HEN.out.mono ?_
    rintro e w5 ⟨rfl, rfl⟩
    go_wp2_with fail
    refine bodyPost_ret (res_bv2 rfl _ _ w.heap.size _ _ _ _ (.int .i64 (ev : Int)) rfl HP.out rfl) rfl ?_
    exact ⟨none, 0, rfl, HB4.out, (fun i hi => absurd hi (by simp)), fun _ _ e => by cases e⟩

set_option maxRecDepth 100000 in
set_option maxHeartbeats 4000000 in
theorem GetValue_any (s : List UInt8) (hs : s.length ≤ 2000000) (w : World) :
    Calls Try.prog 8 #[.string (S s)] w fun e w' => ∃ q cap, e = .returned (.tuple #[valC (getV s).1 q cap, .int .i64 ((getV s).2 : Int)]) ∧ Below w.heap.size w w' ∧ NumsAt w' q (getV s).1.list ∧ ∀ g off, q = some ⟨g, off, none⟩ → (getV s).1.list ≠ [] → w.heap.size ≤ g := by
  have kk := (Below.refl w.heap.size w).alloc (Nat.le_refl _) (.cells #[.int .i64 0, .int .i64 0, .string ⟨#[]⟩, .slice none 0 0] 25)
  have hz0 : BV (w.alloc (.cells #[.int .i64 0, .int .i64 0, .string ⟨#[]⟩, .slice none 0 0] 25)) w.heap.size (.int .i64 0) (.int .i64 0) (.string ⟨#[]⟩) (.slice none 0 0) := heap_alloc_new w _
  have HC := Lib.hid (get_value s hs (w.alloc (.cells #[.int .i64 0, .int .i64 0, .string ⟨#[]⟩, .slice none 0 0] 25)))
  have HZ0 := Lib.hid hz0
  have HK := Lib.hid kk
  clear kk hz0
  generalize getV s = X at *
  obtain ⟨⟨xk, xn, xt, xl⟩, ev⟩ := X
  unfold valC at *
  simp only at HC ⊢
  go_enter Try.func8, Try.ntmps8
  go_wp2_with fail
  refine HC.out.mono ?_
  rintro e w1 ⟨q, cap, rfl, b1, hn1, hf1⟩
  have hz1 : BV w1 w.heap.size (.int .i64 0) (.int .i64 0) (.string ⟨#[]⟩) (.slice none 0 0) := (b1.block _ (by simp)).trans HZ0.out
  have z0 := hz1.c0
  have z1 := hz1.c1
  have z2 := hz1.c2
  have z3 := hz1.c3
  have fz := hz1.fz
  have hne : ∀ b off, q = some ⟨b, off, none⟩ → xl ≠ [] → b ≠ w.heap.size := fun b off e hn => by have h1 := hf1 b off e hn; simp at h1; omega
  have HB := Lib.hid (bput_below (HK.out.trans (b1.mono HK.out.size)) w.heap.size (Nat.le_refl _) (.int .i64 xk) (.int .i64 xn) (.string (S xt)) (.slice q xl.length cap))
  have HP := Lib.hid (hz1.put (.int .i64 xk) (.int .i64 xn) (.string (S xt)) (.slice q xl.length cap))
  have HN := Lib.hid (NumsAt.bput hn1 w.heap.size hne (.int .i64 xk) (.int .i64 xn) (.string (S xt)) (.slice q xl.length cap))
  have HF := Lib.hid (fun g off (e : q = some ⟨g, off, none⟩) (hn : xl ≠ []) => show w.heap.size ≤ g from by have h1 := hf1 g off e hn; simp at h1; omega)
  clear b1 hn1 hf1 hz1 hne
  go_wp2_with fail
  refine bodyPost_ret (res_bv2 rfl _ _ w.heap.size _ _ _ _ (.int .i64 (ev : Int)) rfl HP.out rfl) rfl ?_
  exact ⟨q, cap, rfl, HB.out, HN.out, HF.out⟩

end Go.Proofs.Ytkdhchdhgmaolaa.Cd
