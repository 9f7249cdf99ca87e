/-
  ExPsR.
-/
import Derived.Test.YtlmmfhbdebfgkaaGreatDoorYExPsP
import Derived.Test.YtlmmfhbdebfgkaaGreatDoorYLxRBlankQ
import Derived.Test.YtlmmfhbdebfgkaaGreatDoorYLxToksQ
import Derived.Test.YtlmmfhbdebfgkaaGreatDoorYExTop
namespace Go.Proofs.YtlmmfhbdebfgkaaGreatDoor.Ex
open Go.RowKit
open Lx Va
set_option linter.unusedVariables false
set_option linter.unusedSimpArgs false
def RdR (w : World) (r : T × Nat × Nat) (e : Ending) (w' : World) : Prop := ∃ p c, e = .returned (.tuple #[exprC r.1 p c, .int .i64 (r.2.2 : Int), .int .i64 (r.2.1 : Int)]) ∧ FAt w' (w.heap.size ≤ ·) r.1.args p
set_option maxRecDepth 100000 in
set_option maxHeartbeats 8000000 in
theorem read_none (s : ByteArray) (k p : Nat) (hk : k ≠ 0) (w : World) (hSC : ∀ W : World, Below w.heap.size w W → Calls Tryz.prog 24 #[.string s] W fun e w' => e = .returned (.tuple #[.slice none 0 0, .int .i64 (p : Int), .int .i64 (k : Int)]) ∧ Below W.heap.size W w') :
    Calls Tryz.prog 11 #[.string s] w fun e w' => RdR w (⟨0, 0, [], .nil⟩, k, p) e w' ∧ Below w.heap.size w w' := by
  have hb := (Below.refl w.heap.size w).alloc (Nat.le_refl _) (.cells #[.int .i64 0, .int .i64 0, .string ⟨#[]⟩, .slice none 0 0] 24)
  have HSC := Lib.hid (hSC _ hb)
  have HB := Lib.hid hb
  have HX := Lib.hid (Bx.new w (.int .i64 0) (.int .i64 0) (.string ⟨#[]⟩) (.slice none 0 0))
  have hk1 : ((k : Int) == 0) = false := by rw [beq_eq_false_iff_ne]; omega
  have hk2 : ((k : Int) != 0) = true := by simp; omega
  clear hb hSC hk
  go_enter Tryz.func11, Tryz.ntmps11
  go_wp2_with fail
  refine HSC.out.mono ?_
  rintro e w1 ⟨rfl, b1⟩
  have hx := HX.out.keep (Kept.of_below (ok := fun _ => True) b1) trivial
  have hB := HB.out.trans (b1.mono HB.out.size)
  have p0 := hx.c0
  have p1 := hx.c1
  have p2 := hx.c2
  have p3 := hx.c3
  have pf := hx.fz
  have HXF := Lib.hid (hx.put (.int .i64 0) (.int .i64 0) (.string ⟨#[]⟩) (.slice none 0 0))
  have HBF := Lib.hid (Below.put hB w.heap.size (Nat.le_refl _) (.int .i64 0) (.int .i64 0) (.string ⟨#[]⟩) (.slice none 0 0))
  clear b1 hx hB
  go_wp2_with fail
  refine bodyPost_ret (res_expr3 rfl _ _ w.heap.size _ _ _ _ (.int .i64 (p : Int)) (.int .i64 (k : Int)) rfl HXF.out rfl rfl) rfl ?_
  exact ⟨⟨none, 0, rfl, trivial⟩, HBF.out⟩
set_option maxRecDepth 100000 in
set_option maxHeartbeats 8000000 in
theorem read_yes (s : ByteArray) (hs : s.size ≤ 8000) (ts : List TA) (hsc : scanM s.data.toList 0 = (ts, none)) (x : T) (s2 : St) (hp : parseM ts 0 = .ok x s2) (hend : s2.at_ + 1 = ts.length) (w : World) (hL : Laid w) (hC : ConsAt w) :
    Calls Tryz.prog 11 #[.string s] w fun e w' => RdR w (x, 0, 0) e w' ∧ Below w.heap.size w w' := by
  have hls := list_size s
  have hlen := (scan_at _ s.data.toList 0 (Nat.le_refl _)).2
  rw [hsc] at hlen
  simp only at hlen
  have hn : ts.length ≤ 8001 := by omega
  have hE := scan_ends hsc
  have hK : ∀ i, TokS (tk ts i) := fun i => tk_of (P := TokS) (tokS_end 0) (by have h := scan_s s.data.toList.length s.data.toList 0 (Nat.le_refl _); rw [hsc] at h; exact h) i
  have HSC := Lib.hid (fun (W : World) (hb : Below w.heap.size w W) => scan_ok s hs W (hL.below hb) ts hsc)
  have HPA := Lib.hid (fun g cap W (k : TsAt W g ts) (kc : ConsAt W) => pparse_any g cap ts hE hn hK 0 hE.pos W k kc)
  rw [hp] at HPA
  have hni : (ts.length : Int) ≤ 8001 := by omega
  have hpi : (1 : Int) ≤ (ts.length : Int) := by have := hE.pos; omega
  have HC := Lib.hid hC
  have hb0 := (Below.refl w.heap.size w).alloc (Nat.le_refl _) (.cells #[.int .i64 0, .int .i64 0, .string ⟨#[]⟩, .slice none 0 0] 24)
  have HSC0 := Lib.hid (HSC.out _ hb0)
  have HB0 := Lib.hid hb0
  have HX0 := Lib.hid (Bx.new w (.int .i64 0) (.int .i64 0) (.string ⟨#[]⟩) (.slice none 0 0))
  have hnx : decide ((s2.at_ : Int) < (ts.length : Int) - 1) = false := by rw [decide_eq_false_iff_not]; omega
  have hny : ¬ (s2.at_ : Int) < (ts.length : Int) - 1 := by omega
  clear hls hlen hsc hE hn hp hK hL hC hb0 HSC
  go_enter Tryz.func11, Tryz.ntmps11
  go_wp2_with fail
  refine HSC0.out.mono ?_
  rintro e w1 ⟨⟨g, cap, rfl, hg, hta⟩, b1⟩
  have hts : TsAt w1 g ts := ⟨hta.lt, hta.cells⟩
  have hb1 := HB0.out.trans (b1.mono HB0.out.size)
  have HPA1 := Lib.hid (HPA.out g cap w1 hts (HC.out.keep (Kept.of_below (ok := fun _ => True) hb1) trivial))
  have HTS := Lib.hid hts
  have HB1 := Lib.hid hb1
  have HX1 := Lib.hid (HX0.out.keep (Kept.of_below (ok := fun _ => True) b1) trivial)
  have HG := Lib.hid (show w.heap.size < g by have h := hg; rw [World.size_alloc] at h; omega)
  clear hta b1 hts hb1 HPA hg
  go_wp2_with fail
  refine HPA1.out.mono ?_
  rintro e w5 ⟨hr, b5⟩
  obtain ⟨q, c, rfl, hfa⟩ := hr
  unfold exprC
  have hh := HX1.out.keep (Kept.of_below (ok := fun _ => True) b5) trivial
  have HZ1 := Lib.hid HX1.out.lt
  have f5 := hh.fz
  have p0 := hh.c0
  have p1 := hh.c1
  have p2 := hh.c2
  have p3 := hh.c3
  have hh5 := hh.lt
  have zh : ∀ o j, (w5.alloc o).cell? ⟨w.heap.size, j, none⟩ = w5.cell? ⟨w.heap.size, j, none⟩ := fun o j => Kept.cell (Kept.alloc (ok := fun _ => True) w5 o) trivial hh5
  have zf : ∀ o j, (w5.alloc o).frozen? ⟨w.heap.size, j, none⟩ = false := fun o j => (hh.keep (Kept.alloc (ok := fun _ => True) w5 o) trivial).fz j
  have HXF := Lib.hid (Bx.keep (ok := fun _ => True) (hh.put (.int .i64 x.op) (.int .i64 x.num) (.string (S x.text)) (.slice q x.args.len c)) (Kept.alloc _ (.cells #[.int .i64 x.op, .int .i64 x.num, .string (S x.text), .slice q x.args.len c] 24)) trivial)
  have hB5 := HB1.out.trans (b5.mono HB1.out.size)
  have HBF := Lib.hid ((Below.put hB5 w.heap.size (Nat.le_refl _) (.int .i64 x.op) (.int .i64 x.num) (.string (S x.text)) (.slice q x.args.len c)).alloc (by rw [put4_size]; omega) (.cells #[.int .i64 x.op, .int .i64 x.num, .string (S x.text), .slice q x.args.len c] 24))
  have HFF := Lib.hid (FAt.mono (ok' := (w.heap.size ≤ ·)) (fun y _ hg => by have h1 := HZ1.out; have h2 : w1.heap.size ≤ y := hg; show w.heap.size ≤ y; omega) _ _ ((hfa.keep (Kept.put w5 w.heap.size (.int .i64 x.op) (.int .i64 x.num) (.string (S x.text)) (.slice q x.args.len c) (by have := HZ1.out; omega))).keep (Kept.alloc _ (.cells #[.int .i64 x.op, .int .i64 x.num, .string (S x.text), .slice q x.args.len c] 24))))
  clear hh hfa b5 hB5
  go_wp2_with fail
  refine bodyPost_ret (res_expr3 rfl _ _ w.heap.size _ _ _ _ (.int .i64 0) (.int .i64 0) rfl HXF.out rfl rfl) rfl ?_
  exact ⟨⟨q, c, rfl, HFF.out⟩, HBF.out⟩
set_option maxRecDepth 100000 in
set_option maxHeartbeats 8000000 in
theorem read_more (s : ByteArray) (hs : s.size ≤ 8000) (ts : List TA) (hsc : scanM s.data.toList 0 = (ts, none)) (x : T) (s2 : St) (hp : parseM ts 0 = .ok x s2) (hend : s2.at_ + 1 ≠ ts.length) (w : World) (hL : Laid w) (hC : ConsAt w) :
    Calls Tryz.prog 11 #[.string s] w fun e w' => RdR w (⟨0, 0, [], .nil⟩, 25, (tk ts s2.at_).at_) e w' ∧ Below w.heap.size w w' := by
  have hls := list_size s
  have hlen := (scan_at _ s.data.toList 0 (Nat.le_refl _)).2
  rw [hsc] at hlen
  simp only at hlen
  have hn : ts.length ≤ 8001 := by omega
  have hE := scan_ends hsc
  have hK : ∀ i, TokS (tk ts i) := fun i => tk_of (P := TokS) (tokS_end 0) (by have h := scan_s s.data.toList.length s.data.toList 0 (Nat.le_refl _); rw [hsc] at h; exact h) i
  have HSC := Lib.hid (fun (W : World) (hb : Below w.heap.size w W) => scan_ok s hs W (hL.below hb) ts hsc)
  have HPA := Lib.hid (fun g cap W (k : TsAt W g ts) (kc : ConsAt W) => pparse_any g cap ts hE hn hK 0 hE.pos W k kc)
  rw [hp] at HPA
  have hni : (ts.length : Int) ≤ 8001 := by omega
  have hpi : (1 : Int) ≤ (ts.length : Int) := by have := hE.pos; omega
  have HC := Lib.hid hC
  have hb0 := (Below.refl w.heap.size w).alloc (Nat.le_refl _) (.cells #[.int .i64 0, .int .i64 0, .string ⟨#[]⟩, .slice none 0 0] 24)
  have HSC0 := Lib.hid (HSC.out _ hb0)
  have HB0 := Lib.hid hb0
  have HX0 := Lib.hid (Bx.new w (.int .i64 0) (.int .i64 0) (.string ⟨#[]⟩) (.slice none 0 0))
  have hat : s2.at_ < ts.length := (lv_st hE FUEL 0 _ _ _ (⟨hE.pos, by simp, by simp⟩ : StOk ts ⟨0, 0, 0⟩) hp).lt
  have hny : (s2.at_ : Int) < (ts.length : Int) - 1 := by omega
  have hnx : decide ((s2.at_ : Int) < (ts.length : Int) - 1) = true := by rw [decide_eq_true_eq]; omega
  have hati : (s2.at_ : Int) < (ts.length : Int) := by omega
  have HAT := Lib.hid hat
  clear hat hend
  clear hls hlen hsc hE hn hp hK hL hC hb0 HSC
  go_enter Tryz.func11, Tryz.ntmps11
  go_wp2_with fail
  refine HSC0.out.mono ?_
  rintro e w1 ⟨⟨g, cap, rfl, hg, hta⟩, b1⟩
  have hts : TsAt w1 g ts := ⟨hta.lt, hta.cells⟩
  have hb1 := HB0.out.trans (b1.mono HB0.out.size)
  have HPA1 := Lib.hid (HPA.out g cap w1 hts (HC.out.keep (Kept.of_below (ok := fun _ => True) hb1) trivial))
  have HTS := Lib.hid hts
  have HB1 := Lib.hid hb1
  have HX1 := Lib.hid (HX0.out.keep (Kept.of_below (ok := fun _ => True) b1) trivial)
  have HG := Lib.hid (show w.heap.size < g by have h := hg; rw [World.size_alloc] at h; omega)
  clear hta b1 hts hb1 HPA hg
  go_wp2_with fail
  refine HPA1.out.mono ?_
  rintro e w5 ⟨hr, b5⟩
  obtain ⟨q, c, rfl, hfa⟩ := hr
  unfold exprC
  clear hfa
  have hh := HX1.out.keep (Kept.of_below (ok := fun _ => True) b5) trivial
  have ht5 := HTS.out.below b5
  have hh5 := hh.lt
  have hB5 := HB1.out.trans (b5.mono HB1.out.size)
  obtain ⟨W6, hW6⟩ : ∃ W6, W6 = w5.alloc (.cells #[.int .i64 x.op, .int .i64 x.num, .string (S x.text), .slice q x.args.len c] 24) := ⟨_, rfl⟩
  have k6 : Kept (fun _ => True) w5 W6 := by rw [hW6]; exact Kept.alloc _ _
  have hh6 := hh.keep k6 trivial
  have ht6 := ht5.keep k6 trivial
  have hB6 : Below w.heap.size w W6 := by rw [hW6]; exact hB5.alloc hB5.size _
  obtain ⟨t0, t1, t2, t3⟩ := ht6.tok HAT.out
  have f5 := hh6.fz
  have p0 := hh6.c0
  have p1 := hh6.c1
  have p2 := hh6.c2
  have p3 := hh6.c3
  have hgh : ¬ g = w.heap.size := by have := HG.out; omega
  have hhg : ¬ w.heap.size = g := by have := HG.out; omega
  have HW6 := Lib.hid hW6
  have HXF := Lib.hid (Bx.drew' (hh6.put (.int .i64 0) (.int .i64 0) (.string ⟨#[]⟩) (.slice none 0 0)))
  have HBF := Lib.hid ((Below.put hB6 w.heap.size (Nat.le_refl _) (.int .i64 0) (.int .i64 0) (.string ⟨#[]⟩) (.slice none 0 0)).drew)
  clear hh ht5 hB5 b5 hh5 hW6 k6 hh6 ht6 hB6
  go_upto_region 8 with fail
  rw [← HW6.out]
  go_region
  all_goals
    simp only [Exit.then]
    go_wp2_with fail
    refine bodyPost_ret (res_expr3 rfl _ _ w.heap.size _ _ _ _ (.int .i64 ((tk ts s2.at_).at_ : Int)) (.int .i64 25) rfl HXF.out rfl rfl) rfl ?_
    exact ⟨⟨none, 0, rfl, trivial⟩, HBF.out⟩
set_option maxRecDepth 100000 in
set_option maxHeartbeats 8000000 in
theorem read_bad (s : ByteArray) (hs : s.size ≤ 8000) (ts : List TA) (hsc : scanM s.data.toList 0 = (ts, none)) (er j : Nat) (hp : parseM ts 0 = .bad er j) (w : World) (hL : Laid w) (hC : ConsAt w) :
    Calls Tryz.prog 11 #[.string s] w fun e w' => RdR w (⟨0, 0, [], .nil⟩, er, (tk ts j).at_) e w' ∧ Below w.heap.size w w' := by
  have hls := list_size s
  have hlen := (scan_at _ s.data.toList 0 (Nat.le_refl _)).2
  rw [hsc] at hlen
  simp only at hlen
  have hn : ts.length ≤ 8001 := by omega
  have hE := scan_ends hsc
  have hK : ∀ i, TokS (tk ts i) := fun i => tk_of (P := TokS) (tokS_end 0) (by have h := scan_s s.data.toList.length s.data.toList 0 (Nat.le_refl _); rw [hsc] at h; exact h) i
  have HSC := Lib.hid (fun (W : World) (hb : Below w.heap.size w W) => scan_ok s hs W (hL.below hb) ts hsc)
  have HPA := Lib.hid (fun g cap W (k : TsAt W g ts) (kc : ConsAt W) => pparse_any g cap ts hE hn hK 0 hE.pos W k kc)
  rw [hp] at HPA
  have hni : (ts.length : Int) ≤ 8001 := by omega
  have hpi : (1 : Int) ≤ (ts.length : Int) := by have := hE.pos; omega
  have HC := Lib.hid hC
  have hb0 := (Below.refl w.heap.size w).alloc (Nat.le_refl _) (.cells #[.int .i64 0, .int .i64 0, .string ⟨#[]⟩, .slice none 0 0] 24)
  have HSC0 := Lib.hid (HSC.out _ hb0)
  have HB0 := Lib.hid hb0
  have HX0 := Lib.hid (Bx.new w (.int .i64 0) (.int .i64 0) (.string ⟨#[]⟩) (.slice none 0 0))
  have hbd := parse_bad hE hp
  have hat : j < ts.length := hbd.2
  have her : er ≠ 0 := by have := hbd.1; omega
  have hk1 : ((er : Int) == 0) = false := by rw [beq_eq_false_iff_ne]; omega
  have hk2 : ((er : Int) != 0) = true := by simp; omega
  have hati : (j : Int) < (ts.length : Int) := by omega
  have HAT := Lib.hid hat
  clear hat hbd her
  clear hls hlen hsc hE hn hp hK hL hC hb0 HSC
  go_enter Tryz.func11, Tryz.ntmps11
  go_wp2_with fail
  refine HSC0.out.mono ?_
  rintro e w1 ⟨⟨g, cap, rfl, hg, hta⟩, b1⟩
  have hts : TsAt w1 g ts := ⟨hta.lt, hta.cells⟩
  have hb1 := HB0.out.trans (b1.mono HB0.out.size)
  have HPA1 := Lib.hid (HPA.out g cap w1 hts (HC.out.keep (Kept.of_below (ok := fun _ => True) hb1) trivial))
  have HTS := Lib.hid hts
  have HB1 := Lib.hid hb1
  have HX1 := Lib.hid (HX0.out.keep (Kept.of_below (ok := fun _ => True) b1) trivial)
  have HG := Lib.hid (show w.heap.size < g by have h := hg; rw [World.size_alloc] at h; omega)
  clear hta b1 hts hb1 HPA hg
  go_wp2_with fail
  refine HPA1.out.mono ?_
  rintro e w5 ⟨hr, b5⟩
  obtain ⟨_, rfl⟩ := hr
  unfold noX
  have hh := HX1.out.keep (Kept.of_below (ok := fun _ => True) b5) trivial
  have ht5 := HTS.out.below b5
  have hh5 := hh.lt
  have hB5 := HB1.out.trans (b5.mono HB1.out.size)
  obtain ⟨W6, hW6⟩ : ∃ W6, W6 = w5.alloc (.cells #[.int .i64 0, .int .i64 0, .string ⟨#[]⟩, .slice none 0 0] 24) := ⟨_, rfl⟩
  have k6 : Kept (fun _ => True) w5 W6 := by rw [hW6]; exact Kept.alloc _ _
  have hh6 := hh.keep k6 trivial
  have ht6 := ht5.keep k6 trivial
  have hB6 : Below w.heap.size w W6 := by rw [hW6]; exact hB5.alloc hB5.size _
  obtain ⟨t0, t1, t2, t3⟩ := ht6.tok HAT.out
  have f5 := hh6.fz
  have p0 := hh6.c0
  have p1 := hh6.c1
  have p2 := hh6.c2
  have p3 := hh6.c3
  have hgh : ¬ g = w.heap.size := by have := HG.out; omega
  have hhg : ¬ w.heap.size = g := by have := HG.out; omega
  have HW6 := Lib.hid hW6
  have HXF := Lib.hid (Bx.drew' (hh6.put (.int .i64 0) (.int .i64 0) (.string ⟨#[]⟩) (.slice none 0 0)))
  have HBF := Lib.hid ((Below.put hB6 w.heap.size (Nat.le_refl _) (.int .i64 0) (.int .i64 0) (.string ⟨#[]⟩) (.slice none 0 0)).drew)
  clear hh ht5 hB5 b5 hh5 hW6 k6 hh6 ht6 hB6
  go_upto_region 8 with fail
  rw [← HW6.out]
  go_region
  all_goals
    simp only [Exit.then]
    go_wp2_with fail
    refine bodyPost_ret (res_expr3 rfl _ _ w.heap.size _ _ _ _ (.int .i64 ((tk ts j).at_ : Int)) (.int .i64 er) rfl HXF.out rfl rfl) rfl ?_
    exact ⟨⟨none, 0, rfl, trivial⟩, HBF.out⟩
theorem pread_any (s : ByteArray) (w : World) (hL : Laid w) (hC : ConsAt w) : Calls Tryz.prog 11 #[.string s] w fun e w' => RdR w (rdM s.data.toList) e w' ∧ Below w.heap.size w w' := by
  have hls := list_size s
  unfold rdM
  by_cases hs : 8000 < s.data.toList.length
  · rw [if_pos hs]
    exact read_none s 5 0 (by decide) w (fun W hb => scan_long s (by omega) W)
  · rw [if_neg hs]
    have hs' : s.size ≤ 8000 := by omega
    obtain ⟨ts, o, ho⟩ : ∃ ts o, scanM s.data.toList 0 = (ts, o) := ⟨_, _, rfl⟩
    rw [ho]
    cases o with
    | some p => exact read_none s 24 p (by decide) w (fun W hb => scan_err s hs' W (hL.below hb) ts p ho)
    | none =>
      simp only
      unfold readM
      cases hp : parseM ts 0 with
      | ok x s2 =>
        simp only
        by_cases he : s2.at_ + 1 = ts.length
        · rw [if_pos he]; exact read_yes s hs' ts ho x s2 hp he w hL hC
        · rw [if_neg he]; exact read_more s hs' ts ho x s2 hp he w hL hC
      | bad er j => exact read_bad s hs' ts ho er j hp w hL hC
end Go.Proofs.YtlmmfhbdebfgkaaGreatDoor.Ex
