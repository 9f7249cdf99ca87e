/- ZExRefZ -/
import Derived.Test.YtchjckdjkecjnaaGreatDoorYExRefY
namespace Go.Proofs.YtchjckdjkecjnaaGreatDoor.Ex
open Go.RowKit
open Lx
theorem res_expr3 {fn : Func} {p u v : Tmp} (h : fn.results = #[.cell p 28, .tmp u, .tmp v]) (tmps : Array Value) (w : World) (g : Nat) (a b c d x y : Value)
    (hp : tmps.getD p undef = .pointer (some ⟨g, 0, none⟩)) (hg : w.heap[g]? = some (.cells #[a, b, c, d] 28 (0, 0))) (hx : tmps.getD u undef = x) (hy : tmps.getD v undef = y) :
    (results fn tmps).run Tryz.prog w = .ok (.tuple #[.agg #[a, b, c, d], x, y]) w := by
  have hp' : tmps[p]?.getD undef = .pointer (some ⟨g, 0, none⟩) := by simpa using hp
  have hx' : tmps[u]?.getD undef = x := by simpa using hx
  have hy' : tmps[v]?.getD undef = y := by simpa using hy
  have hr := run_loadVar_row (P := Tryz.prog) w g 28 28 #[a, b, c, d] (0, 0) _ hg Tryz.underlying28 rfl (by kernel_rfl)
  simp [results, h, hp', hx', hy', asAddr, hr]
theorem Below.put {B : Nat} {w w' : World} (h : Below B w w') (H : Nat) (hH : B ≤ H) (x y z u : Value) : Below B w (put4 w' H x y z u) :=
  (((h.setCell (p := ⟨H, 0, none⟩) hH x).setCell (p := ⟨H, 1, none⟩) hH y).setCell (p := ⟨H, 2, none⟩) hH z).setCell (p := ⟨H, 3, none⟩) hH u
def parR (w : World) (r : R) (e : Ending) (w' : World) : Prop := match r with
  | .ok x s => ∃ p c, e = .returned (.tuple #[exprC x p c, .int .i64 s.at_, .int .i64 0]) ∧ FAt w' (w.heap.size ≤ ·) x.args p
  | .bad er a => er ≠ 0 ∧ e = .returned (.tuple #[noX, .int .i64 a, .int .i64 er])
set_option linter.unusedVariables false
set_option maxRecDepth 100000 in
set_option maxHeartbeats 16000000 in
theorem refParse_any (g cap : Nat) (ts : List TA) (he : Ends ts) (hn : ts.length ≤ 8001) (w : World) (ht : TsAt w g ts) :
    Calls Tryz.prog 36 #[.slice (some ⟨g, 0, none⟩) ts.length cap, .int .i64 0] w fun e w' => parR w (parseM ts 0) e w' ∧ Below w.heap.size w w' := by
  obtain ⟨FIN, hFIN⟩ : ∃ F, parseM ts 0 = F := ⟨_, rfl⟩
  rw [hFIN]
  unfold parseM at hFIN
  have HFIN := Lib.hid hFIN
  clear hFIN
  have HT := Lib.hid ht
  have HE := Lib.hid he
  have HN := Lib.hid hn
  have hni : (ts.length : Int) ≤ 8001 := by omega
  have hpi : (0 : Int) < (ts.length : Int) := by have := he.pos; omega
  have hpn : ¬ (ts.length : Int) ≤ 0 := by omega
  have HB0 := Lib.hid ((Below.refl w.heap.size w).alloc (Nat.le_refl _) (.cells #[.int .i64 0, .int .i64 0, .string ⟨#[]⟩, .slice none 0 0] 28))
  have HX0 := Lib.hid (Bx.new w (.int .i64 0) (.int .i64 0) (.string ⟨#[]⟩) (.slice none 0 0))
  clear ht he hn
  go_enter Tryz.func36, Tryz.ntmps36
  go_wp2_with fail
  go_loopw [13] (fun iv wr => ∃ i : Nat, iv = .int .i64 i ∧ i ≤ ts.length ∧ Below w.heap.size w wr ∧ w.heap.size < wr.heap.size ∧ Bx wr w.heap.size (.int .i64 0) (.int .i64 0) (.string ⟨#[]⟩) (.slice none 0 0)) (fun iv _ => ts.length - (intOf iv).toNat)
  case atStart => exact ⟨0, rfl, by omega, HB0.out, by simp, HX0.out⟩
  case round =>
    obtain ⟨i, rfl, hi, hb, hsz, hx⟩ := hrel
    have HB := Lib.hid hb
    have HX := Lib.hid hx
    have ht := HT.out.below hb
    by_cases hlt : i < ts.length
    · have hli : (i : Int) < (ts.length : Int) := by omega
      obtain ⟨t0, t1, t2, t3⟩ := ht.tok hlt
      have hgl := ht.lt
      have zg : ∀ o j, (wr.alloc o).cell? ⟨g, j, none⟩ = wr.cell? ⟨g, j, none⟩ := fun o j => Kept.cell (Kept.alloc (ok := fun _ => True) wr o) trivial hgl
      by_cases hl : i + 1 < ts.length
      · have hk := HE.out.mid i hl
        have hli2 : (i : Int) + 1 < (ts.length : Int) := by omega
        have hli3 : ((i : Int) + 1 == (ts.length : Int)) = false := by rw [beq_eq_false_iff_ne]; omega
        have hk0 : ((tk ts i).kind == 0) = false := by rw [beq_eq_false_iff_ne]; exact hk
        generalize tk ts i = T at *
        obtain ⟨kd, tx, nm, at_⟩ := T
        simp only at t0 t1 t2 t3 hk hk0
        clear hb hx ht
        go_wp2_with fail
        go_roundw
        case rel => exact ⟨i + 1, by go_num, by omega, HB.out.alloc (Nat.le_of_lt hsz) _, by simp; omega, HX.out.keep (Kept.alloc (ok := fun _ => True) _ _) trivial⟩
        case measure => simp [intOf]; omega
      · have hk : (tk ts i).kind = 0 := by
          have e : i = ts.length - 1 := by omega
          rw [e]; exact HE.out.last
        have hli2 : ¬ (i : Int) + 1 < (ts.length : Int) := by omega
        rw [hk] at t0
        generalize tk ts i = T at *
        obtain ⟨kd, tx, nm, at_⟩ := T
        simp only at t1 t2 t3
        clear hb hx ht hk
        go_wp2_with fail
        go_roundw
        case rel => exact ⟨i + 1, by go_num, by omega, HB.out.alloc (Nat.le_of_lt hsz) _, by simp; omega, HX.out.keep (Kept.alloc (ok := fun _ => True) _ _) trivial⟩
        case measure => simp [intOf]; omega
    · obtain rfl : i = ts.length := by omega
      have hpe : ¬ ts = [] := by intro e; have := HE.out.pos; rw [e] at this; simp at this
      have hpz : ¬ ts.length = 0 := by have := HE.out.pos; omega
      obtain ⟨b, hbe⟩ : ∃ b, wr.heap.size = b := ⟨_, rfl⟩
      have hgb : g ≠ b := by have := HT.out.lt; omega
      have hHb : ¬ w.heap.size = b := by omega
      have hbH : ¬ b = w.heap.size := by omega
      have O1 := Below.alloc (Below.refl wr.heap.size wr) (Nat.le_refl _) (.cells #[.slice (some ⟨g, 0, none⟩) ts.length cap, .int .i64 0, .int .i64 0, .int .i64 0, .int .i64 0, .int .i64 0] 125)
      have hrd : Rdg (wr.alloc (.cells #[.slice (some ⟨g, 0, none⟩) ts.length cap, .int .i64 0, .int .i64 0, .int .i64 0, .int .i64 0, .int .i64 0] 125)) b g cap ts.length ((0 : Nat) : Int) ((0 : Nat) : Int) ((0 : Nat) : Int) 0 0 := by
        have := heap_alloc_new wr (.cells #[.slice (some ⟨g, 0, none⟩) ts.length cap, .int .i64 0, .int .i64 0, .int .i64 0, .int .i64 0, .int .i64 0] 125)
        rw [hbe] at this
        exact this
      have HLV := Lib.hid ((rlevel_all b g cap ts HE.out hgb HN.out FUEL).2 0 (by omega) ⟨0, 0, 0⟩ ⟨HE.out.pos, by simp, by simp⟩ (by unfold need FUEL; simp) _ hrd (ht.below O1))
      have HB1 := Lib.hid (hb.trans (O1.mono (Nat.le_of_lt hsz)))
      have HX1 := Lib.hid (hx.keep (Kept.alloc (ok := fun _ => True) wr (.cells #[.slice (some ⟨g, 0, none⟩) ts.length cap, .int .i64 0, .int .i64 0, .int .i64 0, .int .i64 0, .int .i64 0] 125)) trivial)
      have HZ1 := Lib.hid (show (wr.alloc (.cells #[.slice (some ⟨g, 0, none⟩) ts.length cap, .int .i64 0, .int .i64 0, .int .i64 0, .int .i64 0, .int .i64 0] 125)).heap.size = b + 1 by simp; omega)
      clear hb hx ht O1 hrd
      cases hr : lv ts FUEL 0 ⟨0, 0, 0⟩ with
      | ok x s2 =>
        rw [hr] at HLV
        have HFF := Lib.hid (show R.ok x s2 = FIN by rw [← HFIN.out, hr])
        clear hr
        go_wp2_with fail
        refine HLV.out.mono ?_
        rintro e w5 ⟨o5, o, n, t, q, k, c, rfl, hp⟩
        obtain ⟨e1, e2, e3, e4, hfa, hrd⟩ := hp
        subst e1 e2 e3 e4
        have hh := HX1.out.keep o5.kept hHb
        have HB5 := Lib.hid (Only.below HB1.out o5 (by have := HB1.out.size; exact this) (by omega))
        have HZ5 := Lib.hid (show b + 1 ≤ w5.heap.size by have := o5.size; rw [HZ1.out] at this; exact this)
        have f5 := hh.fz
        have p0 := hh.c0
        have p1 := hh.c1
        have p2 := hh.c2
        have p3 := hh.c3
        have d1 := hrd.c1
        have d4 := hrd.c4
        have hh5 := hh.lt
        have hb5 := hrd.lt
        have zb : ∀ o j, (w5.alloc o).cell? ⟨b, j, none⟩ = w5.cell? ⟨b, j, none⟩ := fun o j => Kept.cell (Kept.alloc (ok := fun _ => True) w5 o) trivial hb5
        have zh : ∀ o j, (w5.alloc o).cell? ⟨w.heap.size, j, none⟩ = w5.cell? ⟨w.heap.size, j, none⟩ := fun o j => Kept.cell (Kept.alloc (ok := fun _ => True) w5 o) trivial hh5
        have zf : ∀ o j, (w5.alloc o).frozen? ⟨w.heap.size, j, none⟩ = false := fun o j => (hh.keep (Kept.alloc (ok := fun _ => True) w5 o) trivial).fz j
        have HH5 := Lib.hid hh
        have HF5 := Lib.hid hfa
        have HXF := Lib.hid (show Bx ((put4 w5 w.heap.size (.int .i64 x.op) (.int .i64 x.num) (.string (S x.text)) (.slice q x.args.len c)).alloc (.cells #[.int .i64 x.op, .int .i64 x.num, .string (S x.text), .slice q x.args.len c] 28)).drew w.heap.size (.int .i64 x.op) (.int .i64 x.num) (.string (S x.text)) (.slice q x.args.len c) from Bx.keep (ok := fun _ => True) (hh.put _ _ _ _) ((Kept.alloc _ _).trans (Kept.of_below (Below.refl _ _).drew)) trivial)
        have HFF5 := Lib.hid (show FAt ((put4 w5 w.heap.size (.int .i64 x.op) (.int .i64 x.num) (.string (S x.text)) (.slice q x.args.len c)).alloc (.cells #[.int .i64 x.op, .int .i64 x.num, .string (S x.text), .slice q x.args.len c] 28)).drew (w.heap.size ≤ ·) x.args q from
          (FAt.mono (ok' := (w.heap.size ≤ ·)) (fun y _ hg => by have h1 := HZ1.out; have h2 : (wr.alloc (.cells #[.slice (some ⟨g, 0, none⟩) ts.length cap, .int .i64 0, .int .i64 0, .int .i64 0, .int .i64 0, .int .i64 0] 125)).heap.size ≤ y := hg; show w.heap.size ≤ y; omega) _ _ ((hfa.keep (Kept.put _ w.heap.size _ _ _ _ (by rw [HZ1.out]; omega))).keep ((Kept.alloc _ _).trans (Kept.of_below (Below.refl _ _).drew)))))
        have HBF := Lib.hid (((Below.put HB5.out w.heap.size (Nat.le_refl _) (.int .i64 x.op) (.int .i64 x.num) (.string (S x.text)) (.slice q x.args.len c)).alloc (by rw [put4_size]; omega) (.cells #[.int .i64 x.op, .int .i64 x.num, .string (S x.text), .slice q x.args.len c] 28)).drew)
        clear hh hrd hfa o5
        go_wp2_with fail
        go_region_with (fail)
        all_goals
          simp only [Exit.then]
          go_wp2_with fail
          refine bodyPost_ret (res_expr3 rfl _ _ w.heap.size _ _ _ _ (.int .i64 s2.at_) (.int .i64 0) rfl HXF.out rfl rfl) rfl ?_
          rw [← HFF.out]
          exact ⟨⟨q, c, rfl, HFF5.out⟩, HBF.out⟩
      | bad er a =>
        rw [hr] at HLV
        have HFF := Lib.hid (show R.bad er a = FIN by rw [← HFIN.out, hr])
        clear hr
        go_wp2_with fail
        refine HLV.out.mono ?_
        rintro e w5 ⟨o5, o, n, t, q, k, c, rfl, hp⟩
        obtain ⟨her, a5, n5, oo5, hrd⟩ := hp
        have her2 : ((er : Int) == 0) = false := by rw [beq_eq_false_iff_ne]; omega
        have hh := HX1.out.keep o5.kept hHb
        have HB5 := Lib.hid (Only.below HB1.out o5 (by have := HB1.out.size; exact this) (by omega))
        have f5 := hh.fz
        have p0 := hh.c0
        have p1 := hh.c1
        have p2 := hh.c2
        have p3 := hh.c3
        have d4 := hrd.c4
        have d5 := hrd.c5
        have hh5 := hh.lt
        have hb5 := hrd.lt
        have zb : ∀ o j, (w5.alloc o).cell? ⟨b, j, none⟩ = w5.cell? ⟨b, j, none⟩ := fun o j => Kept.cell (Kept.alloc (ok := fun _ => True) w5 o) trivial hb5
        have zh : ∀ o j, (w5.alloc o).cell? ⟨w.heap.size, j, none⟩ = w5.cell? ⟨w.heap.size, j, none⟩ := fun o j => Kept.cell (Kept.alloc (ok := fun _ => True) w5 o) trivial hh5
        have zf : ∀ o j, (w5.alloc o).frozen? ⟨w.heap.size, j, none⟩ = false := fun o j => (hh.keep (Kept.alloc (ok := fun _ => True) w5 o) trivial).fz j
        have HH5 := Lib.hid hh
        have HER := Lib.hid her
        have HXF := Lib.hid (show Bx ((put4 w5 w.heap.size (.int .i64 0) (.int .i64 0) (.string ⟨#[]⟩) (.slice none 0 0)).alloc (.cells #[.int .i64 o, .int .i64 n, .string (S t), .slice q k c] 28)).drew w.heap.size (.int .i64 0) (.int .i64 0) (.string ⟨#[]⟩) (.slice none 0 0) from Bx.keep (ok := fun _ => True) (hh.put _ _ _ _) ((Kept.alloc _ _).trans (Kept.of_below (Below.refl _ _).drew)) trivial)
        have HBF := Lib.hid (((Below.put HB5.out w.heap.size (Nat.le_refl _) (.int .i64 0) (.int .i64 0) (.string ⟨#[]⟩) (.slice none 0 0)).alloc (by rw [put4_size]; omega) (.cells #[.int .i64 o, .int .i64 n, .string (S t), .slice q k c] 28)).drew)
        clear hh hrd o5
        go_wp2_with fail
        go_region_with (fail)
        all_goals
          simp only [Exit.then]
          go_wp2_with fail
          refine bodyPost_ret (res_expr3 rfl _ _ w.heap.size _ _ _ _ (.int .i64 a) (.int .i64 er) rfl HXF.out rfl rfl) rfl ?_
          rw [← HFF.out]
          exact ⟨⟨HER.out, rfl⟩, HBF.out⟩
end Go.Proofs.YtchjckdjkecjnaaGreatDoor.Ex
