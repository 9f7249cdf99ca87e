/-
  ExRefY, ExRefZ.
-/
import Derived.Test.YtlmmfhbdebfgkaaGreatDoorVExRefT
set_option linter.unusedVariables false
set_option linter.unusedSimpArgs false
set_option maxRecDepth 100000
set_option maxHeartbeats 16000000
namespace Go.Proofs.YtlmmfhbdebfgkaaGreatDoor.Ex
open Go.RowKit
open Lx
theorem rcall_any (b g cap : Nat) (ts : List TA) (s : St) (w : World) (h : Rdg w b g cap ts.length s.at_ s.n s.open_ 0 0) (ht : TsAt w g ts) (hg : g ≠ b) (hs : StOk ts s) (hn : ts.length ≤ 8001) (he : Ends ts) (rec : St → R) (hrk : RecOk ts rec) (op : Int) (n : Nat) (hn1 : 1 ≤ n) (hn2 : n ≤ 2) (hs1 : s.at_ + 1 < ts.length)
    (HR : ∀ s1 : St, StOk ts s1 → s1.open_ = s.open_ + 1 → ∀ w1, Rdg w1 b g cap ts.length s1.at_ s1.n s1.open_ 0 0 → TsAt w1 g ts → Calls Tryz.prog 83 #[.pointer (some ⟨b, 0, none⟩), .int .i64 0] w1 fun e w' => ResA b g cap ts w1 (rec s1) e w') :
    Calls Tryz.prog 209 #[.pointer (some ⟨b, 0, none⟩), .int .i64 op, .int .i64 n] w fun e w' => ResA b g cap ts w (callR rec ts op n s) e w' := by
  cases hu : isS ts (s.at_ + 1) [40] with
  | true => exact rcall_yes b g cap ts he rec hrk op n hn1 hn2 s w h ht hg hs hs1 hn hu HR
  | false =>
    unfold callR
    rw [if_neg (by rw [hu]; decide)]
    exact rcall_no b g cap ts op n s w h ht hg hs1 hn hu
theorem rprim_any (b g cap : Nat) (ts : List TA) (s : St) (w : World) (h : Rdg w b g cap ts.length s.at_ s.n s.open_ 0 0) (ht : TsAt w g ts) (hg : g ≠ b) (hs : StOk ts s) (hn : ts.length ≤ 8001) (he : Ends ts) (rec : St → R) (hrk : RecOk ts rec)
    (HR : ∀ s1 : St, StOk ts s1 → s1.open_ = s.open_ + 1 → ∀ w1, Rdg w1 b g cap ts.length s1.at_ s1.n s1.open_ 0 0 → TsAt w1 g ts → Calls Tryz.prog 83 #[.pointer (some ⟨b, 0, none⟩), .int .i64 0] w1 fun e w' => ResA b g cap ts w1 (rec s1) e w') :
    Calls Tryz.prog 172 #[.pointer (some ⟨b, 0, none⟩)] w fun e w' => ResA b g cap ts w (primR rec ts s) e w' := by
  unfold primR
  by_cases h1 : (tk ts s.at_).kind = 1
  · rw [if_pos h1]
    have hnx := he.next hs.at_ (by rw [h1]; decide)
    unfold wordR
    by_cases n1 : (tk ts s.at_).text = wLen
    · rw [if_pos n1]
      exact rprim_call b g cap ts s w h ht hg hs hn _ 12 1 h1 (.inl ⟨n1, rfl, rfl⟩) (fun w1 k1 k2 => rcall_any b g cap ts s w1 k1 k2 hg hs hn he rec hrk 12 1 (by decide) (by decide) hnx HR)
    rw [if_neg n1]
    by_cases n2 : (tk ts s.at_).text = wAt
    · rw [if_pos n2]
      exact rprim_call b g cap ts s w h ht hg hs hn _ 25 2 h1 (.inr (.inl ⟨n2, rfl, rfl⟩)) (fun w1 k1 k2 => rcall_any b g cap ts s w1 k1 k2 hg hs hn he rec hrk 25 2 (by decide) (by decide) hnx HR)
    rw [if_neg n2]
    by_cases n3 : (tk ts s.at_).text = wPush
    · rw [if_pos n3]
      exact rprim_call b g cap ts s w h ht hg hs hn _ 26 2 h1 (.inr (.inr ⟨n3, rfl, rfl⟩)) (fun w1 k1 k2 => rcall_any b g cap ts s w1 k1 k2 hg hs hn he rec hrk 26 2 (by decide) (by decide) hnx HR)
    rw [if_neg n3]
    by_cases n4 : (tk ts s.at_).text = wMsg
    · rw [if_pos n4]
      exact rprim_field b g cap ts s w h ht hg hs hn he h1 n4
    rw [if_neg n4]
    by_cases n5 : (tk ts s.at_).text = wTrue
    · rw [if_pos n5]
      exact rprim_leaf b g cap ts s w h ht hg hs hn 3 1 [] (.inr (.inr (.inr (.inl ⟨h1, n5, rfl, rfl, rfl⟩))))
    rw [if_neg n5]
    by_cases n6 : (tk ts s.at_).text = wFalse
    · rw [if_pos n6]
      exact rprim_leaf b g cap ts s w h ht hg hs hn 3 0 [] (.inr (.inr (.inr (.inr (.inl ⟨h1, n6, rfl, rfl, rfl⟩)))))
    rw [if_neg n6]
    exact rprim_leaf b g cap ts s w h ht hg hs hn 6 0 _ (.inr (.inr (.inr (.inr (.inr ⟨h1, ⟨n1, n2, n3, n4, n5, n6⟩, rfl, rfl, rfl⟩)))))
  rw [if_neg h1]
  by_cases h2 : (tk ts s.at_).kind = 2
  · rw [if_pos h2]
    exact rprim_leaf b g cap ts s w h ht hg hs hn 1 _ [] (.inl ⟨h2, rfl, rfl, rfl⟩)
  rw [if_neg h2]
  by_cases h3 : (tk ts s.at_).kind = 3
  · rw [if_pos h3]
    exact rprim_leaf b g cap ts s w h ht hg hs hn 2 0 _ (.inr (.inl ⟨h3, rfl, rfl, rfl⟩))
  rw [if_neg h3]
  by_cases h4 : (tk ts s.at_).kind = 4
  · rw [if_pos h4]
    exact rprim_leaf b g cap ts s w h ht hg hs hn 4 0 _ (.inr (.inr (.inl ⟨h4, rfl, rfl, rfl⟩)))
  rw [if_neg h4]
  cases h5 : isS ts s.at_ [40] with
  | true =>
    rw [if_pos rfl]
    exact rprim_group b g cap ts s w h ht hg hs hn he rec hrk h5 HR
  | false =>
    rw [if_neg (by decide)]
    cases h6 : isS ts s.at_ [91] with
    | true =>
      rw [if_pos rfl]
      exact rprim_list b g cap ts s w h ht hg hs hn he rec hrk h6 HR
    | false =>
      rw [if_neg (by decide)]
      exact rprim_none b g cap ts s w h ht hg hs hn (by omega) h5 h6
theorem rlevel_all (b g cap : Nat) (ts : List TA) (he : Ends ts) (hg : g ≠ b) (hn : ts.length ≤ 8001) : ∀ f : Nat,
    (∀ s : St, StOk ts s → need 5 s < f → ∀ w, Rdg w b g cap ts.length s.at_ s.n s.open_ 0 0 → TsAt w g ts → Calls Tryz.prog 138 #[.pointer (some ⟨b, 0, none⟩)] w fun e w' => ResA b g cap ts w (lv ts f 5 s) e w') ∧
    (∀ n : Nat, n ≤ 5 → ∀ s : St, StOk ts s → need n s < f → ∀ w, Rdg w b g cap ts.length s.at_ s.n s.open_ 0 0 → TsAt w g ts → Calls Tryz.prog 83 #[.pointer (some ⟨b, 0, none⟩), .int .i64 n] w fun e w' => ResA b g cap ts w (lv ts f n s) e w')
  | 0 => ⟨fun s _ h => absurd h (by omega), fun n _ s _ h => absurd h (by omega)⟩
  | f + 1 => by
    obtain ⟨IU, IL⟩ := rlevel_all b g cap ts he hg hn f
    have hU : ∀ s : St, StOk ts s → need 5 s < f + 1 → ∀ w, Rdg w b g cap ts.length s.at_ s.n s.open_ 0 0 → TsAt w g ts → Calls Tryz.prog 138 #[.pointer (some ⟨b, 0, none⟩)] w fun e w' => ResA b g cap ts w (lv ts (f + 1) 5 s) e w' := by
      intro s hs hnd w h ht
      unfold need at hnd
      refine runary_any b g cap ts he f s w h ht hg hs hn (fun w1 k1 k2 => rprim_any b g cap ts s w1 k1 k2 hg hs hn he (lv ts f 0) (lv_st he f 0) ?_) ?_
      · intro s1 hs1 ho w2 k3 k4
        refine IL 0 (by omega) s1 hs1 ?_ w2 k3 k4
        have := hs1.op
        unfold need
        omega
      · intro s1 hs1 ho w1 k1 k2
        refine IU s1 hs1 ?_ w1 k1 k2
        have := hs1.op
        unfold need
        omega
    refine ⟨hU, fun n hn5 s hs hnd w h ht => ?_⟩
    by_cases h5 : n = 5
    · subst h5
      exact rlevel_5 b g cap ts _ s w h ht (fun w1 k1 k2 => hU s hs hnd w1 k1 k2)
    · have hL := rlevel_lo b g cap ts he (lv ts f (n + 1)) (lv_st he f (n + 1)) n (by omega) s w h ht hg hs hn (fun s1 hs1 ho w1 k1 k2 => by
        have e : ((n : Int) + 1) = ((n + 1 : Nat) : Int) := by omega
        rw [e]
        refine IL (n + 1) (by omega) s1 hs1 ?_ w1 k1 k2
        unfold need at hnd ⊢
        rw [ho]
        omega)
      have e2 : lv ts (f + 1) n s = (lv ts f (n + 1) s).then fun x s1 => loopR (lv ts f (n + 1)) ts n 201 x s1 := by
        rw [lv, if_neg h5]
      rw [e2]
      exact hL
end Go.Proofs.YtlmmfhbdebfgkaaGreatDoor.Ex
namespace Go.Proofs.YtlmmfhbdebfgkaaGreatDoor.Ex
open Go.RowKit
open Lx
theorem res_expr3 {fn : Func} {p u v : Tmp} (h : fn.results = #[.cell p 24, .tmp u, .tmp v]) (tmps : Array Value) (w : World) (g : Nat) (a b c d x y : Value)
    (hp : tmps.getD p undef = .pointer (some ⟨g, 0, none⟩)) (hg : w.heap[g]? = some (.cells #[a, b, c, d] 24 (0, 0))) (hx : tmps.getD u undef = x) (hy : tmps.getD v undef = y) :
    (results fn tmps).run Tryz.prog w = .ok (.tuple #[.agg #[a, b, c, d], x, y]) w := by
  have hp' : tmps[p]?.getD undef = .pointer (some ⟨g, 0, none⟩) := by simpa using hp
  have hx' : tmps[u]?.getD undef = x := by simpa using hx
  have hy' : tmps[v]?.getD undef = y := by simpa using hy
  have hr := run_loadVar_row (P := Tryz.prog) w g 24 24 #[a, b, c, d] (0, 0) _ hg Tryz.underlying24 rfl (by kernel_rfl)
  simp [results, h, hp', hx', hy', asAddr, hr]
theorem Below.put {B : Nat} {w w' : World} (h : Below B w w') (H : Nat) (hH : B ≤ H) (x y z u : Value) : Below B w (put4 w' H x y z u) :=
  (((h.setCell (p := ⟨H, 0, none⟩) hH x).setCell (p := ⟨H, 1, none⟩) hH y).setCell (p := ⟨H, 2, none⟩) hH z).setCell (p := ⟨H, 3, none⟩) hH u
def parR (w : World) (r : R) (e : Ending) (w' : World) : Prop := match r with
  | .ok x s => ∃ p c, e = .returned (.tuple #[exprC x p c, .int .i64 s.at_, .int .i64 0]) ∧ FAt w' (w.heap.size ≤ ·) x.args p
  | .bad er a => er ≠ 0 ∧ e = .returned (.tuple #[noX, .int .i64 a, .int .i64 er])
theorem refParse_any (g cap : Nat) (ts : List TA) (he : Ends ts) (hn : ts.length ≤ 8001) (w : World) (ht : TsAt w g ts) :
    Calls Tryz.prog 50 #[.slice (some ⟨g, 0, none⟩) ts.length cap, .int .i64 0] w fun e w' => parR w (parseM ts 0) e w' ∧ Below w.heap.size w w' := by
  obtain ⟨FIN, hFIN⟩ : ∃ F, parseM ts 0 = F := ⟨_, rfl⟩
  rw [hFIN]
  unfold parseM at hFIN
  have HFIN := Lib.hid hFIN
  clear hFIN
  have HT := Lib.hid ht
  have HE := Lib.hid he
  have HN := Lib.hid hn
  have hni : (ts.length : Int) ≤ 8001 := by omega
  have hpi : (0 : Int) < (ts.length : Int) := by have := he.pos; omega
  have hpn : ¬ (ts.length : Int) ≤ 0 := by omega
  have HB0 := Lib.hid ((Below.refl w.heap.size w).alloc (Nat.le_refl _) (.cells #[.int .i64 0, .int .i64 0, .string ⟨#[]⟩, .slice none 0 0] 24))
  have HX0 := Lib.hid (Bx.new w (.int .i64 0) (.int .i64 0) (.string ⟨#[]⟩) (.slice none 0 0))
  clear ht he hn
  go_enter Tryz.func50, Tryz.ntmps50
  go_wp2_with fail
  go_loopw [13] (fun iv wr => ∃ i : Nat, iv = .int .i64 i ∧ i ≤ ts.length ∧ Below w.heap.size w wr ∧ w.heap.size < wr.heap.size ∧ Bx wr w.heap.size (.int .i64 0) (.int .i64 0) (.string ⟨#[]⟩) (.slice none 0 0)) (fun iv _ => ts.length - (intOf iv).toNat)
  case atStart => exact ⟨0, rfl, by omega, HB0.out, by simp, HX0.out⟩
  case round =>
    obtain ⟨i, rfl, hi, hb, hsz, hx⟩ := hrel
    have HB := Lib.hid hb
    have HX := Lib.hid hx
    have ht := HT.out.below hb
    by_cases hlt : i < ts.length
    · have hli : (i : Int) < (ts.length : Int) := by omega
      obtain ⟨t0, t1, t2, t3⟩ := ht.tok hlt
      have hgl := ht.lt
      have zg : ∀ o j, (wr.alloc o).cell? ⟨g, j, none⟩ = wr.cell? ⟨g, j, none⟩ := fun o j => Kept.cell (Kept.alloc (ok := fun _ => True) wr o) trivial hgl
      by_cases hl : i + 1 < ts.length
      · have hk := HE.out.mid i hl
        have hli2 : (i : Int) + 1 < (ts.length : Int) := by omega
        have hli3 : ((i : Int) + 1 == (ts.length : Int)) = false := by rw [beq_eq_false_iff_ne]; omega
        have hk0 : ((tk ts i).kind == 0) = false := by rw [beq_eq_false_iff_ne]; exact hk
        generalize tk ts i = T at *
        obtain ⟨kd, tx, nm, at_⟩ := T
        simp only at t0 t1 t2 t3 hk hk0
        clear hb hx ht
        go_wp2_with fail
        go_roundw
        case rel => exact ⟨i + 1, by go_num, by omega, HB.out.alloc (Nat.le_of_lt hsz) _, by simp; omega, HX.out.keep (Kept.alloc (ok := fun _ => True) _ _) trivial⟩
        case measure => simp [intOf]; omega
      · have hk : (tk ts i).kind = 0 := by
          have e : i = ts.length - 1 := by omega
          rw [e]; exact HE.out.last
        have hli2 : ¬ (i : Int) + 1 < (ts.length : Int) := by omega
        rw [hk] at t0
        generalize tk ts i = T at *
        obtain ⟨kd, tx, nm, at_⟩ := T
        simp only at t1 t2 t3
        clear hb hx ht hk
        go_wp2_with fail
        go_roundw
        case rel => exact ⟨i + 1, by go_num, by omega, HB.out.alloc (Nat.le_of_lt hsz) _, by simp; omega, HX.out.keep (Kept.alloc (ok := fun _ => True) _ _) trivial⟩
        case measure => simp [intOf]; omega
    · obtain rfl : i = ts.length := by omega
      have hpe : ¬ ts = [] := by intro e; have := HE.out.pos; rw [e] at this; simp at this
      have hpz : ¬ ts.length = 0 := by have := HE.out.pos; omega
      obtain ⟨b, hbe⟩ : ∃ b, wr.heap.size = b := ⟨_, rfl⟩
      have hgb : g ≠ b := by have := HT.out.lt; omega
      have hHb : ¬ w.heap.size = b := by omega
      have hbH : ¬ b = w.heap.size := by omega
      have O1 := Below.alloc (Below.refl wr.heap.size wr) (Nat.le_refl _) (.cells #[.slice (some ⟨g, 0, none⟩) ts.length cap, .int .i64 0, .int .i64 0, .int .i64 0, .int .i64 0, .int .i64 0] 149)
      have hrd : Rdg (wr.alloc (.cells #[.slice (some ⟨g, 0, none⟩) ts.length cap, .int .i64 0, .int .i64 0, .int .i64 0, .int .i64 0, .int .i64 0] 149)) b g cap ts.length ((0 : Nat) : Int) ((0 : Nat) : Int) ((0 : Nat) : Int) 0 0 := by
        have := heap_alloc_new wr (.cells #[.slice (some ⟨g, 0, none⟩) ts.length cap, .int .i64 0, .int .i64 0, .int .i64 0, .int .i64 0, .int .i64 0] 149)
        rw [hbe] at this
        exact this
      have HLV := Lib.hid ((rlevel_all b g cap ts HE.out hgb HN.out FUEL).2 0 (by omega) ⟨0, 0, 0⟩ ⟨HE.out.pos, by simp, by simp⟩ (by unfold need FUEL; simp) _ hrd (ht.below O1))
      have HB1 := Lib.hid (hb.trans (O1.mono (Nat.le_of_lt hsz)))
      have HX1 := Lib.hid (hx.keep (Kept.alloc (ok := fun _ => True) wr (.cells #[.slice (some ⟨g, 0, none⟩) ts.length cap, .int .i64 0, .int .i64 0, .int .i64 0, .int .i64 0, .int .i64 0] 149)) trivial)
      have HZ1 := Lib.hid (show (wr.alloc (.cells #[.slice (some ⟨g, 0, none⟩) ts.length cap, .int .i64 0, .int .i64 0, .int .i64 0, .int .i64 0, .int .i64 0] 149)).heap.size = b + 1 by simp; omega)
      clear hb hx ht O1 hrd
      cases hr : lv ts FUEL 0 ⟨0, 0, 0⟩ with
      | ok x s2 =>
        rw [hr] at HLV
        have HFF := Lib.hid (show R.ok x s2 = FIN by rw [← HFIN.out, hr])
        clear hr
        go_wp2_with fail
        refine HLV.out.mono ?_
        rintro e w5 ⟨o5, o, n, t, q, k, c, rfl, hp⟩
        obtain ⟨e1, e2, e3, e4, hfa, hrd⟩ := hp
        subst e1 e2 e3 e4
        have hh := HX1.out.keep o5.kept hHb
        have HB5 := Lib.hid (Only.below HB1.out o5 (by have := HB1.out.size; exact this) (by omega))
        have HZ5 := Lib.hid (show b + 1 ≤ w5.heap.size by have := o5.size; rw [HZ1.out] at this; exact this)
        have f5 := hh.fz
        have p0 := hh.c0
        have p1 := hh.c1
        have p2 := hh.c2
        have p3 := hh.c3
        have d1 := hrd.c1
        have d4 := hrd.c4
        have hh5 := hh.lt
        have hb5 := hrd.lt
        have zb : ∀ o j, (w5.alloc o).cell? ⟨b, j, none⟩ = w5.cell? ⟨b, j, none⟩ := fun o j => Kept.cell (Kept.alloc (ok := fun _ => True) w5 o) trivial hb5
        have zh : ∀ o j, (w5.alloc o).cell? ⟨w.heap.size, j, none⟩ = w5.cell? ⟨w.heap.size, j, none⟩ := fun o j => Kept.cell (Kept.alloc (ok := fun _ => True) w5 o) trivial hh5
        have zf : ∀ o j, (w5.alloc o).frozen? ⟨w.heap.size, j, none⟩ = false := fun o j => (hh.keep (Kept.alloc (ok := fun _ => True) w5 o) trivial).fz j
        have HH5 := Lib.hid hh
        have HF5 := Lib.hid hfa
        have HXF := Lib.hid (show Bx ((put4 w5 w.heap.size (.int .i64 x.op) (.int .i64 x.num) (.string (S x.text)) (.slice q x.args.len c)).alloc (.cells #[.int .i64 x.op, .int .i64 x.num, .string (S x.text), .slice q x.args.len c] 24)).drew w.heap.size (.int .i64 x.op) (.int .i64 x.num) (.string (S x.text)) (.slice q x.args.len c) from Bx.keep (ok := fun _ => True) (hh.put _ _ _ _) ((Kept.alloc _ _).trans (Kept.of_below (Below.refl _ _).drew)) trivial)
        have HFF5 := Lib.hid (show FAt ((put4 w5 w.heap.size (.int .i64 x.op) (.int .i64 x.num) (.string (S x.text)) (.slice q x.args.len c)).alloc (.cells #[.int .i64 x.op, .int .i64 x.num, .string (S x.text), .slice q x.args.len c] 24)).drew (w.heap.size ≤ ·) x.args q from
          (FAt.mono (ok' := (w.heap.size ≤ ·)) (fun y _ hg => by have h1 := HZ1.out; have h2 : (wr.alloc (.cells #[.slice (some ⟨g, 0, none⟩) ts.length cap, .int .i64 0, .int .i64 0, .int .i64 0, .int .i64 0, .int .i64 0] 149)).heap.size ≤ y := hg; show w.heap.size ≤ y; omega) _ _ ((hfa.keep (Kept.put _ w.heap.size _ _ _ _ (by rw [HZ1.out]; omega))).keep ((Kept.alloc _ _).trans (Kept.of_below (Below.refl _ _).drew)))))
        have HBF := Lib.hid (((Below.put HB5.out w.heap.size (Nat.le_refl _) (.int .i64 x.op) (.int .i64 x.num) (.string (S x.text)) (.slice q x.args.len c)).alloc (by rw [put4_size]; omega) (.cells #[.int .i64 x.op, .int .i64 x.num, .string (S x.text), .slice q x.args.len c] 24)).drew)
        clear hh hrd hfa o5
        go_wp2_with fail
        go_region_with (fail)
        all_goals
          simp only [Exit.then]
          go_wp2_with fail
          refine bodyPost_ret (res_expr3 rfl _ _ w.heap.size _ _ _ _ (.int .i64 s2.at_) (.int .i64 0) rfl HXF.out rfl rfl) rfl ?_
          rw [← HFF.out]
          exact ⟨⟨q, c, rfl, HFF5.out⟩, HBF.out⟩
      | bad er a =>
        rw [hr] at HLV
        have HFF := Lib.hid (show R.bad er a = FIN by rw [← HFIN.out, hr])
        clear hr
        go_wp2_with fail
        refine HLV.out.mono ?_
        rintro e w5 ⟨o5, o, n, t, q, k, c, rfl, hp⟩
        obtain ⟨her, a5, n5, oo5, hrd⟩ := hp
        have her2 : ((er : Int) == 0) = false := by rw [beq_eq_false_iff_ne]; omega
        have hh := HX1.out.keep o5.kept hHb
        have HB5 := Lib.hid (Only.below HB1.out o5 (by have := HB1.out.size; exact this) (by omega))
        have f5 := hh.fz
        have p0 := hh.c0
        have p1 := hh.c1
        have p2 := hh.c2
        have p3 := hh.c3
        have d4 := hrd.c4
        have d5 := hrd.c5
        have hh5 := hh.lt
        have hb5 := hrd.lt
        have zb : ∀ o j, (w5.alloc o).cell? ⟨b, j, none⟩ = w5.cell? ⟨b, j, none⟩ := fun o j => Kept.cell (Kept.alloc (ok := fun _ => True) w5 o) trivial hb5
        have zh : ∀ o j, (w5.alloc o).cell? ⟨w.heap.size, j, none⟩ = w5.cell? ⟨w.heap.size, j, none⟩ := fun o j => Kept.cell (Kept.alloc (ok := fun _ => True) w5 o) trivial hh5
        have zf : ∀ o j, (w5.alloc o).frozen? ⟨w.heap.size, j, none⟩ = false := fun o j => (hh.keep (Kept.alloc (ok := fun _ => True) w5 o) trivial).fz j
        have HH5 := Lib.hid hh
        have HER := Lib.hid her
        have HXF := Lib.hid (show Bx ((put4 w5 w.heap.size (.int .i64 0) (.int .i64 0) (.string ⟨#[]⟩) (.slice none 0 0)).alloc (.cells #[.int .i64 o, .int .i64 n, .string (S t), .slice q k c] 24)).drew w.heap.size (.int .i64 0) (.int .i64 0) (.string ⟨#[]⟩) (.slice none 0 0) from Bx.keep (ok := fun _ => True) (hh.put _ _ _ _) ((Kept.alloc _ _).trans (Kept.of_below (Below.refl _ _).drew)) trivial)
        have HBF := Lib.hid (((Below.put HB5.out w.heap.size (Nat.le_refl _) (.int .i64 0) (.int .i64 0) (.string ⟨#[]⟩) (.slice none 0 0)).alloc (by rw [put4_size]; omega) (.cells #[.int .i64 o, .int .i64 n, .string (S t), .slice q k c] 24)).drew)
        clear hh hrd o5
        go_wp2_with fail
        go_region_with (fail)
        all_goals
          simp only [Exit.then]
          go_wp2_with fail
          refine bodyPost_ret (res_expr3 rfl _ _ w.heap.size _ _ _ _ (.int .i64 a) (.int .i64 er) rfl HXF.out rfl rfl) rfl ?_
          rw [← HFF.out]
          exact ⟨⟨HER.out, rfl⟩, HBF.out⟩
end Go.Proofs.YtlmmfhbdebfgkaaGreatDoor.Ex
