/-
  ExRefV.
-/
import Derived.Test.YtlmmfhbdebfgkaaGreatDoorVEvOfPQ
set_option linter.unusedVariables false
set_option linter.unusedSimpArgs false
set_option maxRecDepth 100000
set_option maxHeartbeats 2000000
namespace Go.Proofs.YtlmmfhbdebfgkaaGreatDoor.Ex
open Go.RowKit
open Lx
theorem unAt_some {ts : List TA} {a : Nat} {op : Int} (h : unAt (tk ts a) = some op) : (isS ts a [33] = true ∧ op = 10) ∨ (isS ts a [33] = false ∧ isS ts a [45] = true ∧ op = 11) := by
  rw [unAt_is] at h
  split at h
  · rename_i hx; exact .inl ⟨hx, (Option.some.inj h).symm⟩
  · rename_i hx
    split at h
    · rename_i hy; exact .inr ⟨by simpa using hx, hy, (Option.some.inj h).symm⟩
    · cases h
def unW (w5 : World) (b H : Nat) (v op : Int) (o n : Int) (t : List UInt8) (q : Option Addr) (k c : Nat) : World :=
  ((put4 (w5.setCell ⟨b, 3, none⟩ (.int .i64 v)) H (.int .i64 op) (.int .i64 0) (.string ⟨#[]⟩) (.slice (some ⟨w5.heap.size + 1, 0, none⟩) 1 1)).alloc (.cells #[.int .i64 o, .int .i64 n, .string (S t), .slice q k c] 24)).alloc (.cells #[.int .i64 o, .int .i64 n, .string (S t), .slice q k c] 24)
section
variable {b g cap : Nat} {ts : List TA} {w w5 : World} {v op o n : Int} {t : List UInt8} {q : Option Addr} {k c : Nat} {x0 x1 x2 x3 : Value}
theorem unW_kept {ok : Nat → Prop} (hb : ¬ ok b) (hH : ¬ ok w.heap.size) : Kept ok w5 (unW w5 b w.heap.size v op o n t q k c) :=
  (((Kept.set w5 b 3 _ hb).trans (Kept.put _ w.heap.size _ _ _ _ hH)).trans (Kept.alloc _ _)).trans (Kept.alloc _ _)
theorem unW_only (hO : Only b w w5) : Only b w (unW w5 b w.heap.size v op o n t q k c) :=
  ((hO.set' 3 _).put w.heap.size (Nat.le_refl _) _ _ _ _).alloc _ |>.alloc _
theorem unW_bx (hx : Bx w5 w.heap.size x0 x1 x2 x3) (hlt : b < w.heap.size) : Bx (unW w5 b w.heap.size v op o n t q k c) w.heap.size (.int .i64 op) (.int .i64 0) (.string ⟨#[]⟩) (.slice (some ⟨w5.heap.size + 1, 0, none⟩) 1 1) :=
  ((((hx.keep (Kept.set (ok := (· ≠ b)) w5 b 3 (.int .i64 v) (by simp)) (show w.heap.size ≠ b by omega)).put _ _ _ _).keep (Kept.alloc (ok := fun _ => True) _ _) trivial)).keep (Kept.alloc (ok := fun _ => True) _ _) trivial
theorem unW_rdg {a' n' o' bad fault : Int} (hr : Rdg w5 b g cap ts.length a' n' o' bad fault) (hlt : b < w.heap.size) : Rdg (unW w5 b w.heap.size v op o n t q k c) b g cap ts.length a' n' v bad fault :=
  (((hr.set3 v).keep (Kept.put (ok := (· ≠ w.heap.size)) _ w.heap.size _ _ _ _ (by simp)) (show b ≠ w.heap.size by omega)).keep (Kept.alloc (ok := fun _ => True) _ _) trivial).keep (Kept.alloc (ok := fun _ => True) _ _) trivial
theorem unW_new : Bx (unW w5 b w.heap.size v op o n t q k c) (w5.heap.size + 1) (.int .i64 o) (.int .i64 n) (.string (S t)) (.slice q k c) := by
  have h := Bx.new ((put4 (w5.setCell ⟨b, 3, none⟩ (.int .i64 v)) w.heap.size (.int .i64 op) (.int .i64 0) (.string ⟨#[]⟩) (.slice (some ⟨w5.heap.size + 1, 0, none⟩) 1 1)).alloc (.cells #[.int .i64 o, .int .i64 n, .string (S t), .slice q k c] 24)) (.int .i64 o) (.int .i64 n) (.string (S t)) (.slice q k c)
  have e : ((put4 (w5.setCell ⟨b, 3, none⟩ (.int .i64 v)) w.heap.size (.int .i64 op) (.int .i64 0) (.string ⟨#[]⟩) (.slice (some ⟨w5.heap.size + 1, 0, none⟩) 1 1)).alloc (.cells #[.int .i64 o, .int .i64 n, .string (S t), .slice q k c] 24)).heap.size = w5.heap.size + 1 := by
    simp [put4]
  rw [e] at h
  exact h
theorem FAt.one {W : World} {ok : Nat → Prop} {x : T} {N : Nat} (hb : Bx W N (.int .i64 x.op) (.int .i64 x.num) (.string (S x.text)) (.slice q x.args.len c)) (hN : ok N) (hf : FAt W ok x.args q) : FAt W ok x.row (some ⟨N, 0, none⟩) :=
  ⟨N, 0, q, c, rfl, hN, hb.lt, hb.c0, hb.c1, hb.c2, hb.c3, hf, trivial⟩
theorem unW_post {x : T} {s2 : St} {lo : Nat} (hlt : b < w.heap.size) (hlo : w.heap.size < lo) (hl5 : lo ≤ w5.heap.size) (hf : FAt w5 (lo ≤ ·) x.args q) (hr : Rdg w5 b g cap ts.length s2.at_ s2.n s2.open_ 0 0) :
    Post b g cap ts w.heap.size (.ok ⟨op, 0, [], x.row⟩ ⟨s2.at_, s2.n, s2.open_ - 1⟩) op 0 [] (some ⟨w5.heap.size + 1, 0, none⟩) 1 (unW w5 b w.heap.size ((s2.open_ - 1 : Nat) : Int) op x.op x.num x.text q x.args.len c) := by
  refine ⟨rfl, rfl, rfl, rfl, ?_, unW_rdg hr hlt⟩
  refine FAt.one unW_new (show w.heap.size ≤ w5.heap.size + 1 by omega) ?_
  exact FAt.mono (fun g _ hg => Nat.le_trans (Nat.le_of_lt hlo) hg) _ _ (hf.keep (unW_kept (show ¬ lo ≤ b by omega) (show ¬ lo ≤ w.heap.size by omega)))
end
theorem runary_deep_33 (b g cap : Nat) (ts : List TA) (s : St) (w : World) (h : Rdg w b g cap ts.length s.at_ s.n s.open_ 0 0) (ht : TsAt w g ts) (hs : s.at_ < ts.length) (hn : ts.length ≤ 8001)
    (hu : isS ts s.at_ [33] = true) (ho : s.open_ = 20) :
    Calls Tryz.prog 138 #[.pointer (some ⟨b, 0, none⟩)] w fun e w' => ResA b g cap ts w (.bad 26 s.at_) e w' := by
  have H := Lib.hid h
  have hlt := h.lt
  have H33 := Lib.hid (fun (w1 : World) (b1 : Below w.heap.size w w1) => show Calls Tryz.prog 171 #[.pointer (some ⟨b, 0, none⟩), .string ⟨#[33]⟩] w1 fun e w' => e = .returned (.bool (isS ts s.at_ [33])) ∧ Below w1.heap.size w1 w' from ris_any b g cap s.at_ s.n s.open_ 0 0 ts ⟨#[33]⟩ w1 (h.below b1) (ht.below b1) hs hn)
  rw [hu] at H33
  have HOP := Lib.hid (fun (w1 : World) (k : Rdg w1 b g cap ts.length s.at_ s.n s.open_ 0 0) => ropens_no b g cap ts.length s.at_ s.n 0 w1 (by rw [ho] at k; exact k))
  have HND := Lib.hid (fun (w1 : World) (o : Int) (k : Rdg w1 b g cap ts.length s.at_ s.n o 26 s.at_) => rnode_bad b g cap ts.length s.at_ s.n o 26 s.at_ (by decide) w1 k)
  have hai : (s.at_ : Int) ≤ 8001 := by omega
  have HB0 := Lib.hid ((Below.refl w.heap.size w).alloc (Nat.le_refl _) (.cells #[.int .i64 0, .int .i64 0, .string ⟨#[]⟩, .slice none 0 0] 24))
  have HX0 := Lib.hid (Bx.new w (.int .i64 0) (.int .i64 0) (.string ⟨#[]⟩) (.slice none 0 0))
  clear h ht hs hn hu ho
  go_enter Tryz.func138, Tryz.ntmps138
  go_wp2_with fail
  refine (H33.out _ HB0.out).mono ?_
  rintro e v1 ⟨rfl, b1⟩
  have HB1 := Lib.hid (HB0.out.trans (b1.mono (by simp)))
  have HX1 := Lib.hid (HX0.out.keep (Kept.of_below (ok := fun _ => True) b1) trivial)
  clear b1
  go_wp2_with fail
  refine (HOP.out _ (H.out.below HB1.out)).mono ?_
  rintro e w2 ⟨rfl, ⟨oo, r2⟩, o2⟩
  have HR2 := Lib.hid r2
  have HO2 := Lib.hid ((Only.of_below HB1.out).trans o2)
  have HXA := Lib.hid (HX1.out.keep o2.kept (show w.heap.size ≠ b by omega))
  clear r2 o2
  go_wp2_with fail
  refine (HND.out _ _ HR2.out).mono ?_
  rintro e w3 ⟨rfl, ⟨nn, r3⟩, o3⟩
  have HO3 := Lib.hid (HO2.out.trans o3)
  have hx3 := HXA.out.keep o3.kept (show w.heap.size ≠ b by omega)
  have hne : ¬ b = w.heap.size := by omega
  have hne2 : ¬ w.heap.size = b := by omega
  have a1 := r3.c1
  have a4 := r3.c4
  have az := r3.fz
  have f5 := hx3.fz
  have p0 := hx3.c0
  have p1 := hx3.c1
  have p2 := hx3.c2
  have p3 := hx3.c3
  have HX3 := Lib.hid ((hx3.keep (Kept.set (ok := (· ≠ b)) w3 b 1 (.int .i64 ((s.at_ : Int) + 1)) (by simp)) (show w.heap.size ≠ b by omega)).put (.int .i64 0) (.int .i64 0) (.string ⟨#[]⟩) (.slice none 0 0))
  have HR3 := Lib.hid ((r3.set1 ((s.at_ : Int) + 1)).keep (Kept.put (ok := (· ≠ w.heap.size)) _ w.heap.size (.int .i64 0) (.int .i64 0) (.string ⟨#[]⟩) (.slice none 0 0) (by simp)) (show b ≠ w.heap.size by omega))
  have HO4 := Lib.hid ((HO3.out.set' 1 (.int .i64 ((s.at_ : Int) + 1))).put w.heap.size (Nat.le_refl _) (.int .i64 0) (.int .i64 0) (.string ⟨#[]⟩) (.slice none 0 0))
  clear r3 o3 hx3
  go_wp2_with fail
  refine bodyPost_ret (res_expr rfl _ _ w.heap.size _ _ _ _ rfl HX3.out) rfl ?_
  exact ⟨HO4.out, 0, 0, [], none, 0, 0, rfl, by decide, _, _, _, HR3.out⟩
theorem runary_many_33 (b g cap : Nat) (ts : List TA) (s : St) (w : World) (h : Rdg w b g cap ts.length s.at_ s.n s.open_ 0 0) (ht : TsAt w g ts) (hs : s.at_ < ts.length) (hn : ts.length ≤ 8001)
    (hu : isS ts s.at_ [33] = true) (ho : s.open_ < 20) (hN : s.n = 200) :
    Calls Tryz.prog 138 #[.pointer (some ⟨b, 0, none⟩)] w fun e w' => ResA b g cap ts w (.bad 27 s.at_) e w' := by
  have H := Lib.hid h
  have hlt := h.lt
  have H33 := Lib.hid (fun (w1 : World) (b1 : Below w.heap.size w w1) => show Calls Tryz.prog 171 #[.pointer (some ⟨b, 0, none⟩), .string ⟨#[33]⟩] w1 fun e w' => e = .returned (.bool (isS ts s.at_ [33])) ∧ Below w1.heap.size w1 w' from ris_any b g cap s.at_ s.n s.open_ 0 0 ts ⟨#[33]⟩ w1 (h.below b1) (ht.below b1) hs hn)
  rw [hu] at H33
  have HOP := Lib.hid (fun (w1 : World) (k : Rdg w1 b g cap ts.length s.at_ s.n s.open_ 0 0) => ropens_ok b g cap ts.length s.at_ s.n 0 s.open_ w1 k ho)
  have HND := Lib.hid (fun (w1 : World) (k : Rdg w1 b g cap ts.length s.at_ s.n (s.open_ + 1 : Nat) 0 0) => rnode_no b g cap ts.length s.at_ (s.open_ + 1 : Nat) 0 w1 (by rw [hN] at k; exact k))
  have hai : (s.at_ : Int) ≤ 8001 := by omega
  have HB0 := Lib.hid ((Below.refl w.heap.size w).alloc (Nat.le_refl _) (.cells #[.int .i64 0, .int .i64 0, .string ⟨#[]⟩, .slice none 0 0] 24))
  have HX0 := Lib.hid (Bx.new w (.int .i64 0) (.int .i64 0) (.string ⟨#[]⟩) (.slice none 0 0))
  clear h ht hs hn hu ho hN
  go_enter Tryz.func138, Tryz.ntmps138
  go_wp2_with fail
  refine (H33.out _ HB0.out).mono ?_
  rintro e v1 ⟨rfl, b1⟩
  have HB1 := Lib.hid (HB0.out.trans (b1.mono (by simp)))
  have HX1 := Lib.hid (HX0.out.keep (Kept.of_below (ok := fun _ => True) b1) trivial)
  clear b1
  go_wp2_with fail
  refine (HOP.out _ (H.out.below HB1.out)).mono ?_
  rintro e w2 ⟨rfl, r2, o2⟩
  have HR2 := Lib.hid r2
  have HO2 := Lib.hid ((Only.of_below HB1.out).trans o2)
  have HXA := Lib.hid (HX1.out.keep o2.kept (show w.heap.size ≠ b by omega))
  clear r2 o2
  go_wp2_with fail
  refine (HND.out _ HR2.out).mono ?_
  rintro e w3 ⟨rfl, ⟨nn, r3⟩, o3⟩
  have HO3 := Lib.hid (HO2.out.trans o3)
  have hx3 := HXA.out.keep o3.kept (show w.heap.size ≠ b by omega)
  have hne : ¬ b = w.heap.size := by omega
  have hne2 : ¬ w.heap.size = b := by omega
  have a1 := r3.c1
  have a4 := r3.c4
  have az := r3.fz
  have f5 := hx3.fz
  have p0 := hx3.c0
  have p1 := hx3.c1
  have p2 := hx3.c2
  have p3 := hx3.c3
  have HX3 := Lib.hid ((hx3.keep (Kept.set (ok := (· ≠ b)) w3 b 1 (.int .i64 ((s.at_ : Int) + 1)) (by simp)) (show w.heap.size ≠ b by omega)).put (.int .i64 0) (.int .i64 0) (.string ⟨#[]⟩) (.slice none 0 0))
  have HR3 := Lib.hid ((r3.set1 ((s.at_ : Int) + 1)).keep (Kept.put (ok := (· ≠ w.heap.size)) _ w.heap.size (.int .i64 0) (.int .i64 0) (.string ⟨#[]⟩) (.slice none 0 0) (by simp)) (show b ≠ w.heap.size by omega))
  have HO4 := Lib.hid ((HO3.out.set' 1 (.int .i64 ((s.at_ : Int) + 1))).put w.heap.size (Nat.le_refl _) (.int .i64 0) (.int .i64 0) (.string ⟨#[]⟩) (.slice none 0 0))
  clear r3 o3 hx3
  go_wp2_with fail
  refine bodyPost_ret (res_expr rfl _ _ w.heap.size _ _ _ _ rfl HX3.out) rfl ?_
  exact ⟨HO4.out, 0, 0, [], none, 0, 0, rfl, by decide, _, _, _, HR3.out⟩
theorem runary_ok_33 (b g cap : Nat) (ts : List TA) (s : St) (x : T) (s2 : St) (w : World) (h : Rdg w b g cap ts.length s.at_ s.n s.open_ 0 0) (ht : TsAt w g ts) (hg : g ≠ b) (hs : s.at_ < ts.length) (hn : ts.length ≤ 8001)
    (hu : isS ts s.at_ [33] = true) (ho : s.open_ < 20) (hN : s.n < 200) (hs2 : s2.open_ = s.open_ + 1)
    (HP : ∀ w1, Rdg w1 b g cap ts.length (s.at_ + 1 : Nat) (s.n + 1 : Nat) (s.open_ + 1 : Nat) 0 0 → TsAt w1 g ts → Calls Tryz.prog 138 #[.pointer (some ⟨b, 0, none⟩)] w1 fun e w' => ResA b g cap ts w1 (.ok x s2) e w') :
    Calls Tryz.prog 138 #[.pointer (some ⟨b, 0, none⟩)] w fun e w' => ResA b g cap ts w (.ok ⟨10, 0, [], x.row⟩ ⟨s2.at_, s2.n, s2.open_ - 1⟩) e w' := by
  have H := Lib.hid h
  have HT := Lib.hid ht
  have hlt := h.lt
  have H33 := Lib.hid (fun (w1 : World) (b1 : Below w.heap.size w w1) => show Calls Tryz.prog 171 #[.pointer (some ⟨b, 0, none⟩), .string ⟨#[33]⟩] w1 fun e w' => e = .returned (.bool (isS ts s.at_ [33])) ∧ Below w1.heap.size w1 w' from ris_any b g cap s.at_ s.n s.open_ 0 0 ts ⟨#[33]⟩ w1 (h.below b1) (ht.below b1) hs hn)
  rw [hu] at H33
  have HOP := Lib.hid (fun (w1 : World) (k : Rdg w1 b g cap ts.length s.at_ s.n s.open_ 0 0) => ropens_ok b g cap ts.length s.at_ s.n 0 s.open_ w1 k ho)
  have HND := Lib.hid (fun (w1 : World) (k : Rdg w1 b g cap ts.length s.at_ s.n (s.open_ + 1 : Nat) 0 0) => rnode_ok b g cap ts.length s.at_ (s.open_ + 1 : Nat) 0 s.n w1 k hN)
  have HP1 := Lib.hid HP
  have hg1 := Lib.hid hg
  have HA := Lib.hid (show (s.at_ : Int) + 1 = ((s.at_ + 1 : Nat) : Int) by omega)
  have hoi : (s2.open_ : Int) ≤ 20 := by omega
  have hoj : (1 : Int) ≤ (s2.open_ : Int) := by omega
  have HM := Lib.hid (show (s2.open_ : Int) - 1 = ((s2.open_ - 1 : Nat) : Int) by omega)
  have hai : (s.at_ : Int) ≤ 8001 := by omega
  have HB0 := Lib.hid ((Below.refl w.heap.size w).alloc (Nat.le_refl _) (.cells #[.int .i64 0, .int .i64 0, .string ⟨#[]⟩, .slice none 0 0] 24))
  have HX0 := Lib.hid (Bx.new w (.int .i64 0) (.int .i64 0) (.string ⟨#[]⟩) (.slice none 0 0))
  clear h ht hs hn hu HP hg ho hN hs2
  go_enter Tryz.func138, Tryz.ntmps138
  go_wp2_with fail
  refine (H33.out _ HB0.out).mono ?_
  rintro e v1 ⟨rfl, b1⟩
  have HB1 := Lib.hid (HB0.out.trans (b1.mono (by simp)))
  have HX1 := Lib.hid (HX0.out.keep (Kept.of_below (ok := fun _ => True) b1) trivial)
  clear b1
  go_wp2_with fail
  refine (HOP.out _ (H.out.below HB1.out)).mono ?_
  rintro e w2 ⟨rfl, r2, o2⟩
  have HR2 := Lib.hid r2
  have HO2 := Lib.hid ((Only.of_below HB1.out).trans o2)
  have HXA := Lib.hid (HX1.out.keep o2.kept (show w.heap.size ≠ b by omega))
  clear r2 o2
  go_wp2_with fail
  refine (HND.out _ HR2.out).mono ?_
  rintro e w3 ⟨rfl, r3, o3⟩
  have HO3 := Lib.hid (HO2.out.trans o3)
  have HXC := Lib.hid (HXA.out.keep o3.kept (show w.heap.size ≠ b by omega))
  have a1 := r3.c1
  have a4 := r3.c4
  have az := r3.fz
  have HR3 := Lib.hid (r3.set1 ((s.at_ + 1 : Nat) : Int))
  have HO4 := Lib.hid (HO3.out.set' 1 (.int .i64 ((s.at_ + 1 : Nat) : Int)))
  have HX4 := Lib.hid (HXC.out.keep (Only.set b w3 1 (.int .i64 ((s.at_ + 1 : Nat) : Int))).kept (show w.heap.size ≠ b by omega))
  clear r3 o3
  go_wp2_with fail
  rw [HA.out]
  refine (HP1.out _ HR3.out (HO4.out.ts HT.out hg1.out)).mono ?_
  rintro e w5 ⟨o5, o, n, t, q, k, c, rfl, hp⟩
  obtain ⟨e1, e2, e3, e4, hf, hr⟩ := hp
  subst e1 e2 e3 e4
  have hx5 := HX4.out.keep o5.kept (show w.heap.size ≠ b by omega)
  have HO5 := Lib.hid (HO4.out.trans o5)
  have hne : ¬ b = w.heap.size := by omega
  have hne2 : ¬ w.heap.size = b := by omega
  have hlt5 := hx5.lt
  have hb5 := hr.lt
  have f5 := hx5.fz
  have p0 := hx5.c0
  have p1 := hx5.c1
  have p2 := hx5.c2
  have p3 := hx5.c3
  have d3 := hr.c3
  have dz := hr.fz
  have zb : ∀ o j, (w5.alloc o).cell? ⟨b, j, none⟩ = w5.cell? ⟨b, j, none⟩ := fun o j => Kept.cell (Kept.alloc (ok := fun _ => True) w5 o) trivial hb5
  have zh : ∀ o j, (w5.alloc o).cell? ⟨w.heap.size, j, none⟩ = w5.cell? ⟨w.heap.size, j, none⟩ := fun o j => Kept.cell (Kept.alloc (ok := fun _ => True) w5 o) trivial hlt5
  have zf : ∀ o j, (w5.alloc o).frozen? ⟨b, j, none⟩ = false := fun o j => (hr.keep (Kept.alloc (ok := fun _ => True) w5 o) trivial).fz j
  have HX5 := Lib.hid hx5
  have HW4 := Lib.hid HX4.out.lt
  have HW5 := Lib.hid o5.size
  have HF5 := Lib.hid hf
  have HR5 := Lib.hid hr
  clear hx5 o5 hf hr
  go_wp2_with fail
  rw [HM.out]
  refine bodyPost_ret (res_expr rfl _ _ w.heap.size _ _ _ _ rfl (unW_bx (b := b) HX5.out hlt)) rfl ?_
  exact ⟨unW_only HO5.out, 10, 0, [], _, 1, 1, rfl, unW_post hlt HW4.out HW5.out HF5.out HR5.out⟩
theorem runary_bad_33 (b g cap : Nat) (ts : List TA) (s : St) (er a : Nat) (w : World) (h : Rdg w b g cap ts.length s.at_ s.n s.open_ 0 0) (ht : TsAt w g ts) (hg : g ≠ b) (hs : s.at_ < ts.length) (hn : ts.length ≤ 8001)
    (hu : isS ts s.at_ [33] = true) (ho : s.open_ < 20) (hN : s.n < 200)
    (HP : ∀ w1, Rdg w1 b g cap ts.length (s.at_ + 1 : Nat) (s.n + 1 : Nat) (s.open_ + 1 : Nat) 0 0 → TsAt w1 g ts → Calls Tryz.prog 138 #[.pointer (some ⟨b, 0, none⟩)] w1 fun e w' => ResA b g cap ts w1 (.bad er a) e w') :
    Calls Tryz.prog 138 #[.pointer (some ⟨b, 0, none⟩)] w fun e w' => ResA b g cap ts w (.bad er a) e w' := by
  have H := Lib.hid h
  have HT := Lib.hid ht
  have hlt := h.lt
  have H33 := Lib.hid (fun (w1 : World) (b1 : Below w.heap.size w w1) => show Calls Tryz.prog 171 #[.pointer (some ⟨b, 0, none⟩), .string ⟨#[33]⟩] w1 fun e w' => e = .returned (.bool (isS ts s.at_ [33])) ∧ Below w1.heap.size w1 w' from ris_any b g cap s.at_ s.n s.open_ 0 0 ts ⟨#[33]⟩ w1 (h.below b1) (ht.below b1) hs hn)
  rw [hu] at H33
  have HOP := Lib.hid (fun (w1 : World) (k : Rdg w1 b g cap ts.length s.at_ s.n s.open_ 0 0) => ropens_ok b g cap ts.length s.at_ s.n 0 s.open_ w1 k ho)
  have HND := Lib.hid (fun (w1 : World) (k : Rdg w1 b g cap ts.length s.at_ s.n (s.open_ + 1 : Nat) 0 0) => rnode_ok b g cap ts.length s.at_ (s.open_ + 1 : Nat) 0 s.n w1 k hN)
  have HP1 := Lib.hid HP
  have hg1 := Lib.hid hg
  have HA := Lib.hid (show (s.at_ : Int) + 1 = ((s.at_ + 1 : Nat) : Int) by omega)
  have hai : (s.at_ : Int) ≤ 8001 := by omega
  have HB0 := Lib.hid ((Below.refl w.heap.size w).alloc (Nat.le_refl _) (.cells #[.int .i64 0, .int .i64 0, .string ⟨#[]⟩, .slice none 0 0] 24))
  have HX0 := Lib.hid (Bx.new w (.int .i64 0) (.int .i64 0) (.string ⟨#[]⟩) (.slice none 0 0))
  clear h ht hs hn hu HP hg ho hN
  go_enter Tryz.func138, Tryz.ntmps138
  go_wp2_with fail
  refine (H33.out _ HB0.out).mono ?_
  rintro e v1 ⟨rfl, b1⟩
  have HB1 := Lib.hid (HB0.out.trans (b1.mono (by simp)))
  have HX1 := Lib.hid (HX0.out.keep (Kept.of_below (ok := fun _ => True) b1) trivial)
  clear b1
  go_wp2_with fail
  refine (HOP.out _ (H.out.below HB1.out)).mono ?_
  rintro e w2 ⟨rfl, r2, o2⟩
  have HR2 := Lib.hid r2
  have HO2 := Lib.hid ((Only.of_below HB1.out).trans o2)
  have HXA := Lib.hid (HX1.out.keep o2.kept (show w.heap.size ≠ b by omega))
  clear r2 o2
  go_wp2_with fail
  refine (HND.out _ HR2.out).mono ?_
  rintro e w3 ⟨rfl, r3, o3⟩
  have HO3 := Lib.hid (HO2.out.trans o3)
  have HXC := Lib.hid (HXA.out.keep o3.kept (show w.heap.size ≠ b by omega))
  have a1 := r3.c1
  have a4 := r3.c4
  have az := r3.fz
  have HR3 := Lib.hid (r3.set1 ((s.at_ + 1 : Nat) : Int))
  have HO4 := Lib.hid (HO3.out.set' 1 (.int .i64 ((s.at_ + 1 : Nat) : Int)))
  have HX4 := Lib.hid (HXC.out.keep (Only.set b w3 1 (.int .i64 ((s.at_ + 1 : Nat) : Int))).kept (show w.heap.size ≠ b by omega))
  clear r3 o3
  go_wp2_with fail
  rw [HA.out]
  refine (HP1.out _ HR3.out (HO4.out.ts HT.out hg1.out)).mono ?_
  rintro e w5 ⟨o5, o, n, t, q, k, c, rfl, hp⟩
  obtain ⟨he, a', n', o', hr⟩ := hp
  have hx5 := HX4.out.keep o5.kept (show w.heap.size ≠ b by omega)
  have HO5 := Lib.hid (HO4.out.trans o5)
  have hne : ¬ b = w.heap.size := by omega
  have hne2 : ¬ w.heap.size = b := by omega
  have hlt5 := hx5.lt
  have hb5 := hr.lt
  have f5 := hx5.fz
  have p0 := hx5.c0
  have p1 := hx5.c1
  have p2 := hx5.c2
  have p3 := hx5.c3
  have d3 := hr.c3
  have dz := hr.fz
  have zb : ∀ o j, (w5.alloc o).cell? ⟨b, j, none⟩ = w5.cell? ⟨b, j, none⟩ := fun o j => Kept.cell (Kept.alloc (ok := fun _ => True) w5 o) trivial hb5
  have zh : ∀ o j, (w5.alloc o).cell? ⟨w.heap.size, j, none⟩ = w5.cell? ⟨w.heap.size, j, none⟩ := fun o j => Kept.cell (Kept.alloc (ok := fun _ => True) w5 o) trivial hlt5
  have zf : ∀ o j, (w5.alloc o).frozen? ⟨b, j, none⟩ = false := fun o j => (hr.keep (Kept.alloc (ok := fun _ => True) w5 o) trivial).fz j
  have HX5 := Lib.hid hx5
  have HW4 := Lib.hid HX4.out.lt
  have HW5 := Lib.hid o5.size
  have HR5 := Lib.hid hr
  have HE5 := Lib.hid he
  clear hx5 o5 hr he
  go_wp2_with fail
  refine bodyPost_ret (res_expr rfl _ _ w.heap.size _ _ _ _ rfl (unW_bx (b := b) HX5.out hlt)) rfl ?_
  exact ⟨unW_only HO5.out, 10, 0, [], _, 1, 1, rfl, HE5.out, _, _, _, unW_rdg HR5.out hlt⟩
theorem runary_deep_45 (b g cap : Nat) (ts : List TA) (s : St) (w : World) (h : Rdg w b g cap ts.length s.at_ s.n s.open_ 0 0) (ht : TsAt w g ts) (hs : s.at_ < ts.length) (hn : ts.length ≤ 8001)
    (hu0 : isS ts s.at_ [33] = false) (hu : isS ts s.at_ [45] = true) (ho : s.open_ = 20) :
    Calls Tryz.prog 138 #[.pointer (some ⟨b, 0, none⟩)] w fun e w' => ResA b g cap ts w (.bad 26 s.at_) e w' := by
  have H := Lib.hid h
  have hlt := h.lt
  have H33 := Lib.hid (fun (w1 : World) (b1 : Below w.heap.size w w1) => show Calls Tryz.prog 171 #[.pointer (some ⟨b, 0, none⟩), .string ⟨#[33]⟩] w1 fun e w' => e = .returned (.bool (isS ts s.at_ [33])) ∧ Below w1.heap.size w1 w' from ris_any b g cap s.at_ s.n s.open_ 0 0 ts ⟨#[33]⟩ w1 (h.below b1) (ht.below b1) hs hn)
  rw [hu0] at H33
  have H45 := Lib.hid (fun (w1 : World) (b1 : Below w.heap.size w w1) => show Calls Tryz.prog 171 #[.pointer (some ⟨b, 0, none⟩), .string ⟨#[45]⟩] w1 fun e w' => e = .returned (.bool (isS ts s.at_ [45])) ∧ Below w1.heap.size w1 w' from ris_any b g cap s.at_ s.n s.open_ 0 0 ts ⟨#[45]⟩ w1 (h.below b1) (ht.below b1) hs hn)
  rw [hu] at H45
  have HOP := Lib.hid (fun (w1 : World) (k : Rdg w1 b g cap ts.length s.at_ s.n s.open_ 0 0) => ropens_no b g cap ts.length s.at_ s.n 0 w1 (by rw [ho] at k; exact k))
  have HND := Lib.hid (fun (w1 : World) (o : Int) (k : Rdg w1 b g cap ts.length s.at_ s.n o 26 s.at_) => rnode_bad b g cap ts.length s.at_ s.n o 26 s.at_ (by decide) w1 k)
  have hai : (s.at_ : Int) ≤ 8001 := by omega
  have HB0 := Lib.hid ((Below.refl w.heap.size w).alloc (Nat.le_refl _) (.cells #[.int .i64 0, .int .i64 0, .string ⟨#[]⟩, .slice none 0 0] 24))
  have HX0 := Lib.hid (Bx.new w (.int .i64 0) (.int .i64 0) (.string ⟨#[]⟩) (.slice none 0 0))
  clear h ht hs hn hu hu0 ho
  go_enter Tryz.func138, Tryz.ntmps138
  go_wp2_with fail
  refine (H33.out _ HB0.out).mono ?_
  rintro e v1 ⟨rfl, b1⟩
  have HB1 := Lib.hid (HB0.out.trans (b1.mono (by simp)))
  have HX1 := Lib.hid (HX0.out.keep (Kept.of_below (ok := fun _ => True) b1) trivial)
  clear b1
  go_wp2_with fail
  refine (H45.out _ HB1.out).mono ?_
  rintro e v2 ⟨rfl, b1⟩
  have HB2 := Lib.hid (HB1.out.trans (b1.mono HB1.out.size))
  have HX2 := Lib.hid (HX1.out.keep (Kept.of_below (ok := fun _ => True) b1) trivial)
  clear b1
  go_wp2_with fail
  refine (HOP.out _ (H.out.below HB2.out)).mono ?_
  rintro e w2 ⟨rfl, ⟨oo, r2⟩, o2⟩
  have HR2 := Lib.hid r2
  have HO2 := Lib.hid ((Only.of_below HB2.out).trans o2)
  have HXA := Lib.hid (HX2.out.keep o2.kept (show w.heap.size ≠ b by omega))
  clear r2 o2
  go_wp2_with fail
  refine (HND.out _ _ HR2.out).mono ?_
  rintro e w3 ⟨rfl, ⟨nn, r3⟩, o3⟩
  have HO3 := Lib.hid (HO2.out.trans o3)
  have hx3 := HXA.out.keep o3.kept (show w.heap.size ≠ b by omega)
  have hne : ¬ b = w.heap.size := by omega
  have hne2 : ¬ w.heap.size = b := by omega
  have a1 := r3.c1
  have a4 := r3.c4
  have az := r3.fz
  have f5 := hx3.fz
  have p0 := hx3.c0
  have p1 := hx3.c1
  have p2 := hx3.c2
  have p3 := hx3.c3
  have HX3 := Lib.hid ((hx3.keep (Kept.set (ok := (· ≠ b)) w3 b 1 (.int .i64 ((s.at_ : Int) + 1)) (by simp)) (show w.heap.size ≠ b by omega)).put (.int .i64 0) (.int .i64 0) (.string ⟨#[]⟩) (.slice none 0 0))
  have HR3 := Lib.hid ((r3.set1 ((s.at_ : Int) + 1)).keep (Kept.put (ok := (· ≠ w.heap.size)) _ w.heap.size (.int .i64 0) (.int .i64 0) (.string ⟨#[]⟩) (.slice none 0 0) (by simp)) (show b ≠ w.heap.size by omega))
  have HO4 := Lib.hid ((HO3.out.set' 1 (.int .i64 ((s.at_ : Int) + 1))).put w.heap.size (Nat.le_refl _) (.int .i64 0) (.int .i64 0) (.string ⟨#[]⟩) (.slice none 0 0))
  clear r3 o3 hx3
  go_wp2_with fail
  refine bodyPost_ret (res_expr rfl _ _ w.heap.size _ _ _ _ rfl HX3.out) rfl ?_
  exact ⟨HO4.out, 0, 0, [], none, 0, 0, rfl, by decide, _, _, _, HR3.out⟩
theorem runary_many_45 (b g cap : Nat) (ts : List TA) (s : St) (w : World) (h : Rdg w b g cap ts.length s.at_ s.n s.open_ 0 0) (ht : TsAt w g ts) (hs : s.at_ < ts.length) (hn : ts.length ≤ 8001)
    (hu0 : isS ts s.at_ [33] = false) (hu : isS ts s.at_ [45] = true) (ho : s.open_ < 20) (hN : s.n = 200) :
    Calls Tryz.prog 138 #[.pointer (some ⟨b, 0, none⟩)] w fun e w' => ResA b g cap ts w (.bad 27 s.at_) e w' := by
  have H := Lib.hid h
  have hlt := h.lt
  have H33 := Lib.hid (fun (w1 : World) (b1 : Below w.heap.size w w1) => show Calls Tryz.prog 171 #[.pointer (some ⟨b, 0, none⟩), .string ⟨#[33]⟩] w1 fun e w' => e = .returned (.bool (isS ts s.at_ [33])) ∧ Below w1.heap.size w1 w' from ris_any b g cap s.at_ s.n s.open_ 0 0 ts ⟨#[33]⟩ w1 (h.below b1) (ht.below b1) hs hn)
  rw [hu0] at H33
  have H45 := Lib.hid (fun (w1 : World) (b1 : Below w.heap.size w w1) => show Calls Tryz.prog 171 #[.pointer (some ⟨b, 0, none⟩), .string ⟨#[45]⟩] w1 fun e w' => e = .returned (.bool (isS ts s.at_ [45])) ∧ Below w1.heap.size w1 w' from ris_any b g cap s.at_ s.n s.open_ 0 0 ts ⟨#[45]⟩ w1 (h.below b1) (ht.below b1) hs hn)
  rw [hu] at H45
  have HOP := Lib.hid (fun (w1 : World) (k : Rdg w1 b g cap ts.length s.at_ s.n s.open_ 0 0) => ropens_ok b g cap ts.length s.at_ s.n 0 s.open_ w1 k ho)
  have HND := Lib.hid (fun (w1 : World) (k : Rdg w1 b g cap ts.length s.at_ s.n (s.open_ + 1 : Nat) 0 0) => rnode_no b g cap ts.length s.at_ (s.open_ + 1 : Nat) 0 w1 (by rw [hN] at k; exact k))
  have hai : (s.at_ : Int) ≤ 8001 := by omega
  have HB0 := Lib.hid ((Below.refl w.heap.size w).alloc (Nat.le_refl _) (.cells #[.int .i64 0, .int .i64 0, .string ⟨#[]⟩, .slice none 0 0] 24))
  have HX0 := Lib.hid (Bx.new w (.int .i64 0) (.int .i64 0) (.string ⟨#[]⟩) (.slice none 0 0))
  clear h ht hs hn hu hu0 ho hN
  go_enter Tryz.func138, Tryz.ntmps138
  go_wp2_with fail
  refine (H33.out _ HB0.out).mono ?_
  rintro e v1 ⟨rfl, b1⟩
  have HB1 := Lib.hid (HB0.out.trans (b1.mono (by simp)))
  have HX1 := Lib.hid (HX0.out.keep (Kept.of_below (ok := fun _ => True) b1) trivial)
  clear b1
  go_wp2_with fail
  refine (H45.out _ HB1.out).mono ?_
  rintro e v2 ⟨rfl, b1⟩
  have HB2 := Lib.hid (HB1.out.trans (b1.mono HB1.out.size))
  have HX2 := Lib.hid (HX1.out.keep (Kept.of_below (ok := fun _ => True) b1) trivial)
  clear b1
  go_wp2_with fail
  refine (HOP.out _ (H.out.below HB2.out)).mono ?_
  rintro e w2 ⟨rfl, r2, o2⟩
  have HR2 := Lib.hid r2
  have HO2 := Lib.hid ((Only.of_below HB2.out).trans o2)
  have HXA := Lib.hid (HX2.out.keep o2.kept (show w.heap.size ≠ b by omega))
  clear r2 o2
  go_wp2_with fail
  refine (HND.out _ HR2.out).mono ?_
  rintro e w3 ⟨rfl, ⟨nn, r3⟩, o3⟩
  have HO3 := Lib.hid (HO2.out.trans o3)
  have hx3 := HXA.out.keep o3.kept (show w.heap.size ≠ b by omega)
  have hne : ¬ b = w.heap.size := by omega
  have hne2 : ¬ w.heap.size = b := by omega
  have a1 := r3.c1
  have a4 := r3.c4
  have az := r3.fz
  have f5 := hx3.fz
  have p0 := hx3.c0
  have p1 := hx3.c1
  have p2 := hx3.c2
  have p3 := hx3.c3
  have HX3 := Lib.hid ((hx3.keep (Kept.set (ok := (· ≠ b)) w3 b 1 (.int .i64 ((s.at_ : Int) + 1)) (by simp)) (show w.heap.size ≠ b by omega)).put (.int .i64 0) (.int .i64 0) (.string ⟨#[]⟩) (.slice none 0 0))
  have HR3 := Lib.hid ((r3.set1 ((s.at_ : Int) + 1)).keep (Kept.put (ok := (· ≠ w.heap.size)) _ w.heap.size (.int .i64 0) (.int .i64 0) (.string ⟨#[]⟩) (.slice none 0 0) (by simp)) (show b ≠ w.heap.size by omega))
  have HO4 := Lib.hid ((HO3.out.set' 1 (.int .i64 ((s.at_ : Int) + 1))).put w.heap.size (Nat.le_refl _) (.int .i64 0) (.int .i64 0) (.string ⟨#[]⟩) (.slice none 0 0))
  clear r3 o3 hx3
  go_wp2_with fail
  refine bodyPost_ret (res_expr rfl _ _ w.heap.size _ _ _ _ rfl HX3.out) rfl ?_
  exact ⟨HO4.out, 0, 0, [], none, 0, 0, rfl, by decide, _, _, _, HR3.out⟩
theorem runary_ok_45 (b g cap : Nat) (ts : List TA) (s : St) (x : T) (s2 : St) (w : World) (h : Rdg w b g cap ts.length s.at_ s.n s.open_ 0 0) (ht : TsAt w g ts) (hg : g ≠ b) (hs : s.at_ < ts.length) (hn : ts.length ≤ 8001)
    (hu0 : isS ts s.at_ [33] = false) (hu : isS ts s.at_ [45] = true) (ho : s.open_ < 20) (hN : s.n < 200) (hs2 : s2.open_ = s.open_ + 1)
    (HP : ∀ w1, Rdg w1 b g cap ts.length (s.at_ + 1 : Nat) (s.n + 1 : Nat) (s.open_ + 1 : Nat) 0 0 → TsAt w1 g ts → Calls Tryz.prog 138 #[.pointer (some ⟨b, 0, none⟩)] w1 fun e w' => ResA b g cap ts w1 (.ok x s2) e w') :
    Calls Tryz.prog 138 #[.pointer (some ⟨b, 0, none⟩)] w fun e w' => ResA b g cap ts w (.ok ⟨11, 0, [], x.row⟩ ⟨s2.at_, s2.n, s2.open_ - 1⟩) e w' := by
  have H := Lib.hid h
  have HT := Lib.hid ht
  have hlt := h.lt
  have H33 := Lib.hid (fun (w1 : World) (b1 : Below w.heap.size w w1) => show Calls Tryz.prog 171 #[.pointer (some ⟨b, 0, none⟩), .string ⟨#[33]⟩] w1 fun e w' => e = .returned (.bool (isS ts s.at_ [33])) ∧ Below w1.heap.size w1 w' from ris_any b g cap s.at_ s.n s.open_ 0 0 ts ⟨#[33]⟩ w1 (h.below b1) (ht.below b1) hs hn)
  rw [hu0] at H33
  have H45 := Lib.hid (fun (w1 : World) (b1 : Below w.heap.size w w1) => show Calls Tryz.prog 171 #[.pointer (some ⟨b, 0, none⟩), .string ⟨#[45]⟩] w1 fun e w' => e = .returned (.bool (isS ts s.at_ [45])) ∧ Below w1.heap.size w1 w' from ris_any b g cap s.at_ s.n s.open_ 0 0 ts ⟨#[45]⟩ w1 (h.below b1) (ht.below b1) hs hn)
  rw [hu] at H45
  have HOP := Lib.hid (fun (w1 : World) (k : Rdg w1 b g cap ts.length s.at_ s.n s.open_ 0 0) => ropens_ok b g cap ts.length s.at_ s.n 0 s.open_ w1 k ho)
  have HND := Lib.hid (fun (w1 : World) (k : Rdg w1 b g cap ts.length s.at_ s.n (s.open_ + 1 : Nat) 0 0) => rnode_ok b g cap ts.length s.at_ (s.open_ + 1 : Nat) 0 s.n w1 k hN)
  have HP1 := Lib.hid HP
  have hg1 := Lib.hid hg
  have HA := Lib.hid (show (s.at_ : Int) + 1 = ((s.at_ + 1 : Nat) : Int) by omega)
  have hoi : (s2.open_ : Int) ≤ 20 := by omega
  have hoj : (1 : Int) ≤ (s2.open_ : Int) := by omega
  have HM := Lib.hid (show (s2.open_ : Int) - 1 = ((s2.open_ - 1 : Nat) : Int) by omega)
  have hai : (s.at_ : Int) ≤ 8001 := by omega
  have HB0 := Lib.hid ((Below.refl w.heap.size w).alloc (Nat.le_refl _) (.cells #[.int .i64 0, .int .i64 0, .string ⟨#[]⟩, .slice none 0 0] 24))
  have HX0 := Lib.hid (Bx.new w (.int .i64 0) (.int .i64 0) (.string ⟨#[]⟩) (.slice none 0 0))
  clear h ht hs hn hu hu0 HP hg ho hN hs2
  go_enter Tryz.func138, Tryz.ntmps138
  go_wp2_with fail
  refine (H33.out _ HB0.out).mono ?_
  rintro e v1 ⟨rfl, b1⟩
  have HB1 := Lib.hid (HB0.out.trans (b1.mono (by simp)))
  have HX1 := Lib.hid (HX0.out.keep (Kept.of_below (ok := fun _ => True) b1) trivial)
  clear b1
  go_wp2_with fail
  refine (H45.out _ HB1.out).mono ?_
  rintro e v2 ⟨rfl, b1⟩
  have HB2 := Lib.hid (HB1.out.trans (b1.mono HB1.out.size))
  have HX2 := Lib.hid (HX1.out.keep (Kept.of_below (ok := fun _ => True) b1) trivial)
  clear b1
  go_wp2_with fail
  refine (HOP.out _ (H.out.below HB2.out)).mono ?_
  rintro e w2 ⟨rfl, r2, o2⟩
  have HR2 := Lib.hid r2
  have HO2 := Lib.hid ((Only.of_below HB2.out).trans o2)
  have HXA := Lib.hid (HX2.out.keep o2.kept (show w.heap.size ≠ b by omega))
  clear r2 o2
  go_wp2_with fail
  refine (HND.out _ HR2.out).mono ?_
  rintro e w3 ⟨rfl, r3, o3⟩
  have HO3 := Lib.hid (HO2.out.trans o3)
  have HXC := Lib.hid (HXA.out.keep o3.kept (show w.heap.size ≠ b by omega))
  have a1 := r3.c1
  have a4 := r3.c4
  have az := r3.fz
  have HR3 := Lib.hid (r3.set1 ((s.at_ + 1 : Nat) : Int))
  have HO4 := Lib.hid (HO3.out.set' 1 (.int .i64 ((s.at_ + 1 : Nat) : Int)))
  have HX4 := Lib.hid (HXC.out.keep (Only.set b w3 1 (.int .i64 ((s.at_ + 1 : Nat) : Int))).kept (show w.heap.size ≠ b by omega))
  clear r3 o3
  go_wp2_with fail
  rw [HA.out]
  refine (HP1.out _ HR3.out (HO4.out.ts HT.out hg1.out)).mono ?_
  rintro e w5 ⟨o5, o, n, t, q, k, c, rfl, hp⟩
  obtain ⟨e1, e2, e3, e4, hf, hr⟩ := hp
  subst e1 e2 e3 e4
  have hx5 := HX4.out.keep o5.kept (show w.heap.size ≠ b by omega)
  have HO5 := Lib.hid (HO4.out.trans o5)
  have hne : ¬ b = w.heap.size := by omega
  have hne2 : ¬ w.heap.size = b := by omega
  have hlt5 := hx5.lt
  have hb5 := hr.lt
  have f5 := hx5.fz
  have p0 := hx5.c0
  have p1 := hx5.c1
  have p2 := hx5.c2
  have p3 := hx5.c3
  have d3 := hr.c3
  have dz := hr.fz
  have zb : ∀ o j, (w5.alloc o).cell? ⟨b, j, none⟩ = w5.cell? ⟨b, j, none⟩ := fun o j => Kept.cell (Kept.alloc (ok := fun _ => True) w5 o) trivial hb5
  have zh : ∀ o j, (w5.alloc o).cell? ⟨w.heap.size, j, none⟩ = w5.cell? ⟨w.heap.size, j, none⟩ := fun o j => Kept.cell (Kept.alloc (ok := fun _ => True) w5 o) trivial hlt5
  have zf : ∀ o j, (w5.alloc o).frozen? ⟨b, j, none⟩ = false := fun o j => (hr.keep (Kept.alloc (ok := fun _ => True) w5 o) trivial).fz j
  have HX5 := Lib.hid hx5
  have HW4 := Lib.hid HX4.out.lt
  have HW5 := Lib.hid o5.size
  have HF5 := Lib.hid hf
  have HR5 := Lib.hid hr
  clear hx5 o5 hf hr
  go_wp2_with fail
  rw [HM.out]
  refine bodyPost_ret (res_expr rfl _ _ w.heap.size _ _ _ _ rfl (unW_bx (b := b) HX5.out hlt)) rfl ?_
  exact ⟨unW_only HO5.out, 11, 0, [], _, 1, 1, rfl, unW_post hlt HW4.out HW5.out HF5.out HR5.out⟩
theorem runary_bad_45 (b g cap : Nat) (ts : List TA) (s : St) (er a : Nat) (w : World) (h : Rdg w b g cap ts.length s.at_ s.n s.open_ 0 0) (ht : TsAt w g ts) (hg : g ≠ b) (hs : s.at_ < ts.length) (hn : ts.length ≤ 8001)
    (hu0 : isS ts s.at_ [33] = false) (hu : isS ts s.at_ [45] = true) (ho : s.open_ < 20) (hN : s.n < 200)
    (HP : ∀ w1, Rdg w1 b g cap ts.length (s.at_ + 1 : Nat) (s.n + 1 : Nat) (s.open_ + 1 : Nat) 0 0 → TsAt w1 g ts → Calls Tryz.prog 138 #[.pointer (some ⟨b, 0, none⟩)] w1 fun e w' => ResA b g cap ts w1 (.bad er a) e w') :
    Calls Tryz.prog 138 #[.pointer (some ⟨b, 0, none⟩)] w fun e w' => ResA b g cap ts w (.bad er a) e w' := by
  have H := Lib.hid h
  have HT := Lib.hid ht
  have hlt := h.lt
  have H33 := Lib.hid (fun (w1 : World) (b1 : Below w.heap.size w w1) => show Calls Tryz.prog 171 #[.pointer (some ⟨b, 0, none⟩), .string ⟨#[33]⟩] w1 fun e w' => e = .returned (.bool (isS ts s.at_ [33])) ∧ Below w1.heap.size w1 w' from ris_any b g cap s.at_ s.n s.open_ 0 0 ts ⟨#[33]⟩ w1 (h.below b1) (ht.below b1) hs hn)
  rw [hu0] at H33
  have H45 := Lib.hid (fun (w1 : World) (b1 : Below w.heap.size w w1) => show Calls Tryz.prog 171 #[.pointer (some ⟨b, 0, none⟩), .string ⟨#[45]⟩] w1 fun e w' => e = .returned (.bool (isS ts s.at_ [45])) ∧ Below w1.heap.size w1 w' from ris_any b g cap s.at_ s.n s.open_ 0 0 ts ⟨#[45]⟩ w1 (h.below b1) (ht.below b1) hs hn)
  rw [hu] at H45
  have HOP := Lib.hid (fun (w1 : World) (k : Rdg w1 b g cap ts.length s.at_ s.n s.open_ 0 0) => ropens_ok b g cap ts.length s.at_ s.n 0 s.open_ w1 k ho)
  have HND := Lib.hid (fun (w1 : World) (k : Rdg w1 b g cap ts.length s.at_ s.n (s.open_ + 1 : Nat) 0 0) => rnode_ok b g cap ts.length s.at_ (s.open_ + 1 : Nat) 0 s.n w1 k hN)
  have HP1 := Lib.hid HP
  have hg1 := Lib.hid hg
  have HA := Lib.hid (show (s.at_ : Int) + 1 = ((s.at_ + 1 : Nat) : Int) by omega)
  have hai : (s.at_ : Int) ≤ 8001 := by omega
  have HB0 := Lib.hid ((Below.refl w.heap.size w).alloc (Nat.le_refl _) (.cells #[.int .i64 0, .int .i64 0, .string ⟨#[]⟩, .slice none 0 0] 24))
  have HX0 := Lib.hid (Bx.new w (.int .i64 0) (.int .i64 0) (.string ⟨#[]⟩) (.slice none 0 0))
  clear h ht hs hn hu hu0 HP hg ho hN
  go_enter Tryz.func138, Tryz.ntmps138
  go_wp2_with fail
  refine (H33.out _ HB0.out).mono ?_
  rintro e v1 ⟨rfl, b1⟩
  have HB1 := Lib.hid (HB0.out.trans (b1.mono (by simp)))
  have HX1 := Lib.hid (HX0.out.keep (Kept.of_below (ok := fun _ => True) b1) trivial)
  clear b1
  go_wp2_with fail
  refine (H45.out _ HB1.out).mono ?_
  rintro e v2 ⟨rfl, b1⟩
  have HB2 := Lib.hid (HB1.out.trans (b1.mono HB1.out.size))
  have HX2 := Lib.hid (HX1.out.keep (Kept.of_below (ok := fun _ => True) b1) trivial)
  clear b1
  go_wp2_with fail
  refine (HOP.out _ (H.out.below HB2.out)).mono ?_
  rintro e w2 ⟨rfl, r2, o2⟩
  have HR2 := Lib.hid r2
  have HO2 := Lib.hid ((Only.of_below HB2.out).trans o2)
  have HXA := Lib.hid (HX2.out.keep o2.kept (show w.heap.size ≠ b by omega))
  clear r2 o2
  go_wp2_with fail
  refine (HND.out _ HR2.out).mono ?_
  rintro e w3 ⟨rfl, r3, o3⟩
  have HO3 := Lib.hid (HO2.out.trans o3)
  have HXC := Lib.hid (HXA.out.keep o3.kept (show w.heap.size ≠ b by omega))
  have a1 := r3.c1
  have a4 := r3.c4
  have az := r3.fz
  have HR3 := Lib.hid (r3.set1 ((s.at_ + 1 : Nat) : Int))
  have HO4 := Lib.hid (HO3.out.set' 1 (.int .i64 ((s.at_ + 1 : Nat) : Int)))
  have HX4 := Lib.hid (HXC.out.keep (Only.set b w3 1 (.int .i64 ((s.at_ + 1 : Nat) : Int))).kept (show w.heap.size ≠ b by omega))
  clear r3 o3
  go_wp2_with fail
  rw [HA.out]
  refine (HP1.out _ HR3.out (HO4.out.ts HT.out hg1.out)).mono ?_
  rintro e w5 ⟨o5, o, n, t, q, k, c, rfl, hp⟩
  obtain ⟨he, a', n', o', hr⟩ := hp
  have hx5 := HX4.out.keep o5.kept (show w.heap.size ≠ b by omega)
  have HO5 := Lib.hid (HO4.out.trans o5)
  have hne : ¬ b = w.heap.size := by omega
  have hne2 : ¬ w.heap.size = b := by omega
  have hlt5 := hx5.lt
  have hb5 := hr.lt
  have f5 := hx5.fz
  have p0 := hx5.c0
  have p1 := hx5.c1
  have p2 := hx5.c2
  have p3 := hx5.c3
  have d3 := hr.c3
  have dz := hr.fz
  have zb : ∀ o j, (w5.alloc o).cell? ⟨b, j, none⟩ = w5.cell? ⟨b, j, none⟩ := fun o j => Kept.cell (Kept.alloc (ok := fun _ => True) w5 o) trivial hb5
  have zh : ∀ o j, (w5.alloc o).cell? ⟨w.heap.size, j, none⟩ = w5.cell? ⟨w.heap.size, j, none⟩ := fun o j => Kept.cell (Kept.alloc (ok := fun _ => True) w5 o) trivial hlt5
  have zf : ∀ o j, (w5.alloc o).frozen? ⟨b, j, none⟩ = false := fun o j => (hr.keep (Kept.alloc (ok := fun _ => True) w5 o) trivial).fz j
  have HX5 := Lib.hid hx5
  have HW4 := Lib.hid HX4.out.lt
  have HW5 := Lib.hid o5.size
  have HR5 := Lib.hid hr
  have HE5 := Lib.hid he
  clear hx5 o5 hr he
  go_wp2_with fail
  refine bodyPost_ret (res_expr rfl _ _ w.heap.size _ _ _ _ rfl (unW_bx (b := b) HX5.out hlt)) rfl ?_
  exact ⟨unW_only HO5.out, 11, 0, [], _, 1, 1, rfl, HE5.out, _, _, _, unW_rdg HR5.out hlt⟩
theorem runary_any (b g cap : Nat) (ts : List TA) (he : Ends ts) (f : Nat) (s : St) (w : World) (h : Rdg w b g cap ts.length s.at_ s.n s.open_ 0 0) (ht : TsAt w g ts) (hg : g ≠ b) (hs : StOk ts s) (hn : ts.length ≤ 8001)
    (HPR : ∀ w1, Rdg w1 b g cap ts.length s.at_ s.n s.open_ 0 0 → TsAt w1 g ts → Calls Tryz.prog 172 #[.pointer (some ⟨b, 0, none⟩)] w1 fun e w' => ResA b g cap ts w1 (primR (lv ts f 0) ts s) e w')
    (HU : ∀ s1 : St, StOk ts s1 → s1.open_ = s.open_ + 1 → ∀ w1, Rdg w1 b g cap ts.length s1.at_ s1.n s1.open_ 0 0 → TsAt w1 g ts → Calls Tryz.prog 138 #[.pointer (some ⟨b, 0, none⟩)] w1 fun e w' => ResA b g cap ts w1 (lv ts f 5 s1) e w') :
    Calls Tryz.prog 138 #[.pointer (some ⟨b, 0, none⟩)] w fun e w' => ResA b g cap ts w (lv ts (f + 1) 5 s) e w' := by
  have hN := hs.n
  have hO := hs.op
  unfold lv
  rw [if_pos rfl]
  cases hu : unAt (tk ts s.at_) with
  | none => exact runary_none b g cap ts s _ w h ht hg hs.at_ hn hu HPR
  | some op =>
    have hnx := he.next hs.at_ (by rw [unAt_kind hu]; decide)
    unfold enterR
    simp only
    by_cases h20 : s.open_ = 20
    · rw [if_pos h20]
      rcases unAt_some hu with ⟨h1, rfl⟩ | ⟨h0, h1, rfl⟩
      · exact runary_deep_33 b g cap ts s w h ht hs.at_ hn h1 h20
      · exact runary_deep_45 b g cap ts s w h ht hs.at_ hn h0 h1 h20
    · rw [if_neg h20]
      by_cases h200 : s.n = 200
      · rw [if_pos h200]
        rcases unAt_some hu with ⟨h1, rfl⟩ | ⟨h0, h1, rfl⟩
        · exact runary_many_33 b g cap ts s w h ht hs.at_ hn h1 (by omega) h200
        · exact runary_many_45 b g cap ts s w h ht hs.at_ hn h0 h1 (by omega) h200
      · rw [if_neg h200]
        have hs1 : StOk ts ⟨s.at_ + 1, s.n + 1, s.open_ + 1⟩ := ⟨hnx, by simp; omega, by simp; omega⟩
        have HU1 := HU _ hs1 rfl
        cases hr : lv ts f 5 ⟨s.at_ + 1, s.n + 1, s.open_ + 1⟩ with
        | ok x s2 =>
          have ho2 := (lv_st he f 5 _ _ _ hs1 hr).op
          rw [hr] at HU1
          rcases unAt_some hu with ⟨h1, rfl⟩ | ⟨h0, h1, rfl⟩
          · exact runary_ok_33 b g cap ts s x s2 w h ht hg hs.at_ hn h1 (by omega) (by omega) ho2 HU1
          · exact runary_ok_45 b g cap ts s x s2 w h ht hg hs.at_ hn h0 h1 (by omega) (by omega) ho2 HU1
        | bad er a =>
          rw [hr] at HU1
          rcases unAt_some hu with ⟨h1, rfl⟩ | ⟨h0, h1, rfl⟩
          · exact runary_bad_33 b g cap ts s er a w h ht hg hs.at_ hn h1 (by omega) (by omega) HU1
          · exact runary_bad_45 b g cap ts s er a w h ht hg hs.at_ hn h0 h1 (by omega) (by omega) HU1
end Go.Proofs.YtlmmfhbdebfgkaaGreatDoor.Ex
