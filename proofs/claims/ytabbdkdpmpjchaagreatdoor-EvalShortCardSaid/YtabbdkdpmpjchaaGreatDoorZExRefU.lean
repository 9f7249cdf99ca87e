/- ExRefU -/
import Derived.Test.YtabbdkdpmpjchaaGreatDoorZTzC
namespace Go.Proofs.YtabbdkdpmpjchaaGreatDoor.Ex
open Go.RowKit
open Lx
theorem unAt_is {ts : List TA} {a : Nat} : unAt (tk ts a) = if isS ts a [33] = true then some 10 else if isS ts a [45] = true then some 11 else none := by
  unfold unAt isS
  generalize tk ts a = t
  obtain ⟨k, x, m, q⟩ := t
  by_cases hk : k = 5
  · subst hk; simp
  · simp [hk]
set_option maxRecDepth 100000 in
set_option maxHeartbeats 2000000 in
theorem runary_none (b g cap : Nat) (ts : List TA) (s : St) (r : R) (w : World) (h : Rdg w b g cap ts.length s.at_ s.n s.open_ 0 0) (ht : TsAt w g ts) (hg : g ≠ b) (hs : s.at_ < ts.length) (hn : ts.length ≤ 8001) (hu : unAt (tk ts s.at_) = none)
    (HP : ∀ w1, Rdg w1 b g cap ts.length s.at_ s.n s.open_ 0 0 → TsAt w1 g ts → Calls Tryz.prog 175 #[.pointer (some ⟨b, 0, none⟩)] w1 fun e w' => ResA b g cap ts w1 r e w') :
    Calls Tryz.prog 142 #[.pointer (some ⟨b, 0, none⟩)] w fun e w' => ResA b g cap ts w r e w' := by
  rw [unAt_is] at hu
  have h33 : isS ts s.at_ [33] = false := by
    cases hx : isS ts s.at_ [33] with
    | false => rfl
    | true => rw [hx] at hu; simp at hu
  have h45 : isS ts s.at_ [45] = false := by
    cases hx : isS ts s.at_ [45] with
    | false => rfl
    | true => rw [hx, h33] at hu; simp at hu
  have H := Lib.hid h
  have HT := Lib.hid ht
  have hlt := h.lt
  have H33 := Lib.hid (fun (w1 : World) (b1 : Below w.heap.size w w1) => show Calls Tryz.prog 174 #[.pointer (some ⟨b, 0, none⟩), .string ⟨#[33]⟩] w1 fun e w' => e = .returned (.bool (isS ts s.at_ [33])) ∧ Below w1.heap.size w1 w' from ris_any b g cap s.at_ s.n s.open_ 0 0 ts ⟨#[33]⟩ w1 (h.below b1) (ht.below b1) hs hn)
  have H45 := Lib.hid (fun (w1 : World) (b1 : Below w.heap.size w w1) => show Calls Tryz.prog 174 #[.pointer (some ⟨b, 0, none⟩), .string ⟨#[45]⟩] w1 fun e w' => e = .returned (.bool (isS ts s.at_ [45])) ∧ Below w1.heap.size w1 w' from ris_any b g cap s.at_ s.n s.open_ 0 0 ts ⟨#[45]⟩ w1 (h.below b1) (ht.below b1) hs hn)
  rw [h33] at H33
  rw [h45] at H45
  have HP1 := Lib.hid HP
  have hg1 := Lib.hid hg
  have HB0 := Lib.hid ((Below.refl w.heap.size w).alloc (Nat.le_refl _) (.cells #[.int .i64 0, .int .i64 0, .string ⟨#[]⟩, .slice none 0 0] 24))
  have HX0 := Lib.hid (Bx.new w (.int .i64 0) (.int .i64 0) (.string ⟨#[]⟩) (.slice none 0 0))
  clear h ht hs hn hu HP hg h33 h45
  go_enter Tryz.func142, Tryz.ntmps142
  go_wp2_with fail
  refine (H33.out _ HB0.out).mono ?_
  rintro e w1 ⟨rfl, b1⟩
  have HB1 := Lib.hid (HB0.out.trans (b1.mono (by simp)))
  have HX1 := Lib.hid (HX0.out.keep (Kept.of_below (ok := fun _ => True) b1) trivial)
  clear b1
  go_wp2_with fail
  refine (H45.out _ HB1.out).mono ?_
  rintro e w2 ⟨rfl, b2⟩
  have HB2 := Lib.hid (HB1.out.trans (b2.mono HB1.out.size))
  have HX2 := Lib.hid (HX1.out.keep (Kept.of_below (ok := fun _ => True) b2) trivial)
  clear b2
  go_wp2_with fail
  refine (HP1.out _ (H.out.below HB2.out) (HT.out.below HB2.out)).mono ?_
  rintro e w3 ⟨o3, o, n, t, q, k, c, rfl, hp⟩
  have hx3 := HX2.out.keep o3.kept (show w.heap.size ≠ b by omega)
  have f3 := hx3.fz
  have p0 := hx3.c0
  have p1 := hx3.c1
  have p2 := hx3.c2
  have p3 := hx3.c3
  have HX3 := Lib.hid (hx3.put (.int .i64 o) (.int .i64 n) (.string (S t)) (.slice q k c))
  have hH2 := HX2.out.lt
  have HP3 := Lib.hid ((hp.keep (Kept.put w3 w.heap.size (.int .i64 o) (.int .i64 n) (.string (S t)) (.slice q k c) (by omega))).low HB2.out.size)
  have HO3 := Lib.hid (((Only.of_below HB2.out).trans o3).put w.heap.size (Nat.le_refl _) (.int .i64 o) (.int .i64 n) (.string (S t)) (.slice q k c))
  clear hx3 o3 hp hH2
  go_wp2_with fail
  refine bodyPost_ret (res_expr rfl _ _ w.heap.size _ _ _ _ rfl HX3.out) rfl ?_
  exact ⟨HO3.out, o, n, t, q, k, c, rfl, HP3.out⟩
end Go.Proofs.YtabbdkdpmpjchaaGreatDoor.Ex
