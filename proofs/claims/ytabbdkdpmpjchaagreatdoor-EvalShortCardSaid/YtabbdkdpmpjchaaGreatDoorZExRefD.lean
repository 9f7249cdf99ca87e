/- ExRefD -/
import Derived.Test.YtabbdkdpmpjchaaGreatDoorZExRefC
namespace Go.Proofs.YtabbdkdpmpjchaaGreatDoor.Ex
open Go.RowKit
open Lx
theorem clR_done (rec : St → R) (ts : List TA) (op : Int) (n : Nat) (xs : List X) (s : St) (hn : 1 ≤ n) (h : n = xs.length) : clR rec ts op n xs s = leaveR ts [41] ⟨op, 0, [], rowF xs⟩ s := by
  unfold clR
  have hne : xs ≠ [] := by intro e; subst e; simp at h; omega
  rw [if_neg hne, h, Nat.sub_self]
  rfl
theorem end_post {b g cap : Nat} {ts : List TA} {w V : World} {FIN : R} {op : Int} {q : Option Addr} {k : Nat} {xs : List X} {s : St} {sign : List UInt8} {a2 n2 bad2 f2 : Int}
    (hfin : leaveR ts sign ⟨op, 0, [], rowF xs⟩ s = FIN) (hk : k = xs.length) (hf : FAt V (w.heap.size ≤ ·) (rowF xs) q) (hr : Rdg V b g cap ts.length a2 n2 ((s.open_ : Int) - 1) bad2 f2) (hn2 : n2 = s.n) (ho : 1 ≤ s.open_)
    (hc : (isS ts s.at_ sign = true ∧ a2 = ((s.at_ + 1 : Nat) : Int) ∧ bad2 = 0 ∧ f2 = 0) ∨ (isS ts s.at_ sign = false ∧ bad2 = 25 ∧ f2 = (s.at_ : Int))) : Post b g cap ts w.heap.size FIN op 0 [] q k V := by
  unfold leaveR at hfin
  rcases hc with ⟨h1, rfl, rfl, rfl⟩ | ⟨h1, rfl, rfl⟩
  · rw [if_pos h1] at hfin
    subst hfin hn2
    refine ⟨rfl, rfl, rfl, by show (rowF xs).len = k; rw [rowF_len, hk], hf, ?_⟩
    have e : (((s.open_ - 1 : Nat)) : Int) = (s.open_ : Int) - 1 := by omega
    show Rdg V b g cap ts.length ((s.at_ + 1 : Nat) : Int) (s.n : Int) ((s.open_ - 1 : Nat) : Int) 0 0
    rw [e]
    exact hr
  · rw [if_neg (by rw [h1]; decide)] at hfin
    subst hfin
    exact ⟨by decide, _, _, _, hr⟩
set_option linter.unusedVariables false
set_option maxRecDepth 100000 in
set_option maxHeartbeats 4000000 in
theorem rcall_no (b g cap : Nat) (ts : List TA) (op : Int) (n : Nat) (s : St) (w : World) (h : Rdg w b g cap ts.length s.at_ s.n s.open_ 0 0) (ht : TsAt w g ts) (hg : g ≠ b) (hs : s.at_ + 1 < ts.length) (hn : ts.length ≤ 8001) (hu : isS ts (s.at_ + 1) [40] = false) :
    Calls Tryz.prog 212 #[.pointer (some ⟨b, 0, none⟩), .int .i64 op, .int .i64 n] w fun e w' => ResA b g cap ts w (.bad 25 (s.at_ + 1)) e w' := by
  have H := Lib.hid h
  have hlt := h.lt
  have hne : ¬ b = w.heap.size := by omega
  have hne2 : ¬ w.heap.size = b := by omega
  have c1 := h.c1
  have fz := h.fz
  have zb : ∀ o j, (w.alloc o).cell? ⟨b, j, none⟩ = w.cell? ⟨b, j, none⟩ := fun o j => Kept.cell (Kept.alloc (ok := fun _ => True) w o) trivial hlt
  have zf : ∀ o j, (w.alloc o).frozen? ⟨b, j, none⟩ = false := fun o j => (h.keep (Kept.alloc (ok := fun _ => True) w o) trivial).fz j
  have hai : (s.at_ : Int) ≤ 8001 := by omega
  have HA := Lib.hid (show (s.at_ : Int) + 1 = ((s.at_ + 1 : Nat) : Int) by omega)
  have HB1 := Lib.hid (((h.set1 ((s.at_ + 1 : Nat) : Int)).keep (Kept.alloc (ok := fun _ => True) _ (.cells #[.int .i64 0, .int .i64 0, .string ⟨#[]⟩, .slice none 0 0] 24)) trivial).keep (Kept.alloc (ok := fun _ => True) _ (.cells #[.int .i64 op, .int .i64 0, .string ⟨#[]⟩, .slice none 0 0] 24)) trivial)
  have HIS := Lib.hid (fun (w1 : World) (k : Rdg w1 b g cap ts.length (s.at_ + 1 : Nat) s.n s.open_ 0 0) (k2 : TsAt w1 g ts) => show Calls Tryz.prog 174 #[.pointer (some ⟨b, 0, none⟩), .string ⟨#[40]⟩] w1 fun e w' => e = .returned (.bool (isS ts (s.at_ + 1) [40])) ∧ Below w1.heap.size w1 w' from ris_any b g cap (s.at_ + 1) s.n s.open_ 0 0 ts ⟨#[40]⟩ w1 k k2 hs hn)
  rw [hu] at HIS
  have HFA := Lib.hid (fun (w1 : World) (k : Rdg w1 b g cap ts.length (s.at_ + 1 : Nat) s.n s.open_ 0 0) => rfail_any b g cap ts.length (s.at_ + 1 : Nat) s.n s.open_ 0 25 w1 k)
  have O1 := ((Only.set b w 1 (.int .i64 ((s.at_ + 1 : Nat) : Int))).alloc (.cells #[.int .i64 0, .int .i64 0, .string ⟨#[]⟩, .slice none 0 0] 24)).alloc (.cells #[.int .i64 op, .int .i64 0, .string ⟨#[]⟩, .slice none 0 0] 24)
  have HT1 := Lib.hid (O1.ts ht hg)
  have HO1 := Lib.hid O1
  have hx := (Bx.new (w.setCell ⟨b, 1, none⟩ (.int .i64 ((s.at_ + 1 : Nat) : Int))) (.int .i64 0) (.int .i64 0) (.string ⟨#[]⟩) (.slice none 0 0)).keep (Kept.alloc (ok := fun _ => True) _ (.cells #[.int .i64 op, .int .i64 0, .string ⟨#[]⟩, .slice none 0 0] 24)) trivial
  rw [set_size] at hx
  have HX1 := Lib.hid hx
  clear h ht hg hs hn hu O1 hx
  go_enter Tryz.func212, Tryz.ntmps212
  go_wp2_with fail
  rw [HA.out]
  refine (HIS.out _ HB1.out HT1.out).mono ?_
  rintro e w2 ⟨rfl, b2⟩
  have HB2 := Lib.hid (HB1.out.below b2)
  have HX2 := Lib.hid (HX1.out.keep (Kept.of_below (ok := fun _ => True) b2) trivial)
  have HO2 := Lib.hid (HO1.out.trans (Only.of_below b2))
  clear b2
  go_wp2_with fail
  refine (HFA.out _ HB2.out).mono ?_
  rintro e w3 ⟨rfl, r3, o3⟩
  have hh := HX2.out.keep o3.kept hne2
  have hO := HO2.out.trans o3
  have HXF := Lib.hid (hh.put (.int .i64 0) (.int .i64 0) (.string ⟨#[]⟩) (.slice none 0 0))
  have HOF := Lib.hid (hO.put w.heap.size (Nat.le_refl _) (.int .i64 0) (.int .i64 0) (.string ⟨#[]⟩) (.slice none 0 0))
  have HRF := Lib.hid (r3.keep (Kept.put (ok := (· ≠ w.heap.size)) _ w.heap.size (.int .i64 0) (.int .i64 0) (.string ⟨#[]⟩) (.slice none 0 0) (by simp)) hne)
  have f5 := hh.fz
  have p0 := hh.c0
  have p1 := hh.c1
  have p2 := hh.c2
  have p3 := hh.c3
  clear hh hO r3 o3
  unfold noX
  go_wp2_with fail
  refine bodyPost_ret (res_expr rfl _ _ w.heap.size _ _ _ _ rfl HXF.out) rfl ?_
  exact ⟨HOF.out, 0, 0, [], none, 0, 0, rfl, by decide, _, _, _, HRF.out⟩
end Go.Proofs.YtabbdkdpmpjchaaGreatDoor.Ex
