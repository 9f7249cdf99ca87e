/-
  ExRefE.
-/
import Derived.Test.YtlmmfhbdebfgkaaGreatDoorVExRefCQ
set_option linter.unusedVariables false
set_option linter.unusedSimpArgs false
set_option maxRecDepth 100000
set_option maxHeartbeats 8000000
namespace Go.Proofs.YtlmmfhbdebfgkaaGreatDoor.Ex
open Go.RowKit
open Lx
theorem XR.fat {w : World} {B : Nat} {q : Option Addr} {k c : Nat} {xs : List X} (h : XR w B (.slice q k c) xs) : FAt w (B ≤ ·) (rowF xs) q := by
  obtain ⟨p, c', e, hf⟩ := h.row
  injection e with e1 _ _
  subst e1
  exact hf
def endW (w2 : World) (b H : Nat) (v op : Int) (q : Option Addr) (k c : Nat) : World := put4 (w2.setCell ⟨b, 3, none⟩ (.int .i64 v)) H (.int .i64 op) (.int .i64 0) (.string (S [])) (.slice q k c)
section
variable {b g cap H : Nat} {ts : List TA} {w w2 : World} {v op : Int} {q : Option Addr} {k c : Nat} {x0 x1 x2 x3 : Value}
theorem endW_kept {ok : Nat → Prop} (hb : ¬ ok b) (hH : ¬ ok H) : Kept ok w2 (endW w2 b H v op q k c) := (Kept.set w2 b 3 _ hb).trans (Kept.put _ H _ _ _ _ hH)
theorem endW_only (hO : Only b w w2) (hH : w.heap.size ≤ H) : Only b w (endW w2 b H v op q k c) := (hO.set' 3 _).put H hH _ _ _ _
theorem endW_bx (hx : Bx w2 H x0 x1 x2 x3) (hne : ¬ H = b) : Bx (endW w2 b H v op q k c) H (.int .i64 op) (.int .i64 0) (.string (S [])) (.slice q k c) := (hx.keep (Kept.set (ok := (· ≠ b)) w2 b 3 _ (by simp)) hne).put _ _ _ _
theorem endW_rdg {a' n' o' bad f : Int} (hr : Rdg w2 b g cap ts.length a' n' o' bad f) (hne : ¬ b = H) : Rdg (endW w2 b H v op q k c) b g cap ts.length a' n' v bad f := (hr.set3 v).keep (Kept.put (ok := (· ≠ H)) _ H _ _ _ _ (by simp)) hne
end
def ClRel (b g cap : Nat) (ts : List TA) (rec : St → R) (op : Int) (n o1 X : Nat) (FIN : R) (w : World) (iv : Value) (wr : World) : Prop :=
  ∃ i : Nat, iv = .int .i64 i ∧ i ≤ n ∧ Only b w wr ∧ X + 1 ≤ wr.heap.size ∧ (∃ a b c d, Bx wr w.heap.size a b c d) ∧ ClS b g cap ts rec op n o1 (X + 1) X FIN i wr
theorem ap_common {b X : Nat} {w Wd w5 w6 : World} {op : Int} {q : Option Addr} {k c : Nat} {v : Value} {kk c' k' : Nat} {o m : Int} {tx : List UInt8} {qy p : Option Addr} {cy : Nat} {ha hb hc hd : Value} (hO : Only b w Wd) (hw : w.heap.size < X) (hsz : X + 1 ≤ Wd.heap.size) (hb2 : b < w.heap.size) (hh : Bx Wd w.heap.size ha hb hc hd)
    (hx : Bx Wd X (.int .i64 op) (.int .i64 0) (.string (S [])) (.slice q k c)) (o5 : Only b Wd w5) (hap : ApR b (X + 1) w5 v kk o m tx qy k' cy p c' w6) :
    Only b w (w6.setCell ⟨X, 3, none⟩ (.slice p (kk + 1) c')) ∧ X + 1 ≤ (w6.setCell ⟨X, 3, none⟩ (.slice p (kk + 1) c')).heap.size ∧ (∃ a b' c d, Bx (w6.setCell ⟨X, 3, none⟩ (.slice p (kk + 1) c')) w.heap.size a b' c d) ∧
      Bx (w6.setCell ⟨X, 3, none⟩ (.slice p (kk + 1) c')) X (.int .i64 op) (.int .i64 0) (.string (S [])) (.slice p (kk + 1) c') := by
  have h1 := o5.size
  have h2 := hap.size
  have kl := Kept.low hap.below (Nat.le_of_lt hap.size)
  refine ⟨((hO.trans o5).thenB hap.below (by omega) (by omega)).box X 3 (by omega) _, by simp; omega, ⟨_, _, _, _, ((hh.keep o5.kept (show w.heap.size ≠ b by omega)).keep kl (show w.heap.size < X + 1 by omega)).keep (Kept.set (ok := (· ≠ X)) _ X 3 _ (by simp)) (show w.heap.size ≠ X by omega)⟩, ?_⟩
  exact (((hx.keep o5.kept (show X ≠ b by omega)).keep kl (show X < X + 1 by omega))).set3 _
theorem cl_next_ok {b g cap : Nat} {ts : List TA} {rec : St → R} {op : Int} {n o1 X : Nat} {FIN : R} {w5 w6 : World} {xs : List Ex.X} {c c2 : Nat} {q p qy : Option Addr} {cy : Nat} {y : T} {s1 s4 : St}
    (hbx : Bx (w6.setCell ⟨X, 3, none⟩ (.slice p (xs.length + 1) c2)) X (.int .i64 op) (.int .i64 0) (.string (S [])) (.slice p (xs.length + 1) c2)) (hb : b < X) (hap : ApR b (X + 1) w5 (.slice q xs.length c) xs.length y.op y.num y.text qy y.args.len cy p c2 w6)
    (hxr : XR w6 (X + 1) (.slice p (xs.length + 1) c2) (xs ++ [⟨y, qy, cy⟩])) (hrd : Rdg w5 b g cap ts.length s4.at_ s4.n s4.open_ 0 0) (hr : rec s1 = .ok y s4) (hadv : Adv ts s1 s4 s1.open_) (ho : s1.open_ = o1) (ho20 : o1 ≤ 20) (hlt : xs.length < n)
    (hfin : ((rec s1).then fun y s4 => argsR rec ts op (n - (xs.length + 1)) ((rowF xs).snoc y) s4) = FIN) : ClS b g cap ts rec op n o1 (X + 1) X FIN (xs.length + 1) (w6.setCell ⟨X, 3, none⟩ (.slice p (xs.length + 1) c2)) := by
  rw [hr] at hfin
  refine ⟨p, xs.length + 1, c2, hbx, .inl ⟨xs ++ [⟨y, qy, cy⟩], s4, hxr.later (Kept.set _ X 3 _ (by omega)), by simp, by simp, by omega, ?_, hadv.ok (by omega), by rw [hadv.op, ho], ?_⟩⟩
  · exact (hrd.keep (Kept.low hap.below (Nat.le_of_lt hap.size)) (show b < X + 1 by omega)).keep (Kept.set (ok := (· ≠ X)) _ X 3 _ (by simp)) (show b ≠ X by omega)
  · rw [clR_snoc]
    exact hfin
theorem cl_next_bad {b g cap : Nat} {ts : List TA} {rec : St → R} {op : Int} {n o1 X : Nat} {FIN : R} {w5 w6 : World} {k' kk c2 : Nat} {v : Value} {p qy : Option Addr} {cy : Nat} {o m : Int} {tx : List UInt8} {er a : Nat} {i : Nat} {a' n' o' : Int}
    (hbx : Bx (w6.setCell ⟨X, 3, none⟩ (.slice p (kk + 1) c2)) X (.int .i64 op) (.int .i64 0) (.string (S [])) (.slice p (kk + 1) c2)) (hb : b < X) (hap : ApR b (X + 1) w5 v kk o m tx qy k' cy p c2 w6)
    (hrd : Rdg w5 b g cap ts.length a' n' o' (er : Int) (a : Int)) (her : er ≠ 0) (hfin : FIN = .bad er a) : ClS b g cap ts rec op n o1 (X + 1) X FIN i (w6.setCell ⟨X, 3, none⟩ (.slice p (kk + 1) c2)) :=
  ⟨p, kk + 1, c2, hbx, .inr ⟨er, a, her, ⟨a', n', o', (hrd.keep (Kept.low hap.below (Nat.le_of_lt hap.size)) (show b < X + 1 by omega)).keep (Kept.set (ok := (· ≠ X)) _ X 3 _ (by simp)) (show b ≠ X by omega)⟩, hfin⟩⟩
theorem rcall_yes (b g cap : Nat) (ts : List TA) (he : Ends ts) (rec : St → R) (hrk : RecOk ts rec) (op : Int) (n : Nat) (hn1 : 1 ≤ n) (hn2 : n ≤ 2) (s : St) (w : World) (h : Rdg w b g cap ts.length s.at_ s.n s.open_ 0 0) (ht : TsAt w g ts) (hg : g ≠ b) (hs0 : StOk ts s) (hs : s.at_ + 1 < ts.length) (hn : ts.length ≤ 8001) (hu : isS ts (s.at_ + 1) [40] = true)
    (HR : ∀ s1 : St, StOk ts s1 → s1.open_ = s.open_ + 1 → ∀ w1, Rdg w1 b g cap ts.length s1.at_ s1.n s1.open_ 0 0 → TsAt w1 g ts → Calls Tryz.prog 83 #[.pointer (some ⟨b, 0, none⟩), .int .i64 0] w1 fun e w' => ResA b g cap ts w1 (rec s1) e w') :
    Calls Tryz.prog 209 #[.pointer (some ⟨b, 0, none⟩), .int .i64 op, .int .i64 n] w fun e w' => ResA b g cap ts w (callR rec ts op n s) e w' := by
  obtain ⟨FIN, hFIN⟩ : ∃ F, callR rec ts op n s = F := ⟨_, rfl⟩
  rw [hFIN]
  have HFIN := Lib.hid hFIN
  have H := Lib.hid h
  have hlt := h.lt
  have hne : ¬ b = w.heap.size := by omega
  have hne2 : ¬ w.heap.size = b := by omega
  have hni : (n : Int) ≤ 2 := by omega
  have HREC := Lib.hid HR
  have HRK := Lib.hid hrk
  have HE := Lib.hid he
  have HS0 := Lib.hid hs0
  have HG := Lib.hid hg
  have HN := Lib.hid hn
  have HT := Lib.hid ht
  have c1 := h.c1
  have fz := h.fz
  have zb : ∀ o j, (w.alloc o).cell? ⟨b, j, none⟩ = w.cell? ⟨b, j, none⟩ := fun o j => Kept.cell (Kept.alloc (ok := fun _ => True) w o) trivial hlt
  have zf : ∀ o j, (w.alloc o).frozen? ⟨b, j, none⟩ = false := fun o j => (h.keep (Kept.alloc (ok := fun _ => True) w o) trivial).fz j
  have hai : (s.at_ : Int) ≤ 8001 := by omega
  obtain ⟨A1, hA1⟩ : ∃ A1 : Int, A1 = ((s.at_ + 1 : Nat) : Int) := ⟨_, rfl⟩
  obtain ⟨A2, hA2⟩ : ∃ A2 : Int, A2 = ((s.at_ + 2 : Nat) : Int) := ⟨_, rfl⟩
  have HE1 := Lib.hid hA1
  have HE2 := Lib.hid hA2
  have HA := Lib.hid (show (s.at_ : Int) + 1 = A1 by omega)
  have HA2 := Lib.hid (show A1 + 1 = A2 by omega)
  have hA1a : 0 ≤ A1 := by omega
  have hA1b : A1 ≤ 8002 := by omega
  clear hA1 hA2
  have HB1 := Lib.hid (((h.set1 A1).keep (Kept.alloc (ok := fun _ => True) _ (.cells #[.int .i64 0, .int .i64 0, .string ⟨#[]⟩, .slice none 0 0] 24)) trivial).keep (Kept.alloc (ok := fun _ => True) _ (.cells #[.int .i64 op, .int .i64 0, .string ⟨#[]⟩, .slice none 0 0] 24)) trivial)
  have HIS := Lib.hid (fun (w1 : World) (k : Rdg w1 b g cap ts.length A1 s.n s.open_ 0 0) (k2 : TsAt w1 g ts) => show Calls Tryz.prog 171 #[.pointer (some ⟨b, 0, none⟩), .string ⟨#[40]⟩] w1 fun e w' => e = .returned (.bool (isS ts (s.at_ + 1) [40])) ∧ Below w1.heap.size w1 w' from ris_any b g cap (s.at_ + 1) s.n s.open_ 0 0 ts ⟨#[40]⟩ w1 (by rw [← HE1.out]; exact k) k2 hs hn)
  rw [hu] at HIS
  have HOPN := Lib.hid (fun (w1 : World) (k : Rdg w1 b g cap ts.length A1 s.n s.open_ 0 0) => ropens_u b g cap ts.length A1 s.n s.open_ w1 k hs0.op)
  have HNOD := Lib.hid (fun (w1 : World) (o bad f : Int) (k : Rdg w1 b g cap ts.length A1 s.n o bad f) (k2 : bad = 0 → f = 0) => rnode_u b g cap ts.length A1 o bad f s.n w1 k hs0.n k2)
  have O1 := ((Only.set b w 1 (.int .i64 A1)).alloc (.cells #[.int .i64 0, .int .i64 0, .string ⟨#[]⟩, .slice none 0 0] 24)).alloc (.cells #[.int .i64 op, .int .i64 0, .string ⟨#[]⟩, .slice none 0 0] 24)
  have HT1 := Lib.hid (O1.ts ht hg)
  have HO1 := Lib.hid O1
  have hx := (Bx.new (w.setCell ⟨b, 1, none⟩ (.int .i64 A1)) (.int .i64 0) (.int .i64 0) (.string ⟨#[]⟩) (.slice none 0 0)).keep (Kept.alloc (ok := fun _ => True) _ (.cells #[.int .i64 op, .int .i64 0, .string ⟨#[]⟩, .slice none 0 0] 24)) trivial
  rw [set_size] at hx
  have HX1 := Lib.hid hx
  obtain ⟨X, hX⟩ : ∃ X, w.heap.size + 1 = X := ⟨_, rfl⟩
  have hy := Bx.new ((w.setCell ⟨b, 1, none⟩ (.int .i64 A1)).alloc (.cells #[.int .i64 0, .int .i64 0, .string ⟨#[]⟩, .slice none 0 0] 24)) (.int .i64 op) (.int .i64 0) (.string ⟨#[]⟩) (.slice none 0 0)
  rw [show ((w.setCell ⟨b, 1, none⟩ (.int .i64 A1)).alloc (.cells #[.int .i64 0, .int .i64 0, .string ⟨#[]⟩, .slice none 0 0] 24)).heap.size = X by simp; exact hX] at hy
  have HY1 := Lib.hid hy
  have hXb : ¬ X = b := by omega
  have hbX : ¬ b = X := by omega
  have hXH : ¬ X = w.heap.size := by omega
  have hHX : ¬ w.heap.size = X := by omega
  have HSZ1 := Lib.hid (show ((w.setCell ⟨b, 1, none⟩ (.int .i64 A1)).alloc (.cells #[.int .i64 0, .int .i64 0, .string ⟨#[]⟩, .slice none 0 0] 24) |>.alloc (.cells #[.int .i64 op, .int .i64 0, .string ⟨#[]⟩, .slice none 0 0] 24)).heap.size = X + 1 by simp; omega)
  have HU := Lib.hid hu
  have HSA := Lib.hid hs
  clear h ht hg hs hn hu O1 hx hy hFIN HR hrk he hs0
  go_enter Tryz.func209, Tryz.ntmps209
  go_wp2_with fail
  rw [HA.out]
  refine (HIS.out _ HB1.out HT1.out).mono ?_
  rintro e w2 ⟨rfl, b2⟩
  have HR2 := Lib.hid (HB1.out.below b2)
  have HX2 := Lib.hid (HX1.out.keep (Kept.of_below (ok := fun _ => True) b2) trivial)
  have HY2 := Lib.hid (HY1.out.keep (Kept.of_below (ok := fun _ => True) b2) trivial)
  have HO2 := Lib.hid (HO1.out.trans (Only.of_below b2))
  have HSZ2 := Lib.hid (show X + 1 ≤ w2.heap.size by have := b2.size; rw [HSZ1.out] at this; exact this)
  clear b2
  go_wp2_with fail
  refine (HOPN.out _ HR2.out).mono ?_
  rintro e w3 ⟨rfl, o3, oo, bad3, f3, r3, hc3⟩
  have HR3 := Lib.hid r3
  have HX3 := Lib.hid (HX2.out.keep o3.kept hne2)
  have HY3 := Lib.hid (HY2.out.keep o3.kept hXb)
  have HO3 := Lib.hid (HO2.out.trans o3)
  have HSZ3 := Lib.hid (Nat.le_trans HSZ2.out o3.size)
  have HC3 := Lib.hid hc3
  clear o3 r3 hc3
  go_wp2_with fail
  refine (HNOD.out _ _ _ _ HR3.out (by rcases HC3.out with ⟨_, _, _, h⟩ | ⟨_, h, _⟩ <;> intro h0 <;> omega)).mono ?_
  rintro e w4 ⟨rfl, o4, nn, bad4, f4, r4, hc4⟩
  have a1 := r4.c1
  have az := r4.fz
  have O4 : Only b w4 (w4.setCell ⟨b, 1, none⟩ (.int .i64 A2)) := Only.set b w4 1 _
  have hR4 := r4.set1 A2
  have HR4 := Lib.hid hR4
  have HX4 := Lib.hid ((HX3.out.keep o4.kept hne2).keep O4.kept hne2)
  have HY4 := Lib.hid ((HY3.out.keep o4.kept hXb).keep O4.kept hXb)
  have HO4 := Lib.hid ((HO3.out.trans o4).trans O4)
  have HSZ4 := Lib.hid (Nat.le_trans (Nat.le_trans HSZ3.out o4.size) O4.size)
  have hfin := HFIN.out
  unfold callR at hfin
  rw [if_pos HU.out] at hfin
  unfold enterR at hfin
  simp only at hfin
  have HCL : Hid (ClS b g cap ts rec op n (s.open_ + 1) (X + 1) X FIN 0 (w4.setCell ⟨b, 1, none⟩ (.int .i64 A2))) := by
    refine Lib.hid ⟨none, 0, 0, HY4.out, ?_⟩
    have hN0 := HS0.out.n
    rcases HC3.out with ⟨h20, rfl, rfl, rfl⟩ | ⟨h20, rfl, rfl⟩
    · rw [if_neg (by omega)] at hfin
      rcases hc4 with ⟨hb, _⟩ | ⟨_, h200, rfl, rfl, rfl⟩ | ⟨_, h200, rfl, rfl⟩
      · exact absurd rfl hb
      · rw [if_neg (by omega)] at hfin
        have h5 : Rdg (w4.setCell ⟨b, 1, none⟩ (.int .i64 A2)) b g cap ts.length ((s.at_ + 2 : Nat) : Int) ((s.n + 1 : Nat) : Int) ((s.open_ + 1 : Nat) : Int) 0 0 := by rw [← HE2.out]; exact hR4
        refine .inl ⟨[], ⟨s.at_ + 2, s.n + 1, s.open_ + 1⟩, XR.nil _ _, rfl, rfl, by omega, h5, ⟨HE.out.next HSA.out (isS_ne HU.out), by simp; omega, by simp; omega⟩, rfl, ?_⟩
        unfold clR
        rw [if_pos rfl]
        exact hfin
      · rw [if_pos h200] at hfin
        exact .inr ⟨27, s.at_ + 1, by decide, ⟨_, _, _, by rw [← HE1.out]; exact hR4⟩, hfin.symm⟩
    · rw [if_pos h20] at hfin
      rcases hc4 with ⟨hb, rfl, rfl⟩ | ⟨hb, _⟩ | ⟨hb, _⟩
      · exact .inr ⟨26, s.at_ + 1, by decide, ⟨_, _, _, by rw [← HE1.out]; exact hR4⟩, hfin.symm⟩
      · omega
      · omega
  clear o4 r4 hc4 O4 hfin hR4
  go_wp2_with fail
  try rw [HA2.out]
  go_loopw [8] (fun iv wr => ClRel b g cap ts rec op n (s.open_ + 1) X FIN w iv wr) (fun iv _ => n - (intOf iv).toNat)
  case atStart => exact ⟨0, rfl, by omega, HO4.out, HSZ4.out, ⟨_, _, _, _, HX4.out⟩, HCL.out⟩
  case round =>
    obtain ⟨i, rfl, hin, hO, hsz, ⟨ha, hb, hc, hd, hh⟩, q, k, c, hx, hcase⟩ := hrel
    have HHH := Lib.hid hh
    have HXX := Lib.hid hx
    have HOO := Lib.hid hO
    have HSZ := Lib.hid hsz
    have HTS := Lib.hid (hO.ts HT.out HG.out)
    rcases hcase with ⟨xs, s2, hxr, rfl, rfl, hin2, hrd, hs2, ho2, hfin⟩ | ⟨er, a, her, ⟨a', n', o', hrd⟩, hfin⟩
    · have d4 := hrd.c4
      have HRD := Lib.hid hrd
      have HSO := Lib.hid hs2
      have HXR := Lib.hid hxr
      have HFI := Lib.hid hfin
      by_cases hend : xs.length < n
      · have hei : (xs.length : Int) < (n : Int) := by omega
        by_cases hx0 : xs = []
        · have hl0 : xs.length = 0 := by rw [hx0]; rfl
          have hi0 : ¬ (0 : Int) < (xs.length : Int) := by omega
          unfold clR at hfin
          rw [if_pos hx0] at hfin
          have HFN := Lib.hid (show ((rec s2).then fun y s4 => argsR rec ts op (n - (xs.length + 1)) ((rowF xs).snoc y) s4) = FIN by rw [hl0, hx0]; exact hfin)
          have HXRW := HXR
          have HOW := HOO
          have HHW := HHH
          have HXW := HXX
          have HRW := HRD
          have HTW := HTS
          have HSW := HSO
          have HOPW := Lib.hid ho2
          have HSZW := HSZ
          have HLEN := Lib.hid (show xs.length ≤ 2 by omega)
          have HO20 := Lib.hid (show s.open_ + 1 ≤ 20 by have := hs2.op; omega)
          clear hh hx hO hrd hs2 hxr hfin ho2 hl0 hx0
          cases hr : rec s2 with
          | ok y s4 =>
            have HAP := Lib.hid (fun w5 (o5 : Only b (wr).drew w5) qy cy hfy => ap_ok b (X + 1) (.slice q xs.length c) xs (wr).drew w5 HSZW.out (HXRW.out.later (Kept.of_below (Below.refl _ _).drew)) (by have := HLEN.out; omega) o5 (by omega) y qy cy hfy)
            have HLV := Lib.hid (HREC.out s2 HSW.out HOPW.out (wr).drew HRW.out (HTW.out.below (Below.refl _ _).drew))
            rw [hr] at HLV
            have y5 := HXW.out.fz
            have y3 := HXW.out.c3
            have d4w := HRW.out.c4
            go_wp2_with fail
            go_region_law (first
              | (refine step_appR rfl _ _ _ _ rfl rfl rfl _ _ hap.run ?_)
              | (go_simp; go_at_call 83; refine HLV.out.mono ?_; rintro e w5 ⟨o5, oy, ny, ty, qy, ky, cy, rfl, hp⟩; obtain ⟨e1, e2, e3, e4, hfy, hrd5⟩ := hp; subst e1 e2 e3 e4; obtain ⟨p, c2, w6, hap, hxr6⟩ := HAP.out w5 o5 qy cy hfy; have hx5 := HXW.out.keep (w' := w5) (Kept.trans (Kept.of_below (Below.refl _ _).drew) o5.kept) hXb; have hx6 := hx5.keep (Kept.low hap.below (Nat.le_of_lt hap.size)) (show X < X + 1 by omega); have zx5 : ∀ o j, (w5.alloc o).cell? ⟨X, j, none⟩ = w5.cell? ⟨X, j, none⟩ := fun o j => Kept.cell (Kept.alloc (ok := fun _ => True) w5 o) trivial hx5.lt; have k3 := hx5.c3; have k6 := hx6.c3; have kz := hx6.fz; have HCM := Lib.hid (ap_common (HOW.out.trans (Only.of_below (Below.refl _ _).drew)) (by omega) HSZW.out hlt HHW.out HXW.out o5 hap); have HCN := Lib.hid (cl_next_ok (o1 := s.open_ + 1) HCM.out.2.2.2 (by omega) hap hxr6 hrd5 hr (HRK.out _ _ _ HSW.out hr) HOPW.out HO20.out hend HFN.out)))
            all_goals
              try simp only [Exit.inBlock, Exit.then]
              go_wp2_with fail
              go_roundw
              case rel => exact ⟨xs.length + 1, by go_num, by omega, HCM.out.1, HCM.out.2.1, HCM.out.2.2.1, HCN.out⟩
              case measure => simp [intOf]; omega
          | bad er a =>
            have HFB := Lib.hid (show FIN = .bad er a by rw [← HFN.out, hr]; rfl)
            have HAP := Lib.hid (fun w5 (o5 : Only b (wr).drew w5) o m t qy kk cy => ap_bad b (X + 1) (.slice q xs.length c) xs (wr).drew w5 HSZW.out (HXRW.out.later (Kept.of_below (Below.refl _ _).drew)) (by have := HLEN.out; omega) o5 (by omega) o m t qy kk cy)
            have HLV := Lib.hid (HREC.out s2 HSW.out HOPW.out (wr).drew HRW.out (HTW.out.below (Below.refl _ _).drew))
            rw [hr] at HLV
            have y5 := HXW.out.fz
            have y3 := HXW.out.c3
            have d4w := HRW.out.c4
            go_wp2_with fail
            go_region_law (first
              | (refine step_appR rfl _ _ _ _ rfl rfl rfl _ _ hap.run ?_)
              | (go_simp; go_at_call 83; refine HLV.out.mono ?_; rintro e w5 ⟨o5, oy, ny, ty, qy, ky, cy, rfl, hp⟩; obtain ⟨her5, a5, n5, oo5, hrd5⟩ := hp; obtain ⟨p, c2, w6, hap⟩ := HAP.out w5 o5 oy ny ty qy ky cy; have hx5 := HXW.out.keep (w' := w5) (Kept.trans (Kept.of_below (Below.refl _ _).drew) o5.kept) hXb; have hx6 := hx5.keep (Kept.low hap.below (Nat.le_of_lt hap.size)) (show X < X + 1 by omega); have zx5 : ∀ o j, (w5.alloc o).cell? ⟨X, j, none⟩ = w5.cell? ⟨X, j, none⟩ := fun o j => Kept.cell (Kept.alloc (ok := fun _ => True) w5 o) trivial hx5.lt; have k3 := hx5.c3; have k6 := hx6.c3; have kz := hx6.fz; have HCM := Lib.hid (ap_common (HOW.out.trans (Only.of_below (Below.refl _ _).drew)) (by omega) HSZW.out hlt HHW.out HXW.out o5 hap); have HCN := Lib.hid (cl_next_bad (rec := rec) (ts := ts) (n := n) (o1 := s.open_ + 1) (i := xs.length + 1) HCM.out.2.2.2 (by omega) hap hrd5 her5 HFB.out)))
            all_goals
              try simp only [Exit.inBlock, Exit.then]
              go_wp2_with fail
              go_roundw
              case rel => exact ⟨xs.length + 1, by go_num, by omega, HCM.out.1, HCM.out.2.1, HCM.out.2.2.1, HCN.out⟩
              case measure => simp [intOf]; omega
        · have hpos : 0 < xs.length := List.length_pos_iff.2 hx0
          have hi0 : (0 : Int) < (xs.length : Int) := by omega
          unfold clR at hfin
          rw [if_neg hx0, show n - xs.length = (n - (xs.length + 1)) + 1 by omega] at hfin
          unfold argsR at hfin
          have HOPW := Lib.hid ho2
          have HLEN := Lib.hid (show xs.length ≤ 2 by omega)
          have HO20 := Lib.hid (show s.open_ + 1 ≤ 20 by have := hs2.op; omega)
          cases hcm : isS ts s2.at_ [44] with
          | true =>
            rw [if_pos hcm] at hfin
            have HTK := Lib.hid (rtake_ok b g cap s2.at_ s2.n s2.open_ 0 ts ⟨#[44]⟩ wr hrd HTS.out hs2.at_ HN.out hcm)
            have HFN := Lib.hid hfin
            have HSW := Lib.hid (show StOk ts ⟨s2.at_ + 1, s2.n, s2.open_⟩ from ⟨HE.out.next hs2.at_ (isS_ne hcm), hs2.n, hs2.op⟩)
            clear hh hx hO hrd hs2 hxr hfin ho2 hx0 hcm
            cases hr : rec ⟨s2.at_ + 1, s2.n, s2.open_⟩ with
            | ok y s4 =>
              go_wp2_with fail
              refine HTK.out.mono ?_
              rintro e w2 ⟨rfl, r2, o2⟩
              have HXRW := Lib.hid (HXR.out.later (o2.keptB (show ¬ X + 1 ≤ b by omega)))
              have HOW := Lib.hid (HOO.out.trans o2)
              have HHW := Lib.hid (HHH.out.keep o2.kept hne2)
              have HXW := Lib.hid (HXX.out.keep o2.kept hXb)
              have HRW := Lib.hid r2
              have HTW := Lib.hid (o2.ts HTS.out HG.out)
              have HSZW := Lib.hid (Nat.le_trans HSZ.out o2.size)
              clear r2 o2
              have HAP := Lib.hid (fun w5 (o5 : Only b (w2).drew w5) qy cy hfy => ap_ok b (X + 1) (.slice q xs.length c) xs (w2).drew w5 HSZW.out (HXRW.out.later (Kept.of_below (Below.refl _ _).drew)) (by have := HLEN.out; omega) o5 (by omega) y qy cy hfy)
              have HLV := Lib.hid (HREC.out ⟨s2.at_ + 1, s2.n, s2.open_⟩ HSW.out HOPW.out (w2).drew HRW.out (HTW.out.below (Below.refl _ _).drew))
              rw [hr] at HLV
              have y5 := HXW.out.fz
              have y3 := HXW.out.c3
              have d4w := HRW.out.c4
              go_wp2_with fail
              go_region_law (first
                | (refine step_appR rfl _ _ _ _ rfl rfl rfl _ _ hap.run ?_)
                | (go_simp; go_at_call 83; refine HLV.out.mono ?_; rintro e w5 ⟨o5, oy, ny, ty, qy, ky, cy, rfl, hp⟩; obtain ⟨e1, e2, e3, e4, hfy, hrd5⟩ := hp; subst e1 e2 e3 e4; obtain ⟨p, c2, w6, hap, hxr6⟩ := HAP.out w5 o5 qy cy hfy; have hx5 := HXW.out.keep (w' := w5) (Kept.trans (Kept.of_below (Below.refl _ _).drew) o5.kept) hXb; have hx6 := hx5.keep (Kept.low hap.below (Nat.le_of_lt hap.size)) (show X < X + 1 by omega); have zx5 : ∀ o j, (w5.alloc o).cell? ⟨X, j, none⟩ = w5.cell? ⟨X, j, none⟩ := fun o j => Kept.cell (Kept.alloc (ok := fun _ => True) w5 o) trivial hx5.lt; have k3 := hx5.c3; have k6 := hx6.c3; have kz := hx6.fz; have HCM := Lib.hid (ap_common (HOW.out.trans (Only.of_below (Below.refl _ _).drew)) (by omega) HSZW.out hlt HHW.out HXW.out o5 hap); have HCN := Lib.hid (cl_next_ok (o1 := s.open_ + 1) HCM.out.2.2.2 (by omega) hap hxr6 hrd5 hr (HRK.out _ _ _ HSW.out hr) HOPW.out HO20.out hend HFN.out)))
              all_goals
                try simp only [Exit.inBlock, Exit.then]
                go_wp2_with fail
                go_roundw
                case rel => exact ⟨xs.length + 1, by go_num, by omega, HCM.out.1, HCM.out.2.1, HCM.out.2.2.1, HCN.out⟩
                case measure => simp [intOf]; omega
            | bad er a =>
              have HFB := Lib.hid (show FIN = .bad er a by rw [← HFN.out, hr]; rfl)
              go_wp2_with fail
              refine HTK.out.mono ?_
              rintro e w2 ⟨rfl, r2, o2⟩
              have HXRW := Lib.hid (HXR.out.later (o2.keptB (show ¬ X + 1 ≤ b by omega)))
              have HOW := Lib.hid (HOO.out.trans o2)
              have HHW := Lib.hid (HHH.out.keep o2.kept hne2)
              have HXW := Lib.hid (HXX.out.keep o2.kept hXb)
              have HRW := Lib.hid r2
              have HTW := Lib.hid (o2.ts HTS.out HG.out)
              have HSZW := Lib.hid (Nat.le_trans HSZ.out o2.size)
              clear r2 o2
              have HAP := Lib.hid (fun w5 (o5 : Only b (w2).drew w5) o m t qy kk cy => ap_bad b (X + 1) (.slice q xs.length c) xs (w2).drew w5 HSZW.out (HXRW.out.later (Kept.of_below (Below.refl _ _).drew)) (by have := HLEN.out; omega) o5 (by omega) o m t qy kk cy)
              have HLV := Lib.hid (HREC.out ⟨s2.at_ + 1, s2.n, s2.open_⟩ HSW.out HOPW.out (w2).drew HRW.out (HTW.out.below (Below.refl _ _).drew))
              rw [hr] at HLV
              have y5 := HXW.out.fz
              have y3 := HXW.out.c3
              have d4w := HRW.out.c4
              go_wp2_with fail
              go_region_law (first
                | (refine step_appR rfl _ _ _ _ rfl rfl rfl _ _ hap.run ?_)
                | (go_simp; go_at_call 83; refine HLV.out.mono ?_; rintro e w5 ⟨o5, oy, ny, ty, qy, ky, cy, rfl, hp⟩; obtain ⟨her5, a5, n5, oo5, hrd5⟩ := hp; obtain ⟨p, c2, w6, hap⟩ := HAP.out w5 o5 oy ny ty qy ky cy; have hx5 := HXW.out.keep (w' := w5) (Kept.trans (Kept.of_below (Below.refl _ _).drew) o5.kept) hXb; have hx6 := hx5.keep (Kept.low hap.below (Nat.le_of_lt hap.size)) (show X < X + 1 by omega); have zx5 : ∀ o j, (w5.alloc o).cell? ⟨X, j, none⟩ = w5.cell? ⟨X, j, none⟩ := fun o j => Kept.cell (Kept.alloc (ok := fun _ => True) w5 o) trivial hx5.lt; have k3 := hx5.c3; have k6 := hx6.c3; have kz := hx6.fz; have HCM := Lib.hid (ap_common (HOW.out.trans (Only.of_below (Below.refl _ _).drew)) (by omega) HSZW.out hlt HHW.out HXW.out o5 hap); have HCN := Lib.hid (cl_next_bad (rec := rec) (ts := ts) (n := n) (o1 := s.open_ + 1) (i := xs.length + 1) HCM.out.2.2.2 (by omega) hap hrd5 her5 HFB.out)))
              all_goals
                try simp only [Exit.inBlock, Exit.then]
                go_wp2_with fail
                go_roundw
                case rel => exact ⟨xs.length + 1, by go_num, by omega, HCM.out.1, HCM.out.2.1, HCM.out.2.2.1, HCN.out⟩
                case measure => simp [intOf]; omega
          | false =>
            rw [if_neg (by rw [hcm]; decide)] at hfin
            have HTK := Lib.hid (rtake_no b g cap s2.at_ s2.n s2.open_ 0 ts ⟨#[44]⟩ wr hrd HTS.out hs2.at_ HN.out hcm)
            have HFN := Lib.hid hfin
            clear hh hx hO hrd hs2 hxr hfin ho2 hx0 hcm
            go_wp2_with fail
            refine HTK.out.mono ?_
            rintro e w2 ⟨rfl, r2, o2⟩
            have d4w := r2.c4
            have HR2F := Lib.hid r2
            have HO2F := Lib.hid o2
            clear r2 o2
            go_wp2_with fail
            go_roundw
            case rel => exact ⟨xs.length + 1, by go_num, by omega, HOO.out.trans HO2F.out, Nat.le_trans HSZ.out HO2F.out.size, ⟨_, _, _, _, HHH.out.keep HO2F.out.kept hne2⟩, q, xs.length, c, HXX.out.keep HO2F.out.kept hXb, .inr ⟨25, s2.at_, by decide, ⟨_, _, _, HR2F.out⟩, HFN.out.symm⟩⟩
            case measure => simp [intOf]; omega
      · have hnx : n = xs.length := by omega
        have hei : ¬ (xs.length : Int) < (n : Int) := by omega
        rw [clR_done rec ts op n xs s2 hn1 hnx] at hfin
        have HDN := Lib.hid hfin
        have HOP2 := Lib.hid ho2
        clear hh hx hO hrd hs2 hxr hfin ho2
        have hoi : (s2.open_ : Int) ≤ 20 := by have := HSO.out.op; omega
        have hoj : (1 : Int) ≤ (s2.open_ : Int) := by have := HOP2.out; omega
        have HFAT := Lib.hid (HXR.out.fat)
        have HTK := Lib.hid (rtake_u b g cap ts ⟨#[41]⟩ _ _ _ _ _ wr HRD.out HTS.out HN.out (fun _ => ⟨rfl, s2.at_, rfl, HSO.out.at_⟩))
        go_wp2_with fail
        refine HTK.out.mono ?_
        rintro e w2 ⟨rfl, o2, a2, bad2, f2, r2, hc2⟩
        have hh := HHH.out.keep o2.kept hne2
        have hx := HXX.out.keep o2.kept hXb
        have f5 := hh.fz
        have p0 := hh.c0
        have p1 := hh.c1
        have p2 := hh.c2
        have p3 := hh.c3
        have y0 := hx.c0
        have y1 := hx.c1
        have y2 := hx.c2
        have y3 := hx.c3
        have a3 := r2.c3
        have az := r2.fz
        have HHF := Lib.hid hh
        have HRF := Lib.hid r2
        have HCF := Lib.hid hc2
        have HO2 := Lib.hid o2
        clear hh hx r2 hc2 o2
        go_wp2_with fail
        refine bodyPost_ret (res_expr rfl _ _ w.heap.size _ _ _ _ rfl (endW_bx (b := b) HHF.out hne2)) rfl ?_
        refine ⟨endW_only (HOO.out.trans HO2.out) (Nat.le_refl _), op, 0, [], q, _, c, rfl, ?_⟩
        have hf2 := (HFAT.out.keep (HO2.out.keptB (show ¬ X + 1 ≤ b by omega))).keep (endW_kept (H := w.heap.size) (v := (s2.open_ : Int) - 1) (op := op) (q := q) (k := xs.length) (c := c) (show ¬ X + 1 ≤ b by omega) (show ¬ X + 1 ≤ w.heap.size by omega))
        refine end_post (sign := [41]) HDN.out rfl (FAt.mono (fun g _ hg => by have h1 : X + 1 ≤ g := hg; show w.heap.size ≤ g; omega) _ _ hf2) (endW_rdg HRF.out hne) rfl (by have := HOP2.out; omega) ?_
        rcases HCF.out with ⟨h0, _⟩ | ⟨_, kx, hkx, _, hcx⟩
        · exact absurd rfl h0
        · obtain rfl : kx = s2.at_ := by omega
          exact hcx
    · have d4 := hrd.c4
      have her2 : ((er : Int) == 0) = false := by rw [beq_eq_false_iff_ne]; omega
      have HRD := Lib.hid hrd
      by_cases hend : i < n
      · have hei : (i : Int) < (n : Int) := by omega
        clear hh hx hO hrd
        have HTK := Lib.hid (rtake_u b g cap ts ⟨#[41]⟩ _ _ _ _ _ wr HRD.out HTS.out HN.out (fun h0 => absurd h0 (by omega)))
        go_wp2_with fail
        refine HTK.out.mono ?_
        rintro e w2 ⟨rfl, o2, a2, bad2, f2, r2, hc2⟩
        have hh := HHH.out.keep o2.kept hne2
        have hx := HXX.out.keep o2.kept hXb
        have f5 := hh.fz
        have p0 := hh.c0
        have p1 := hh.c1
        have p2 := hh.c2
        have p3 := hh.c3
        have y0 := hx.c0
        have y1 := hx.c1
        have y2 := hx.c2
        have y3 := hx.c3
        have a3 := r2.c3
        have az := r2.fz
        have HHF := Lib.hid hh
        have HRF := Lib.hid r2
        have HCF := Lib.hid hc2
        have HO2 := Lib.hid o2
        clear hh hx r2 hc2 o2
        go_wp2_with fail
        refine bodyPost_ret (res_expr rfl _ _ w.heap.size _ _ _ _ rfl (endW_bx (b := b) HHF.out hne2)) rfl ?_
        refine ⟨endW_only (HOO.out.trans HO2.out) (Nat.le_refl _), op, 0, [], q, _, c, rfl, ?_⟩
        rw [hfin]
        rcases HCF.out with ⟨h0, rfl, rfl⟩ | ⟨h0, _⟩
        · exact ⟨her, _, _, _, endW_rdg HRF.out hne⟩
        · omega
      · have hei : ¬ (i : Int) < (n : Int) := by omega
        clear hh hx hO hrd
        have HTK := Lib.hid (rtake_u b g cap ts ⟨#[41]⟩ _ _ _ _ _ wr HRD.out HTS.out HN.out (fun h0 => absurd h0 (by omega)))
        go_wp2_with fail
        refine HTK.out.mono ?_
        rintro e w2 ⟨rfl, o2, a2, bad2, f2, r2, hc2⟩
        have hh := HHH.out.keep o2.kept hne2
        have hx := HXX.out.keep o2.kept hXb
        have f5 := hh.fz
        have p0 := hh.c0
        have p1 := hh.c1
        have p2 := hh.c2
        have p3 := hh.c3
        have y0 := hx.c0
        have y1 := hx.c1
        have y2 := hx.c2
        have y3 := hx.c3
        have a3 := r2.c3
        have az := r2.fz
        have HHF := Lib.hid hh
        have HRF := Lib.hid r2
        have HCF := Lib.hid hc2
        have HO2 := Lib.hid o2
        clear hh hx r2 hc2 o2
        go_wp2_with fail
        refine bodyPost_ret (res_expr rfl _ _ w.heap.size _ _ _ _ rfl (endW_bx (b := b) HHF.out hne2)) rfl ?_
        refine ⟨endW_only (HOO.out.trans HO2.out) (Nat.le_refl _), op, 0, [], q, _, c, rfl, ?_⟩
        rw [hfin]
        rcases HCF.out with ⟨h0, rfl, rfl⟩ | ⟨h0, _⟩
        · exact ⟨her, _, _, _, endW_rdg HRF.out hne⟩
        · omega
end Go.Proofs.YtlmmfhbdebfgkaaGreatDoor.Ex
