/-
  VlTwin, ExPsD, ExPsF.
-/
import Derived.Test.YtlmmfhbdebfgkaaGreatDoorWVlKeyQ
import Derived.Test.YtlmmfhbdebfgkaaGreatDoorWVaPrintQ
import Derived.Test.YtlmmfhbdebfgkaaGreatDoorWTyNodeQ
import Derived.Test.YtlmmfhbdebfgkaaGreatDoorWExPsBQ
import Derived.WalkSpells
import Derived.Laws.AppendOwn
set_option linter.unusedVariables false
set_option linter.unusedSimpArgs false
set_option maxRecDepth 100000
set_option maxHeartbeats 4000000
namespace Go.Proofs.YtlmmfhbdebfgkaaGreatDoor.Va
open Go.RowKit
theorem strClone_any (s : ByteArray) (hs : s.size ≤ 281474976710656) (w : World) :
    Calls Tryz.prog 53 #[.string s] w fun e w' => e = .returned (.string s) ∧ Below w.heap.size w w' := by
  go_enter Tryz.func53, Tryz.ntmps53
  go_wp2_with fail
  refine (Tryz.stringslite_Clone s _ hs).mono ?_
  rintro e w' ⟨rfl, hb⟩
  have HB := Lib.hid hb
  clear hb
  go_wp2_with fail
  go_ret
  exact ⟨rfl, HB.out⟩
end Go.Proofs.YtlmmfhbdebfgkaaGreatDoor.Va
namespace Go.Proofs.YtlmmfhbdebfgkaaGreatDoor.Ex
open Go.RowKit
open Lx Va
structure Env (b g : Nat) (ts : List TA) : Prop where
  ne : g ≠ b
  con : 0 ≠ b
  len : ts.length ≤ 8001
  ends : Ends ts
  toks : ∀ i, TokS (tk ts i)
def RecP (b g cap : Nat) (ts : List TA) (o : Nat) (rec : St → R) : Prop :=
  ∀ s1 : St, StOk ts s1 → s1.open_ = o → ∀ w1, Psr w1 b g cap ts.length s1.at_ s1.n s1.open_ → TsAt w1 g ts → ConsAt w1 →
    Calls Tryz.prog 48 #[.pointer (some ⟨b, 0, none⟩), .int .i64 0] w1 fun e w' => ResP b g cap ts w1 (rec s1) e w'
theorem fat_put {b H : Nat} {w4 w5 : World} {l : F} {q : Option Addr} (hf : FAt w4 (H < ·) l q) (o5 : Only b w4 w5) (hb : b < H) (x y z u : Value) : FAt (put4 w5 H x y z u) (H ≤ ·) l q :=
  FAt.mono (fun _ _ h => Nat.le_of_lt h) _ _ ((hf.keep (o5.keptB (by show ¬ H < b; omega))).keep (Kept.put w5 H x y z u (by show ¬ H < H; omega)))
theorem ConsAt.only {b : Nat} {w w' : World} (h : ConsAt w) (o : Only b w w') (hb : 0 ≠ b) : ConsAt w' := h.keep o.kept hb
theorem pgroup_any (b g cap : Nat) (ts : List TA) (hE : Env b g ts) (s : St) (w : World) (h : Psr w b g cap ts.length s.at_ s.n s.open_) (ht : TsAt w g ts) (hC : ConsAt w) (hs : StOk ts s) (rec : St → R) (hrk : RecOk ts rec) (hi : isS ts s.at_ [40] = true)
    (HR : RecP b g cap ts (s.open_ + 1) rec) :
    Calls Tryz.prog 169 #[.pointer (some ⟨b, 0, none⟩)] w fun e w' => ResP b g cap ts w (groupR rec ts s) e w' := by
  have hnx := hE.ends.next hs.at_ (isS_ne hi)
  have hlt := h.lt
  have hb := (Below.refl w.heap.size w).alloc (Nat.le_refl _) (.cells #[.int .i64 0, .int .i64 0, .string ⟨#[]⟩, .slice none 0 0] 24)
  have HX := Lib.hid (Bx.new w (.int .i64 0) (.int .i64 0) (.string ⟨#[]⟩) (.slice none 0 0))
  have H0 := Lib.hid (h.below hb)
  have HT := Lib.hid (ht.below hb)
  have HC := Lib.hid (hC.keep (Kept.of_below (ok := fun _ => True) hb) trivial)
  have HB := Lib.hid hb
  have HEE := Lib.hid hE
  have hop := hs.op
  have hni : (s.at_ : Int) < 8001 := by have := hs.at_; have := hE.len; omega
  have HN := Lib.hid hs.n
  have HRK := Lib.hid hrk
  have HRR := Lib.hid HR
  clear h ht hC hs hb hi hE hrk HR
  unfold groupR
  by_cases h20 : s.open_ = 20
  · rw [if_pos h20]
    rw [h20] at H0
    have HP := Lib.hid (penter_bad b g cap s.at_ s.n ts.length _ H0.out)
    clear h20 hop hnx
    go_enter Tryz.func169, Tryz.ntmps169
    go_wp2_with fail
    refine HP.out.mono ?_
    rintro e w1 ⟨rfl, b1⟩
    have HO := Lib.hid (Only.of_below (b := b) (HB.out.trans (b1.mono HB.out.size)))
    clear b1
    unfold panS
    go_wp2_with fail
    exact ⟨rfl, HO.out, rfl⟩
  · rw [if_neg h20]
    have HP := Lib.hid (penter_ok b g cap s.at_ s.n s.open_ ts.length _ H0.out (by omega))
    have HS1 := Lib.hid (show StOk ts ⟨s.at_ + 1, s.n, s.open_ + 1⟩ from ⟨hnx, HN.out, by show s.open_ + 1 ≤ 20; omega⟩)
    have hne1 : ¬ w.heap.size = b := by omega
    have HR1 := Lib.hid (HRR.out ⟨s.at_ + 1, s.n, s.open_ + 1⟩ HS1.out rfl)
    have HA1 := Lib.hid (fun x s2 (hr : rec ⟨s.at_ + 1, s.n, s.open_ + 1⟩ = .ok x s2) => HRK.out _ x s2 HS1.out hr)
    obtain ⟨r, hr⟩ : ∃ r, rec ⟨s.at_ + 1, s.n, s.open_ + 1⟩ = r := ⟨_, rfl⟩
    rw [hr] at HR1 HA1 ⊢
    clear hr HRR HRK hnx
    cases r with
    | bad er a =>
      rw [show (R.bad er a).then (fun y s2 => leaveR ts [41] y s2) = R.bad er a from rfl]
      go_enter Tryz.func169, Tryz.ntmps169
      go_wp2_with fail
      refine HP.out.mono ?_
      rintro e w1 ⟨rfl, o1, h1⟩
      have c1 := h1.c1
      have fz := h1.fz
      have ho3 := o1.set' 1 (.int .i64 ((s.at_ : Int) + 1))
      have HL := Lib.hid (HR1.out (w1.setCell ⟨b, 1, none⟩ (.int .i64 ((s.at_ : Int) + 1))) (h1.set1 ((s.at_ : Int) + 1)) (ho3.ts HT.out HEE.out.ne) (HC.out.only ho3 HEE.out.con))
      have HO2 := Lib.hid ((Only.of_below (b := b) HB.out).trans ho3)
      have HX2 := Lib.hid (HX.out.keep ho3.kept hne1)
      have HT2 := Lib.hid (ho3.ts HT.out HEE.out.ne)
      clear o1 h1 ho3
      go_wp2_with fail
      refine HL.out.mono ?_
      rintro e w3 ⟨o3, rfl⟩
      have HO3 := Lib.hid (HO2.out.trans o3)
      clear o3
      unfold panS
      go_wp2_with fail
      exact ⟨rfl, HO3.out, rfl⟩
    | ok x s2 =>
      rw [show (R.ok x s2).then (fun y s2 => leaveR ts [41] y s2) = leaveR ts [41] x s2 from rfl]
      have ha := HA1.out x s2 rfl
      unfold leaveR
      cases hl : isS ts s2.at_ [41] with
      | false =>
        rw [if_neg (by decide)]
        go_enter Tryz.func169, Tryz.ntmps169
        go_wp2_with fail
        refine HP.out.mono ?_
        rintro e w1 ⟨rfl, o1, h1⟩
        have c1 := h1.c1
        have fz := h1.fz
        have ho3 := o1.set' 1 (.int .i64 ((s.at_ : Int) + 1))
        have HL := Lib.hid (HR1.out (w1.setCell ⟨b, 1, none⟩ (.int .i64 ((s.at_ : Int) + 1))) (h1.set1 ((s.at_ : Int) + 1)) (ho3.ts HT.out HEE.out.ne) (HC.out.only ho3 HEE.out.con))
        have HO2 := Lib.hid ((Only.of_below (b := b) HB.out).trans ho3)
        have HX2 := Lib.hid (HX.out.keep ho3.kept hne1)
        have HT2 := Lib.hid (ho3.ts HT.out HEE.out.ne)
        clear o1 h1 ho3
        go_wp2_with fail
        refine HL.out.mono ?_
        rintro e w3 ⟨o3, q, c, rfl, hfa, h3⟩
        have hx3 := HX2.out.keep o3.kept hne1
        have hbx := (Below.refl w3.heap.size w3).alloc (Nat.le_refl _) (.cells #[.int .i64 x.op, .int .i64 x.num, .string (S x.text), .slice q x.args.len c] 24)
        obtain ⟨X, hX⟩ : ∃ X, w3.heap.size = X := ⟨_, rfl⟩
        obtain ⟨W4, hW4⟩ : ∃ W4, W4 = w3.alloc (.cells #[.int .i64 x.op, .int .i64 x.num, .string (S x.text), .slice q x.args.len c] 24) := ⟨_, rfl⟩
        have hxx := Bx.new w3 (.int .i64 x.op) (.int .i64 x.num) (.string (S x.text)) (.slice q x.args.len c)
        have h4 := h3.below hbx
        have ht4 := (o3.ts HT2.out HEE.out.ne).below hbx
        have hf4 := hfa.keep (Kept.of_below hbx)
        have hx4 := laterB hx3 hbx
        have ho4 := (HO2.out.trans o3).trans (Only.of_below (b := b) hbx)
        have hX1 : b < X := by rw [← hX]; exact h3.lt
        have hX2 : w.heap.size < X := by rw [← hX]; exact hx3.lt
        have hsz := HX2.out.lt
        rw [hX] at hxx
        rw [← hW4] at hxx h4 ht4 hf4 hx4 ho4
        have HPL := Lib.hid (pleave_bad b g cap s2.at_ s2.n s2.open_ ts ⟨#[41]⟩ W4 h4 ht4 ha.lt HEE.out.len (HEE.out.toks _) hl)
        have HXX := Lib.hid hxx
        have HX4 := Lib.hid hx4
        have HO4 := Lib.hid ho4
        have HF4 := Lib.hid (FAt.mono (ok' := (w.heap.size < ·)) (fun y _ hg => Nat.lt_of_lt_of_le hsz hg) _ _ hf4)
        have HW4 := Lib.hid hW4
        have HHX := Lib.hid hX
        have hneX : ¬ X = b := by omega
        have hneX2 : ¬ w.heap.size = X := by omega
        clear o3 hfa h3 hx3 hbx hxx h4 ht4 hf4 hx4 ho4 hW4 hX hsz hX1
        unfold exprC
        go_upto_region 4 with fail
        rw [HHX.out, ← HW4.out]
        clear HHX HW4
        go_wp2_with fail
        refine HPL.out.mono ?_
        rintro e w5 ⟨rfl, b5⟩
        have HO5 := Lib.hid (HO4.out.trans (Only.of_below (b := b) b5))
        clear b5
        unfold panS
        go_wp2_with fail
        exact ⟨rfl, HO5.out, rfl⟩
      | true =>
        rw [if_pos rfl]
        go_enter Tryz.func169, Tryz.ntmps169
        go_wp2_with fail
        refine HP.out.mono ?_
        rintro e w1 ⟨rfl, o1, h1⟩
        have c1 := h1.c1
        have fz := h1.fz
        have ho3 := o1.set' 1 (.int .i64 ((s.at_ : Int) + 1))
        have HL := Lib.hid (HR1.out (w1.setCell ⟨b, 1, none⟩ (.int .i64 ((s.at_ : Int) + 1))) (h1.set1 ((s.at_ : Int) + 1)) (ho3.ts HT.out HEE.out.ne) (HC.out.only ho3 HEE.out.con))
        have HO2 := Lib.hid ((Only.of_below (b := b) HB.out).trans ho3)
        have HX2 := Lib.hid (HX.out.keep ho3.kept hne1)
        have HT2 := Lib.hid (ho3.ts HT.out HEE.out.ne)
        clear o1 h1 ho3
        go_wp2_with fail
        refine HL.out.mono ?_
        rintro e w3 ⟨o3, q, c, rfl, hfa, h3⟩
        have hx3 := HX2.out.keep o3.kept hne1
        have hbx := (Below.refl w3.heap.size w3).alloc (Nat.le_refl _) (.cells #[.int .i64 x.op, .int .i64 x.num, .string (S x.text), .slice q x.args.len c] 24)
        obtain ⟨X, hX⟩ : ∃ X, w3.heap.size = X := ⟨_, rfl⟩
        obtain ⟨W4, hW4⟩ : ∃ W4, W4 = w3.alloc (.cells #[.int .i64 x.op, .int .i64 x.num, .string (S x.text), .slice q x.args.len c] 24) := ⟨_, rfl⟩
        have hxx := Bx.new w3 (.int .i64 x.op) (.int .i64 x.num) (.string (S x.text)) (.slice q x.args.len c)
        have h4 := h3.below hbx
        have ht4 := (o3.ts HT2.out HEE.out.ne).below hbx
        have hf4 := hfa.keep (Kept.of_below hbx)
        have hx4 := laterB hx3 hbx
        have ho4 := (HO2.out.trans o3).trans (Only.of_below (b := b) hbx)
        have hX1 : b < X := by rw [← hX]; exact h3.lt
        have hX2 : w.heap.size < X := by rw [← hX]; exact hx3.lt
        have hsz := HX2.out.lt
        rw [hX] at hxx
        rw [← hW4] at hxx h4 ht4 hf4 hx4 ho4
        have HPL := Lib.hid (pleave_ok b g cap s2.at_ s2.n ts s2.open_ ⟨#[41]⟩ W4 h4 ht4 ha.lt HEE.out.len (HEE.out.toks _) (by have e : s2.open_ = s.open_ + 1 := ha.op; omega) (by have e : s2.open_ = s.open_ + 1 := ha.op; omega) hl)
        have HXX := Lib.hid hxx
        have HX4 := Lib.hid hx4
        have HO4 := Lib.hid ho4
        have HF4 := Lib.hid (FAt.mono (ok' := (w.heap.size < ·)) (fun y _ hg => Nat.lt_of_lt_of_le hsz hg) _ _ hf4)
        have HW4 := Lib.hid hW4
        have HHX := Lib.hid hX
        have hneX : ¬ X = b := by omega
        have hneX2 : ¬ w.heap.size = X := by omega
        clear o3 hfa h3 hx3 hbx hxx h4 ht4 hf4 hx4 ho4 hW4 hX hsz hX1
        unfold exprC
        go_upto_region 4 with fail
        rw [HHX.out, ← HW4.out]
        clear HHX HW4
        go_wp2_with fail
        refine HPL.out.mono ?_
        rintro e w5 ⟨rfl, o5, h5⟩
        have hx5 := HXX.out.keep o5.kept hneX
        have hr5 := HX4.out.keep o5.kept hne1
        have p0 := hx5.c0
        have p1 := hx5.c1
        have p2 := hx5.c2
        have p3 := hx5.c3
        have q0 := hr5.c0
        have q1 := hr5.c1
        have q2 := hr5.c2
        have q3 := hr5.c3
        have fr := hr5.fz
        have hne3 : ¬ b = w.heap.size := fun e => hne1 e.symm
        have HXF := Lib.hid (hr5.put (.int .i64 x.op) (.int .i64 x.num) (.string (S x.text)) (.slice q x.args.len c))
        have HOF := Lib.hid ((HO4.out.trans o5).put w.heap.size (Nat.le_refl _) (.int .i64 x.op) (.int .i64 x.num) (.string (S x.text)) (.slice q x.args.len c))
        have HPF := Lib.hid (h5.keep (Kept.put (ok := (· ≠ w.heap.size)) w5 w.heap.size (.int .i64 x.op) (.int .i64 x.num) (.string (S x.text)) (.slice q x.args.len c) (by simp)) hne3)
        have HFF := Lib.hid (fat_put HF4.out o5 hlt (.int .i64 x.op) (.int .i64 x.num) (.string (S x.text)) (.slice q x.args.len c))
        clear o5 h5 hx5 hr5
        go_wp2_with fail
        refine bodyPost_ret (res_expr rfl _ _ w.heap.size _ _ _ _ rfl HXF.out) rfl ?_
        exact ⟨HOF.out, q, c, rfl, HFF.out, HPF.out⟩
end Go.Proofs.YtlmmfhbdebfgkaaGreatDoor.Ex
namespace Go.Proofs.YtlmmfhbdebfgkaaGreatDoor.Ex
open Go.RowKit
open Lx Va
theorem str_le {t : List UInt8} (h : t.length ≤ 8001) : (S t).size ≤ 281474976710656 := by rw [S_size]; omega
theorem pfield_any (b g cap : Nat) (ts : List TA) (hE : Env b g ts) (s : St) (w : World) (h : Psr w b g cap ts.length s.at_ s.n s.open_) (ht : TsAt w g ts) (hs : StOk ts s) (hk1 : (tk ts s.at_).kind = 1) :
    Calls Tryz.prog 205 #[.pointer (some ⟨b, 0, none⟩)] w fun e w' => ResP b g cap ts w (fieldR ts s) e w' := by
  have hnx := hE.ends.next hs.at_ (by rw [hk1]; decide)
  have hlt := h.lt
  have hni : (s.at_ : Int) < 8001 := by have := hs.at_; have := hE.len; omega
  have hne1 : ¬ w.heap.size = b := by omega
  have hne2 : ¬ b = w.heap.size := by omega
  obtain ⟨W1, hW1⟩ : ∃ W1, W1 = (w.setCell ⟨b, 1, none⟩ (.int .i64 ((s.at_ : Int) + 1))).alloc (.cells #[.int .i64 0, .int .i64 0, .string ⟨#[]⟩, .slice none 0 0] 24) := ⟨_, rfl⟩
  have o0 := Only.set b w 1 (.int .i64 ((s.at_ : Int) + 1))
  have ba := (Below.refl _ (w.setCell ⟨b, 1, none⟩ (.int .i64 ((s.at_ : Int) + 1)))).alloc (Nat.le_refl _) (.cells #[.int .i64 0, .int .i64 0, .string ⟨#[]⟩, .slice none 0 0] 24)
  have h1 : Psr W1 b g cap ts.length ((s.at_ : Int) + 1) s.n s.open_ := by rw [hW1]; exact (h.set1 _).below ba
  have ht1 : TsAt W1 g ts := by rw [hW1]; exact (o0.ts ht hE.ne).below ba
  have hx1 : Bx W1 w.heap.size (.int .i64 0) (.int .i64 0) (.string ⟨#[]⟩) (.slice none 0 0) := by rw [hW1]; exact new_box _ _ _ _ (by simp)
  have ho1 : Only b w W1 := by rw [hW1]; exact o0.trans (Only.of_below ba)
  have c1 := h.c1
  have fz := h.fz
  have HW1 := Lib.hid hW1
  have HO1 := Lib.hid ho1
  have HX1 := Lib.hid hx1
  have H1 := Lib.hid h1
  have HT1 := Lib.hid ht1
  have HEE := Lib.hid hE
  have HS := Lib.hid hs
  unfold fieldR
  cases h46 : isS ts (s.at_ + 1) [46] with
  | false =>
    rw [if_neg (by decide)]
    have HP := Lib.hid (ppass_bad b g cap (s.at_ + 1) s.n s.open_ ts ⟨#[46]⟩ W1 h1 ht1 hnx hE.len (hE.toks _) h46)
    clear h ht hs o0 ba hW1 h1 ht1 hx1 ho1 hE hk1 hnx
    go_enter Tryz.func205, Tryz.ntmps205
    go_wp2_with fail
    rw [← HW1.out]
    refine HP.out.mono ?_
    rintro e w2 ⟨rfl, b2⟩
    have HO := Lib.hid (HO1.out.trans (Only.of_below (b := b) b2))
    clear b2
    unfold panS
    go_wp2_with fail
    exact ⟨rfl, HO.out, rfl⟩
  | true =>
    rw [if_pos rfl]
    have hnx2 := hE.ends.next hnx (isS_ne h46)
    have HP := Lib.hid (ppass_ok b g cap (s.at_ + 1) s.n s.open_ ts ⟨#[46]⟩ W1 h1 ht1 hnx hE.len (hE.toks _) h46)
    have HS2 := Lib.hid (show StOk ts ⟨s.at_ + 2, s.n, s.open_⟩ from ⟨hnx2, hs.n, hs.op⟩)
    have HTK := Lib.hid (hE.toks (s.at_ + 2))
    have HHR := Lib.hid (fun w2 (k : Psr w2 b g cap ts.length ((s.at_ + 2 : Nat) : Int) s.n s.open_) (kt : TsAt w2 g ts) => phere_any b g cap (s.at_ + 2) s.n s.open_ ts w2 k kt hnx2 hE.len (hE.toks _))
    have HLF := Lib.hid (fun w2 (k : Psr w2 b g cap ts.length ((s.at_ + 2 : Nat) : Int) s.n s.open_) => pleaf_any b g cap ts ⟨s.at_ + 2, s.n, s.open_⟩ 7 0 (tk ts (s.at_ + 2)).text w2 k HS2.out hE.len)
    have HWR := Lib.hid (fun w2 (k : Psr w2 b g cap ts.length ((s.at_ + 2 : Nat) : Int) s.n s.open_) => pwrong_any b g cap ts.length ((s.at_ + 2 : Nat) : Int) s.n s.open_ 25 w2 k)
    clear h ht hs o0 ba hW1 h1 ht1 hx1 ho1 hE hk1 hnx hnx2
    unfold tokC at HHR
    generalize tk ts (s.at_ + 2) = t at *
    obtain ⟨k, x, m, q⟩ := t
    simp only at HHR HLF ⊢
    by_cases hk : k = 1
    · rw [if_pos hk]
      have hx := nameS_len (HTK.out.name (.inl hk))
      have HCL := Lib.hid (fun W => strClone_any (S x) (str_le (by simp only at hx; omega)) W)
      subst hk
      clear hx
      unfold leafR at HLF ⊢
      simp only at HLF ⊢
      by_cases h200 : s.n = 200
      · rw [if_pos h200] at HLF ⊢
        go_enter Tryz.func205, Tryz.ntmps205
        go_wp2_with fail
        rw [← HW1.out]
        refine HP.out.mono ?_
        rintro e w2 ⟨rfl, o2, h2⟩
        have HT2 := Lib.hid (o2.ts HT1.out HEE.out.ne)
        have HO2 := Lib.hid (HO1.out.trans o2)
        have HX2 := Lib.hid (HX1.out.keep o2.kept hne1)
        have H2 := Lib.hid h2
        have HH2 := Lib.hid (HHR.out w2 h2 HT2.out)
        clear o2 h2 c1 fz
        go_wp2_with fail
        refine HH2.out.mono ?_
        rintro e w3 ⟨rfl, b3⟩
        have bt := b3.alloc b3.size (.cells #[.int .i64 1, .string (S x), .int .i64 m, .int .i64 (q : Int)] 79)
        have HC4 := Lib.hid (HCL.out (w3.alloc (.cells #[.int .i64 1, .string (S x), .int .i64 m, .int .i64 (q : Int)] 79)))
        have HB4 := Lib.hid bt
        clear b3 bt
        go_wp2_with fail
        refine HC4.out.mono ?_
        rintro e w5 ⟨rfl, b5⟩
        have b25 := HB4.out.trans (b5.mono HB4.out.size)
        have HL5 := Lib.hid (HLF.out w5 (H2.out.below b25))
        have HO5 := Lib.hid (HO2.out.trans (Only.of_below (b := b) b25))
        have HX5 := Lib.hid (laterB HX2.out b25)
        clear b5 b25
        go_wp2_with fail
        refine HL5.out.mono ?_
        rintro e w6 ⟨o6, rfl⟩
        have HO6 := Lib.hid (HO5.out.trans o6)
        clear o6
        unfold panS
        go_wp2_with fail
        exact ⟨rfl, HO6.out, rfl⟩
      · rw [if_neg h200] at HLF ⊢
        go_enter Tryz.func205, Tryz.ntmps205
        go_wp2_with fail
        rw [← HW1.out]
        refine HP.out.mono ?_
        rintro e w2 ⟨rfl, o2, h2⟩
        have HT2 := Lib.hid (o2.ts HT1.out HEE.out.ne)
        have HO2 := Lib.hid (HO1.out.trans o2)
        have HX2 := Lib.hid (HX1.out.keep o2.kept hne1)
        have H2 := Lib.hid h2
        have HH2 := Lib.hid (HHR.out w2 h2 HT2.out)
        clear o2 h2 c1 fz
        go_wp2_with fail
        refine HH2.out.mono ?_
        rintro e w3 ⟨rfl, b3⟩
        have bt := b3.alloc b3.size (.cells #[.int .i64 1, .string (S x), .int .i64 m, .int .i64 (q : Int)] 79)
        have HC4 := Lib.hid (HCL.out (w3.alloc (.cells #[.int .i64 1, .string (S x), .int .i64 m, .int .i64 (q : Int)] 79)))
        have HB4 := Lib.hid bt
        clear b3 bt
        go_wp2_with fail
        refine HC4.out.mono ?_
        rintro e w5 ⟨rfl, b5⟩
        have b25 := HB4.out.trans (b5.mono HB4.out.size)
        have HL5 := Lib.hid (HLF.out w5 (H2.out.below b25))
        have HO5 := Lib.hid (HO2.out.trans (Only.of_below (b := b) b25))
        have HX5 := Lib.hid (laterB HX2.out b25)
        clear b5 b25
        go_wp2_with fail
        refine HL5.out.mono ?_
        rintro e w6 ⟨o6, qa, ca, rfl, hfa, h6⟩
        have hx6 := HX5.out.keep o6.kept hne1
        have q0 := hx6.c0
        have q1 := hx6.c1
        have q2 := hx6.c2
        have q3 := hx6.c3
        have fx := hx6.fz
        have HXF := Lib.hid (hx6.put (.int .i64 7) (.int .i64 0) (.string (S x)) (.slice qa 0 ca))
        have HOF := Lib.hid ((HO5.out.trans o6).put w.heap.size (Nat.le_refl _) (.int .i64 7) (.int .i64 0) (.string (S x)) (.slice qa 0 ca))
        have HPF := Lib.hid (h6.keep (Kept.put (ok := (· ≠ w.heap.size)) w6 w.heap.size (.int .i64 7) (.int .i64 0) (.string (S x)) (.slice qa 0 ca) (by simp)) hne2)
        clear o6 hfa h6 hx6
        unfold exprC
        simp only [F.len]
        go_wp2_with fail
        refine bodyPost_ret (res_expr rfl _ _ w.heap.size _ _ _ _ rfl HXF.out) rfl ?_
        exact ⟨HOF.out, qa, ca, rfl, trivial, HPF.out⟩
    · rw [if_neg hk]
      have hk2 : (k != 1) = true := by simpa using hk
      clear hk HLF
      go_enter Tryz.func205, Tryz.ntmps205
      go_wp2_with fail
      rw [← HW1.out]
      refine HP.out.mono ?_
      rintro e w2 ⟨rfl, o2, h2⟩
      have HT2 := Lib.hid (o2.ts HT1.out HEE.out.ne)
      have HO2 := Lib.hid (HO1.out.trans o2)
      have H2 := Lib.hid h2
      have HH2 := Lib.hid (HHR.out w2 h2 HT2.out)
      clear o2 h2 c1 fz
      go_wp2_with fail
      refine HH2.out.mono ?_
      rintro e w3 ⟨rfl, b3⟩
      have bt := b3.alloc b3.size (.cells #[.int .i64 k, .string (S x), .int .i64 m, .int .i64 (q : Int)] 79)
      have HW4 := Lib.hid (HWR.out (w3.alloc (.cells #[.int .i64 k, .string (S x), .int .i64 m, .int .i64 (q : Int)] 79)) (H2.out.below bt))
      have HO4 := Lib.hid (HO2.out.trans (Only.of_below (b := b) bt))
      clear b3 bt
      go_wp2_with fail
      refine HW4.out.mono ?_
      rintro e w5 ⟨rfl, b5⟩
      have HO5 := Lib.hid (HO4.out.trans (Only.of_below (b := b) b5))
      clear b5
      go_wp2_with fail
      exact ⟨rfl, HO5.out, rfl⟩
end Go.Proofs.YtlmmfhbdebfgkaaGreatDoor.Ex
