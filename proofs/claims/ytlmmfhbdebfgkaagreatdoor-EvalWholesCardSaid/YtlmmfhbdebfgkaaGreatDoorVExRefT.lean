/-
  ExRefT.
-/
import Derived.Test.YtlmmfhbdebfgkaaGreatDoorVExRefQQ
set_option linter.unusedVariables false
set_option linter.unusedSimpArgs false
set_option maxRecDepth 100000
set_option maxHeartbeats 32000000
namespace Go.Proofs.YtlmmfhbdebfgkaaGreatDoor.Ex
open Go.RowKit
open Lx
def ElS (b g cap : Nat) (ts : List TA) (rec : St → R) (o1 B X : Nat) (FIN : R) (wr : World) : Prop :=
  ∃ q k c, Bx wr X (.int .i64 5) (.int .i64 0) (.string (S [])) (.slice q k c) ∧
    ((∃ xs s kk, XR wr B (.slice q k c) xs ∧ k = xs.length ∧ kk + xs.length = 18 ∧ xs.length ≤ 16 ∧ Rdg wr b g cap ts.length s.at_ s.n s.open_ 0 0 ∧ StOk ts s ∧ s.open_ = o1 ∧ elemsR rec ts kk (rowF xs) s = FIN) ∨
     (∃ er a : Nat, er ≠ 0 ∧ (∃ a' n' o', Rdg wr b g cap ts.length a' n' o' (er : Int) (a : Int)) ∧ FIN = .bad er a))
def ElRel (b g cap : Nat) (ts : List TA) (rec : St → R) (o1 X : Nat) (FIN : R) (w wr : World) : Prop :=
  Only b w wr ∧ X + 1 ≤ wr.heap.size ∧ (∃ a b c d, Bx wr w.heap.size a b c d) ∧ ElS b g cap ts rec o1 (X + 1) X FIN wr
def elM (b X : Nat) (w : World) : Nat := match w.cell? ⟨b, 4, none⟩, w.cell? ⟨X, 3, none⟩ with
  | some (.int _ e), some (.slice _ k _) => if e = 0 then 40 - k else 0
  | _, _ => 0
theorem elM_at {b g cap len X : Nat} {w : World} {a n o bad f : Int} {x0 x1 x2 : Value} {q : Option Addr} {k c : Nat} (h : Rdg w b g cap len a n o bad f) (hx : Bx w X x0 x1 x2 (.slice q k c)) : elM b X w = if bad = 0 then 40 - k else 0 := by
  unfold elM
  rw [h.c4, hx.c3]
theorem el_next_ok {b g cap : Nat} {ts : List TA} {rec : St → R} {o1 X kk : Nat} {FIN : R} {w5 w6 : World} {xs : List Ex.X} {c c2 : Nat} {q p qy : Option Addr} {cy : Nat} {y : T} {s1 s4 : St}
    (hbx : Bx (w6.setCell ⟨X, 3, none⟩ (.slice p (xs.length + 1) c2)) X (.int .i64 5) (.int .i64 0) (.string (S [])) (.slice p (xs.length + 1) c2)) (hb : b < X) (hap : ApR b (X + 1) w5 (.slice q xs.length c) xs.length y.op y.num y.text qy y.args.len cy p c2 w6)
    (hxr : XR w6 (X + 1) (.slice p (xs.length + 1) c2) (xs ++ [⟨y, qy, cy⟩])) (hrd : Rdg w5 b g cap ts.length s4.at_ s4.n s4.open_ 0 0) (hr : rec s1 = .ok y s4) (hadv : Adv ts s1 s4 s1.open_) (ho : s1.open_ = o1) (ho20 : o1 ≤ 20) (hk : kk + 1 + xs.length = 18) (hlt : xs.length < 16)
    (hfin : ((rec s1).then fun y s4 => elemsR rec ts kk ((rowF xs).snoc y) s4) = FIN) : ElS b g cap ts rec o1 (X + 1) X FIN (w6.setCell ⟨X, 3, none⟩ (.slice p (xs.length + 1) c2)) ∧ elM b X (w6.setCell ⟨X, 3, none⟩ (.slice p (xs.length + 1) c2)) < 40 - xs.length := by
  rw [hr] at hfin
  have hrd2 := (hrd.keep (Kept.low hap.below (Nat.le_of_lt hap.size)) (show b < X + 1 by omega)).keep (Kept.set (ok := (· ≠ X)) _ X 3 (.slice p (xs.length + 1) c2) (by simp)) (show b ≠ X by omega)
  refine ⟨⟨p, xs.length + 1, c2, hbx, .inl ⟨xs ++ [⟨y, qy, cy⟩], s4, kk, hxr.later (Kept.set _ X 3 _ (by omega)), by simp, by simp; omega, by simp; omega, hrd2, hadv.ok (by omega), by rw [hadv.op, ho], ?_⟩⟩, ?_⟩
  · rw [rowF_snoc]
    exact hfin
  · rw [elM_at hrd2 hbx, if_pos rfl]
    omega
theorem el_next_bad {b g cap : Nat} {ts : List TA} {rec : St → R} {o1 X : Nat} {FIN : R} {w5 w6 : World} {k' kk c2 : Nat} {v : Value} {p qy : Option Addr} {cy : Nat} {o m : Int} {tx : List UInt8} {er a : Nat} {a' n' o' : Int}
    (hbx : Bx (w6.setCell ⟨X, 3, none⟩ (.slice p (kk + 1) c2)) X (.int .i64 5) (.int .i64 0) (.string (S [])) (.slice p (kk + 1) c2)) (hb : b < X) (hap : ApR b (X + 1) w5 v kk o m tx qy k' cy p c2 w6)
    (hrd : Rdg w5 b g cap ts.length a' n' o' (er : Int) (a : Int)) (her : er ≠ 0) (hfin : FIN = .bad er a) (hk : kk ≤ 16) : ElS b g cap ts rec o1 (X + 1) X FIN (w6.setCell ⟨X, 3, none⟩ (.slice p (kk + 1) c2)) ∧ elM b X (w6.setCell ⟨X, 3, none⟩ (.slice p (kk + 1) c2)) < 40 - kk := by
  have hrd2 := (hrd.keep (Kept.low hap.below (Nat.le_of_lt hap.size)) (show b < X + 1 by omega)).keep (Kept.set (ok := (· ≠ X)) _ X 3 (.slice p (kk + 1) c2) (by simp)) (show b ≠ X by omega)
  refine ⟨⟨p, kk + 1, c2, hbx, .inr ⟨er, a, her, ⟨a', n', o', hrd2⟩, hfin⟩⟩, ?_⟩
  rw [elM_at hrd2 hbx, if_neg (by omega)]
  omega
theorem rprim_list (b g cap : Nat) (ts : List TA) (s : St) (w : World) (h : Rdg w b g cap ts.length s.at_ s.n s.open_ 0 0) (ht : TsAt w g ts) (hg : g ≠ b) (hs : StOk ts s) (hn : ts.length ≤ 8001) (he : Ends ts) (rec : St → R) (hrk : RecOk ts rec) (hu : isS ts s.at_ [91] = true)
    (HR : ∀ s1 : St, StOk ts s1 → s1.open_ = s.open_ + 1 → ∀ w1, Rdg w1 b g cap ts.length s1.at_ s1.n s1.open_ 0 0 → TsAt w1 g ts → Calls Tryz.prog 83 #[.pointer (some ⟨b, 0, none⟩), .int .i64 0] w1 fun e w' => ResA b g cap ts w1 (rec s1) e w') :
    Calls Tryz.prog 172 #[.pointer (some ⟨b, 0, none⟩)] w fun e w' => ResA b g cap ts w (enterR s fun s1 => elemsR rec ts 18 .nil s1) e w' := by
  obtain ⟨FIN, hFIN⟩ : ∃ F, (enterR s fun s1 => elemsR rec ts 18 .nil s1) = F := ⟨_, rfl⟩
  rw [hFIN]
  unfold enterR at hFIN
  have HFIN := Lib.hid hFIN
  clear hFIN
  have hv : isS ts s.at_ [40] = false := by
    unfold isS
    rw [(isS_kind hu).1, (isS_kind hu).2]
    rfl
  have HREC := Lib.hid HR
  have HRK := Lib.hid hrk
  have HE := Lib.hid he
  have HK := Lib.hid (isS_kind hu).1
  have HNX := Lib.hid (he.next hs.at_ (isS_ne hu))
  have HIS := Lib.hid (fun (w1 : World) (k1 : Rdg w1 b g cap ts.length s.at_ s.n s.open_ 0 0) (k2 : TsAt w1 g ts) => show Calls Tryz.prog 171 #[.pointer (some ⟨b, 0, none⟩), .string ⟨#[40]⟩] w1 fun e w' => e = .returned (.bool (isS ts s.at_ [40])) ∧ Below w1.heap.size w1 w' from ris_any b g cap s.at_ s.n s.open_ 0 0 ts ⟨#[40]⟩ w1 k1 k2 hs.at_ hn)
  rw [hv] at HIS
  have HIT := Lib.hid (fun (w1 : World) (k1 : Rdg w1 b g cap ts.length s.at_ s.n s.open_ 0 0) (k2 : TsAt w1 g ts) => show Calls Tryz.prog 171 #[.pointer (some ⟨b, 0, none⟩), .string ⟨#[91]⟩] w1 fun e w' => e = .returned (.bool (isS ts s.at_ [91])) ∧ Below w1.heap.size w1 w' from ris_any b g cap s.at_ s.n s.open_ 0 0 ts ⟨#[91]⟩ w1 k1 k2 hs.at_ hn)
  rw [hu] at HIT
  clear HR hrk hu he hv
  have H := Lib.hid h
  have HS := Lib.hid hs
  have HT := Lib.hid ht
  have HG := Lib.hid hg
  have HN := Lib.hid hn
  have hlt := h.lt
  have hgl := ht.lt
  have hne : ¬ b = w.heap.size := by omega
  have hne2 : ¬ w.heap.size = b := by omega
  have hne3 : ¬ w.heap.size + 1 = b := by omega
  have hai : (s.at_ : Int) < (ts.length : Int) := by have := hs.at_; omega
  have hni : (ts.length : Int) ≤ 8001 := by omega
  have c0 := h.c0
  have c1 := h.c1
  obtain ⟨t0, t1, t2, t3⟩ := ht.tok hs.at_
  have zb : ∀ o j, (w.alloc o).cell? ⟨b, j, none⟩ = w.cell? ⟨b, j, none⟩ := fun o j => Kept.cell (Kept.alloc (ok := fun _ => True) w o) trivial hlt
  have zg : ∀ o j, (w.alloc o).cell? ⟨g, j, none⟩ = w.cell? ⟨g, j, none⟩ := fun o j => Kept.cell (Kept.alloc (ok := fun _ => True) w o) trivial hgl
  have HPN := Lib.hid (prS_new h)
  clear h ht hs hn hg
  go_enter Tryz.func172, Tryz.ntmps172
  go_upto_region 1 with fail
  go_cut [3] (fun x3 wx => x3 = .pointer (some ⟨w.heap.size + 1, 0, none⟩) ∧ PrS b g cap ts s w wx)
  case first =>
    go_region_with (fail)
    all_goals
      go_wp2_with fail
      go_meet
      exact ⟨rfl, HPN.out⟩
  case rest =>
    obtain ⟨rfl, hP⟩ := hcut
    have HP := Lib.hid hP
    have k0 := hP.tok.c0
    have k1 := hP.tok.c1
    have k2 := hP.tok.c2
    clear hP c0 c1 t0 t1 t2 t3 zb zg HPN
    rw [HK.out] at k0
    have HOU := Lib.hid (fun (w1 : World) (k1 : Rdg w1 b g cap ts.length s.at_ s.n s.open_ 0 0) => ropens_u b g cap ts.length s.at_ s.n s.open_ w1 k1 HS.out.op)
    have HNO := Lib.hid (fun (w1 : World) (o bad f : Int) (k1 : Rdg w1 b g cap ts.length s.at_ s.n o bad f) (k2 : bad = 0 → f = 0) => rnode_u b g cap ts.length s.at_ o bad f s.n w1 k1 HS.out.n k2)
    obtain ⟨A1, hA1⟩ : ∃ A1 : Int, A1 = ((s.at_ + 1 : Nat) : Int) := ⟨_, rfl⟩
    have HE1 := Lib.hid hA1
    have HA := Lib.hid (show (s.at_ : Int) + 1 = A1 by omega)
    clear hA1
    go_wp2_with fail
    refine (HIS.out _ HP.out.rdg (HP.out.only.ts HT.out HG.out)).mono ?_
    rintro e v2 ⟨rfl, b2⟩
    have HB1 := Lib.hid (HP.out.box.keep (Kept.of_below (ok := fun _ => True) b2) trivial)
    have HR1 := Lib.hid (HP.out.rdg.below b2)
    have HO1 := Lib.hid (HP.out.only.trans (Only.of_below b2))
    have HZ1 := Lib.hid (show w.heap.size + 2 ≤ v2.heap.size by have := HP.out.size; have := b2.size; omega)
    clear b2 k1 k2
    go_wp2_with fail
    refine (HIT.out _ HR1.out (HO1.out.ts HT.out HG.out)).mono ?_
    rintro e w2 ⟨rfl, b2⟩
    obtain ⟨X, hX⟩ : ∃ X, w2.heap.size = X := ⟨_, rfl⟩
    have hz2 : w.heap.size + 2 ≤ X := by have := HZ1.out; have := b2.size; omega
    have HB2 := Lib.hid ((HB1.out.keep (Kept.of_below (ok := fun _ => True) b2) trivial).keep (Kept.alloc (ok := fun _ => True) w2 (.cells #[.int .i64 5, .int .i64 0, .string ⟨#[]⟩, .slice none 0 0] 24)) trivial)
    have HR2 := Lib.hid ((HR1.out.below b2).keep (Kept.alloc (ok := fun _ => True) w2 (.cells #[.int .i64 5, .int .i64 0, .string ⟨#[]⟩, .slice none 0 0] 24)) trivial)
    have HO2 := Lib.hid ((HO1.out.trans (Only.of_below b2)).alloc (.cells #[.int .i64 5, .int .i64 0, .string ⟨#[]⟩, .slice none 0 0] 24))
    have hx2 := Bx.new w2 (.int .i64 5) (.int .i64 0) (.string ⟨#[]⟩) (.slice none 0 0)
    rw [hX] at hx2
    have HX2 := Lib.hid hx2
    have HZ2 := Lib.hid (show X + 1 ≤ (w2.alloc (.cells #[.int .i64 5, .int .i64 0, .string ⟨#[]⟩, .slice none 0 0] 24)).heap.size by simp; omega)
    have hXb : ¬ X = b := by omega
    have hbX : ¬ b = X := by omega
    have hXH : ¬ X = w.heap.size := by omega
    have hHX : ¬ w.heap.size = X := by omega
    clear b2 hx2
    go_wp2_with fail
    refine (HOU.out _ HR2.out).mono ?_
    rintro e w3 ⟨rfl, o3, oo, bad3, f3, r3, hc3⟩
    have HR3 := Lib.hid r3
    have HB3 := Lib.hid (HB2.out.keep o3.kept hne2)
    have HX3 := Lib.hid (HX2.out.keep o3.kept hXb)
    have HO3 := Lib.hid (HO2.out.trans o3)
    have HZ3 := Lib.hid (Nat.le_trans HZ2.out o3.size)
    have HC3 := Lib.hid hc3
    clear o3 r3 hc3
    go_wp2_with fail
    refine (HNO.out _ _ _ _ HR3.out (by rcases HC3.out with ⟨_, _, _, h⟩ | ⟨_, h, _⟩ <;> intro h0 <;> omega)).mono ?_
    rintro e w4 ⟨rfl, o4, nn, bad4, f4, r4, hc4⟩
    have a1 := r4.c1
    have az := r4.fz
    have O4 : Only b w4 (w4.setCell ⟨b, 1, none⟩ (.int .i64 A1)) := Only.set b w4 1 _
    have hR4 := r4.set1 A1
    have HR4 := Lib.hid hR4
    have HB4 := Lib.hid ((HB3.out.keep o4.kept hne2).keep O4.kept hne2)
    have HX4 := Lib.hid ((HX3.out.keep o4.kept hXb).keep O4.kept hXb)
    have HO4 := Lib.hid ((HO3.out.trans o4).trans O4)
    have HZ4 := Lib.hid (Nat.le_trans (Nat.le_trans HZ3.out o4.size) O4.size)
    have hfin := HFIN.out
    have HCL : Hid (ElS b g cap ts rec (s.open_ + 1) (X + 1) X FIN (w4.setCell ⟨b, 1, none⟩ (.int .i64 A1))) := by
      refine Lib.hid ⟨none, 0, 0, HX4.out, ?_⟩
      have hN0 := HS.out.n
      rcases HC3.out with ⟨h20, rfl, rfl, rfl⟩ | ⟨h20, rfl, rfl⟩
      · rw [if_neg (by omega)] at hfin
        rcases hc4 with ⟨hb, _⟩ | ⟨_, h200, rfl, rfl, rfl⟩ | ⟨_, h200, rfl, rfl⟩
        · exact absurd rfl hb
        · rw [if_neg (by omega)] at hfin
          have h5 : Rdg (w4.setCell ⟨b, 1, none⟩ (.int .i64 A1)) b g cap ts.length ((s.at_ + 1 : Nat) : Int) ((s.n + 1 : Nat) : Int) ((s.open_ + 1 : Nat) : Int) 0 0 := by rw [← HE1.out]; exact hR4
          exact .inl ⟨[], ⟨s.at_ + 1, s.n + 1, s.open_ + 1⟩, 18, XR.nil _ _, rfl, rfl, by simp, h5, ⟨HNX.out, by simp; omega, by simp; omega⟩, rfl, hfin⟩
        · rw [if_pos h200] at hfin
          exact .inr ⟨27, s.at_, by decide, ⟨_, _, _, hR4⟩, hfin.symm⟩
      · rw [if_pos h20] at hfin
        rcases hc4 with ⟨hb, rfl, rfl⟩ | ⟨hb, _⟩ | ⟨hb, _⟩
        · exact .inr ⟨26, s.at_, by decide, ⟨_, _, _, hR4⟩, hfin.symm⟩
        · omega
        · omega
    clear o4 r4 hc4 O4 hfin hR4
    go_wp2_with fail
    try rw [HA.out]
    go_loopw [206] (fun x wr => ElRel b g cap ts rec (s.open_ + 1) X FIN w wr) (fun x wr => elM b X wr)
    case atStart => exact ⟨HO4.out, HZ4.out, ⟨_, _, _, _, HB4.out⟩, HCL.out⟩
    case round =>
      obtain ⟨hO, hsz, ⟨ha, hb, hc, hd, hh⟩, q, k, c, hx, hcase⟩ := hrel
      have HTS := Lib.hid (hO.ts HT.out HG.out)
      rcases hcase with ⟨xs, s2, kk, hxr, rfl, hkk, h16, hrd, hs2, ho2, hfin⟩ | ⟨er, a, her, ⟨a', n', o', hrd⟩, hfin⟩
      · have d4 := hrd.c4
        have HMZ := Lib.hid (elM_at hrd hx)
        have HHR := Lib.hid hh
        have HXS := Lib.hid hx
        have HOR := Lib.hid hO
        have HSR := Lib.hid hsz
        have HXP := Lib.hid hxr
        have HRR := Lib.hid hrd
        have HSO := Lib.hid hs2
        have HOP2 := Lib.hid ho2
        have HLEN := Lib.hid h16
        have HI3 := Lib.hid (show Calls Tryz.prog 171 #[.pointer (some ⟨b, 0, none⟩), .string ⟨#[93]⟩] wr fun e w' => e = .returned (.bool (isS ts s2.at_ [93])) ∧ Below wr.heap.size wr w' from ris_any b g cap s2.at_ s2.n s2.open_ 0 0 ts ⟨#[93]⟩ wr hrd HTS.out hs2.at_ HN.out)
        obtain ⟨kk, rfl⟩ : ∃ k2, kk = k2 + 1 := ⟨kk - 1, by omega⟩
        unfold elemsR at hfin
        cases hcl : isS ts s2.at_ [93] with
        | true =>
          rw [hcl] at HI3
          rw [if_pos hcl] at hfin
          have HDN := Lib.hid (show leaveR ts [93] ⟨5, 0, [], rowF xs⟩ s2 = FIN by unfold leaveR; rw [if_pos hcl]; exact hfin)
          clear hh hx hO hrd hs2 hxr hfin ho2 hcl hsz
          go_wp2_with fail
          refine HI3.out.mono ?_
          rintro e v1 ⟨rfl, b1⟩
          have HHH := Lib.hid (HHR.out.keep (Kept.of_below (ok := fun _ => True) b1) trivial)
          have HXX := Lib.hid (HXS.out.keep (Kept.of_below (ok := fun _ => True) b1) trivial)
          have HOO := Lib.hid (HOR.out.trans (Only.of_below b1))
          have HRD := Lib.hid (HRR.out.below b1)
          have HTS := Lib.hid (HTS.out.below b1)
          have HXR := Lib.hid (HXP.out.later (Kept.of_below b1))
          clear b1
          have hoi : (s2.open_ : Int) ≤ 20 := by have := HSO.out.op; omega
          have hoj : (1 : Int) ≤ (s2.open_ : Int) := by have := HOP2.out; omega
          have HFAT := Lib.hid (HXR.out.fat)
          have HTK := Lib.hid (rtake_u b g cap ts ⟨#[93]⟩ _ _ _ _ _ _ HRD.out HTS.out HN.out (fun _ => ⟨rfl, s2.at_, rfl, HSO.out.at_⟩))
          go_wp2_with fail
          refine HTK.out.mono ?_
          rintro e w2 ⟨rfl, o2, a2, bad2, f2, r2, hc2⟩
          have hh := HHH.out.keep o2.kept hne2
          have hx := HXX.out.keep o2.kept hXb
          have f5 := hh.fz
          have p0 := hh.c0
          have p1 := hh.c1
          have p2 := hh.c2
          have p3 := hh.c3
          have y0 := hx.c0
          have y1 := hx.c1
          have y2 := hx.c2
          have y3 := hx.c3
          have a3 := r2.c3
          have az := r2.fz
          have HHF := Lib.hid hh
          have HRF := Lib.hid r2
          have HCF := Lib.hid hc2
          have HO2 := Lib.hid o2
          clear hh hx r2 hc2 o2
          go_wp2_with fail
          refine bodyPost_ret (res_expr rfl _ _ w.heap.size _ _ _ _ rfl (endW_bx (b := b) HHF.out hne2)) rfl ?_
          refine ⟨endW_only (HOO.out.trans HO2.out) (Nat.le_refl _), 5, 0, [], q, _, c, rfl, ?_⟩
          have hf2 := (HFAT.out.keep (HO2.out.keptB (show ¬ X + 1 ≤ b by omega))).keep (endW_kept (H := w.heap.size) (v := (s2.open_ : Int) - 1) (op := 5) (q := q) (k := xs.length) (c := c) (show ¬ X + 1 ≤ b by omega) (show ¬ X + 1 ≤ w.heap.size by omega))
          refine end_post (sign := [93]) HDN.out rfl (FAt.mono (fun g _ hg => by have h1 : X + 1 ≤ g := hg; show w.heap.size ≤ g; omega) _ _ hf2) (endW_rdg HRF.out hne) rfl (by have := HOP2.out; omega) ?_
          rcases HCF.out with ⟨h0, _⟩ | ⟨_, kx, hkx, _, hcx⟩
          · exact absurd rfl h0
          · obtain rfl : kx = s2.at_ := by omega
            exact hcx
        | false =>
          rw [hcl] at HI3
          rw [if_neg (by rw [hcl]; decide)] at hfin
          have HO20 := Lib.hid (show s.open_ + 1 ≤ 20 by have := hs2.op; omega)
          rw [rowF_len] at hfin
          by_cases hx0 : xs.length = 0
          · rw [if_pos hx0] at hfin
            have hi0 : ¬ (0 : Int) < (xs.length : Int) := by omega
            have hi16 : ((xs.length : Int) == 16) = false := by rw [beq_eq_false_iff_ne]; omega
            have hl16 : xs.length < 16 := by omega
            have HFN := Lib.hid hfin
            have HSW := HSO
            have HOPW := HOP2
            clear hh hx hO hrd hs2 hxr hfin ho2 hcl hx0 hsz
            cases hr : rec s2 with
            | ok y s4 =>
              go_wp2_with fail
              refine HI3.out.mono ?_
              rintro e v1 ⟨rfl, b1⟩
              have HHW := Lib.hid (HHR.out.keep (Kept.of_below (ok := fun _ => True) b1) trivial)
              have HXW := Lib.hid (HXS.out.keep (Kept.of_below (ok := fun _ => True) b1) trivial)
              have HOW := Lib.hid (HOR.out.trans (Only.of_below b1))
              have HRW := Lib.hid (HRR.out.below b1)
              have HTW := Lib.hid (HTS.out.below b1)
              have HXRW := Lib.hid (HXP.out.later (Kept.of_below b1))
              have HSZW := Lib.hid (Nat.le_trans HSR.out b1.size)
              clear b1
              have HAP := Lib.hid (fun w5 (o5 : Only b (v1).drew w5) qy cy hfy => ap_ok b (X + 1) (.slice q xs.length c) xs (v1).drew w5 HSZW.out (HXRW.out.later (Kept.of_below (Below.refl _ _).drew)) (by have := HLEN.out; omega) o5 (by omega) y qy cy hfy)
              have HLV := Lib.hid (HREC.out s2 HSW.out HOPW.out (v1).drew HRW.out (HTW.out.below (Below.refl _ _).drew))
              rw [hr] at HLV
              have y5 := HXW.out.fz
              have y3 := HXW.out.c3
              have d4w := HRW.out.c4
              go_wp2_with fail
              go_region_law (first
                | (refine step_appR rfl _ _ _ _ rfl rfl rfl _ _ hap.run ?_)
                | (go_simp; go_at_call 83; refine HLV.out.mono ?_; rintro e w5 ⟨o5, oy, ny, ty, qy, ky, cy, rfl, hp⟩; obtain ⟨e1, e2, e3, e4, hfy, hrd5⟩ := hp; subst e1 e2 e3 e4; obtain ⟨p, c2, w6, hap, hxr6⟩ := HAP.out w5 o5 qy cy hfy; have hx5 := HXW.out.keep (w' := w5) (Kept.trans (Kept.of_below (Below.refl _ _).drew) o5.kept) hXb; have hx6 := hx5.keep (Kept.low hap.below (Nat.le_of_lt hap.size)) (show X < X + 1 by omega); have zx5 : ∀ o j, (w5.alloc o).cell? ⟨X, j, none⟩ = w5.cell? ⟨X, j, none⟩ := fun o j => Kept.cell (Kept.alloc (ok := fun _ => True) w5 o) trivial hx5.lt; have k3 := hx5.c3; have k6 := hx6.c3; have kz := hx6.fz; have HCM := Lib.hid (ap_common (HOW.out.trans (Only.of_below (Below.refl _ _).drew)) (by omega) HSZW.out hlt HHW.out HXW.out o5 hap); have HCN := Lib.hid (el_next_ok (o1 := s.open_ + 1) (kk := kk) HCM.out.2.2.2 (by omega) hap hxr6 hrd5 hr (HRK.out _ _ _ HSW.out hr) HOPW.out HO20.out hkk hl16 HFN.out)))
              all_goals
                try simp only [Exit.inBlock]
                go_wp2_with fail
                go_roundw
                case rel => exact ⟨HCM.out.1, HCM.out.2.1, HCM.out.2.2.1, HCN.out.1⟩
                case measure =>
                  have hm : elM b X wr = 40 - xs.length := by simpa using HMZ.out
                  rw [hm]
                  exact HCN.out.2
            | bad er a =>
              have HFB := Lib.hid (show FIN = .bad er a by rw [← HFN.out, hr]; rfl)
              go_wp2_with fail
              refine HI3.out.mono ?_
              rintro e v1 ⟨rfl, b1⟩
              have HHW := Lib.hid (HHR.out.keep (Kept.of_below (ok := fun _ => True) b1) trivial)
              have HXW := Lib.hid (HXS.out.keep (Kept.of_below (ok := fun _ => True) b1) trivial)
              have HOW := Lib.hid (HOR.out.trans (Only.of_below b1))
              have HRW := Lib.hid (HRR.out.below b1)
              have HTW := Lib.hid (HTS.out.below b1)
              have HXRW := Lib.hid (HXP.out.later (Kept.of_below b1))
              have HSZW := Lib.hid (Nat.le_trans HSR.out b1.size)
              clear b1
              have HAP := Lib.hid (fun w5 (o5 : Only b (v1).drew w5) o m t qy kk cy => ap_bad b (X + 1) (.slice q xs.length c) xs (v1).drew w5 HSZW.out (HXRW.out.later (Kept.of_below (Below.refl _ _).drew)) (by have := HLEN.out; omega) o5 (by omega) o m t qy kk cy)
              have HLV := Lib.hid (HREC.out s2 HSW.out HOPW.out (v1).drew HRW.out (HTW.out.below (Below.refl _ _).drew))
              rw [hr] at HLV
              have y5 := HXW.out.fz
              have y3 := HXW.out.c3
              have d4w := HRW.out.c4
              go_wp2_with fail
              go_region_law (first
                | (refine step_appR rfl _ _ _ _ rfl rfl rfl _ _ hap.run ?_)
                | (go_simp; go_at_call 83; refine HLV.out.mono ?_; rintro e w5 ⟨o5, oy, ny, ty, qy, ky, cy, rfl, hp⟩; obtain ⟨her5, a5, n5, oo5, hrd5⟩ := hp; obtain ⟨p, c2, w6, hap⟩ := HAP.out w5 o5 oy ny ty qy ky cy; have hx5 := HXW.out.keep (w' := w5) (Kept.trans (Kept.of_below (Below.refl _ _).drew) o5.kept) hXb; have hx6 := hx5.keep (Kept.low hap.below (Nat.le_of_lt hap.size)) (show X < X + 1 by omega); have zx5 : ∀ o j, (w5.alloc o).cell? ⟨X, j, none⟩ = w5.cell? ⟨X, j, none⟩ := fun o j => Kept.cell (Kept.alloc (ok := fun _ => True) w5 o) trivial hx5.lt; have k3 := hx5.c3; have k6 := hx6.c3; have kz := hx6.fz; have HCM := Lib.hid (ap_common (HOW.out.trans (Only.of_below (Below.refl _ _).drew)) (by omega) HSZW.out hlt HHW.out HXW.out o5 hap); have HCN := Lib.hid (el_next_bad (rec := rec) (ts := ts) (o1 := s.open_ + 1) HCM.out.2.2.2 (by omega) hap hrd5 her5 HFB.out HLEN.out)))
              all_goals
                try simp only [Exit.inBlock]
                go_wp2_with fail
                go_roundw
                case rel => exact ⟨HCM.out.1, HCM.out.2.1, HCM.out.2.2.1, HCN.out.1⟩
                case measure =>
                  have hm : elM b X wr = 40 - xs.length := by simpa using HMZ.out
                  rw [hm]
                  exact HCN.out.2
          · rw [if_neg hx0] at hfin
            have hi0 : (0 : Int) < (xs.length : Int) := by omega
            cases hcm : isS ts s2.at_ [44] with
            | false =>
              rw [if_neg (by rw [hcm]; decide)] at hfin
              have HFN := Lib.hid hfin
              have HTK := Lib.hid (fun (w1 : World) (b1 : Below wr.heap.size wr w1) => rtake_no b g cap s2.at_ s2.n s2.open_ 0 ts ⟨#[44]⟩ w1 (hrd.below b1) (HTS.out.below b1) hs2.at_ HN.out hcm)
              clear hh hx hO hrd hs2 hxr hfin ho2 hcl hx0 hcm hsz
              go_wp2_with fail
              refine HI3.out.mono ?_
              rintro e v1 ⟨rfl, b1⟩
              have HHH := Lib.hid (HHR.out.keep (Kept.of_below (ok := fun _ => True) b1) trivial)
              have HXX := Lib.hid (HXS.out.keep (Kept.of_below (ok := fun _ => True) b1) trivial)
              have HOO := Lib.hid (HOR.out.trans (Only.of_below b1))
              have HSZ := Lib.hid (Nat.le_trans HSR.out b1.size)
              have y3 := HXX.out.c3
              have HB1 := Lib.hid b1
              clear b1
              go_wp2_with fail
              refine (HTK.out _ HB1.out).mono ?_
              rintro e w2 ⟨rfl, r2, o2⟩
              have d4w := r2.c4
              have HR2F := Lib.hid r2
              have HO2F := Lib.hid o2
              clear r2 o2
              go_wp2_with fail
              have HBXN := Lib.hid (HXX.out.keep HO2F.out.kept hXb)
              go_roundw
              case rel => exact ⟨HOO.out.trans HO2F.out, Nat.le_trans HSZ.out HO2F.out.size, ⟨_, _, _, _, HHH.out.keep HO2F.out.kept hne2⟩, q, xs.length, c, HBXN.out, .inr ⟨25, s2.at_, by decide, ⟨_, _, _, HR2F.out⟩, HFN.out.symm⟩⟩
              case measure =>
                have hm : elM b X wr = 40 - xs.length := by simpa using HMZ.out
                have hm2 := elM_at HR2F.out HBXN.out
                rw [if_neg (by decide)] at hm2
                rw [hm, hm2]
                omega
            | true =>
              rw [if_pos hcm] at hfin
              have HSW := Lib.hid (show StOk ts ⟨s2.at_ + 1, s2.n, s2.open_⟩ from ⟨HE.out.next hs2.at_ (isS_ne hcm), hs2.n, hs2.op⟩)
              have HOPW := HOP2
              have HTK := Lib.hid (fun (w1 : World) (b1 : Below wr.heap.size wr w1) => rtake_ok b g cap s2.at_ s2.n s2.open_ 0 ts ⟨#[44]⟩ w1 (hrd.below b1) (HTS.out.below b1) hs2.at_ HN.out hcm)
              by_cases h16e : xs.length = 16
              · rw [if_pos h16e] at hfin
                have hi16 : ((xs.length : Int) == 16) = true := by rw [beq_iff_eq]; omega
                have HBG := Lib.hid (fun (w1 : World) (k1 : Rdg w1 b g cap ts.length (s2.at_ + 1 : Nat) s2.n s2.open_ 0 0) (k2 : TsAt w1 g ts) => rbegins_any b g cap (s2.at_ + 1) s2.n s2.open_ 0 0 ts w1 k1 k2 HSW.out.at_ HN.out)
                clear hh hx hO hrd hs2 hxr ho2 hcl hx0 hcm hsz h16e
                cases hbg : begins ts (s2.at_ + 1) with
                | true =>
                  rw [hbg] at HBG
                  rw [if_pos hbg] at hfin
                  have HFN := Lib.hid hfin
                  have HFA := Lib.hid (fun (w1 : World) (k1 : Rdg w1 b g cap ts.length (s2.at_ + 1 : Nat) s2.n s2.open_ 0 0) => rfail_any b g cap ts.length (s2.at_ + 1 : Nat) s2.n s2.open_ 0 27 w1 k1)
                  clear hbg hfin
                  go_wp2_with fail
                  refine HI3.out.mono ?_
                  rintro e v1 ⟨rfl, b1⟩
                  have HHV := Lib.hid (HHR.out.keep (Kept.of_below (ok := fun _ => True) b1) trivial)
                  have HXV := Lib.hid (HXS.out.keep (Kept.of_below (ok := fun _ => True) b1) trivial)
                  have HOV := Lib.hid (HOR.out.trans (Only.of_below b1))
                  have HXRV := Lib.hid (HXP.out.later (Kept.of_below b1))
                  have HSZV := Lib.hid (Nat.le_trans HSR.out b1.size)
                  have HTV := Lib.hid (HTS.out.below b1)
                  have y3 := HXV.out.c3
                  have HB1 := Lib.hid b1
                  clear b1
                  go_wp2_with fail
                  refine (HTK.out _ HB1.out).mono ?_
                  rintro e w2 ⟨rfl, r2, o2⟩
                  have HXRW := Lib.hid (HXRV.out.later (o2.keptB (show ¬ X + 1 ≤ b by omega)))
                  have HOW := Lib.hid (HOV.out.trans o2)
                  have HHW := Lib.hid (HHV.out.keep o2.kept hne2)
                  have HXW := Lib.hid (HXV.out.keep o2.kept hXb)
                  have HRW := Lib.hid r2
                  have HTW := Lib.hid (o2.ts HTV.out HG.out)
                  have HSZW := Lib.hid (Nat.le_trans HSZV.out o2.size)
                  clear r2 o2
                  have y3w := HXW.out.c3
                  have d4w := HRW.out.c4
                  go_wp2_with fail
                  refine (HBG.out _ HRW.out HTW.out).mono ?_
                  rintro e w3 ⟨rfl, b3⟩
                  have HB3 := Lib.hid (HHW.out.keep (Kept.of_below (ok := fun _ => True) b3) trivial)
                  have HR3 := Lib.hid (HRW.out.below b3)
                  have HO3 := Lib.hid (HOW.out.trans (Only.of_below b3))
                  clear b3
                  go_wp2_with fail
                  refine (HFA.out _ HR3.out).mono ?_
                  rintro e w4 ⟨rfl, r4, o4⟩
                  have hb4 := HB3.out.keep o4.kept hne2
                  have p0 := hb4.c0
                  have p1 := hb4.c1
                  have p2 := hb4.c2
                  have p3 := hb4.c3
                  have pz := hb4.fz
                  have HXF := Lib.hid (hb4.put (.int .i64 0) (.int .i64 0) (.string ⟨#[]⟩) (.slice none 0 0))
                  have HOF := Lib.hid ((HO3.out.trans o4).put w.heap.size (Nat.le_refl _) (.int .i64 0) (.int .i64 0) (.string ⟨#[]⟩) (.slice none 0 0))
                  have HRF := Lib.hid (r4.keep (Kept.put (ok := (· ≠ w.heap.size)) _ w.heap.size (.int .i64 0) (.int .i64 0) (.string ⟨#[]⟩) (.slice none 0 0) (by simp)) hne)
                  clear hb4 r4 o4
                  unfold noX
                  go_wp2_with fail
                  try simp only [Exit.inBlock, Exit.then]
                  refine bodyPost_ret (res_expr rfl _ _ w.heap.size _ _ _ _ rfl HXF.out) rfl ?_
                  rw [← HFN.out]
                  exact ⟨HOF.out, 0, 0, [], none, 0, 0, rfl, by decide, _, _, _, HRF.out⟩
                | false =>
                  rw [hbg] at HBG
                  rw [if_neg (by rw [hbg]; decide)] at hfin
                  have HFN := Lib.hid hfin
                  have HFA := Lib.hid (fun (w1 : World) (k1 : Rdg w1 b g cap ts.length (s2.at_ + 1 : Nat) s2.n s2.open_ 0 0) => rfail_any b g cap ts.length (s2.at_ + 1 : Nat) s2.n s2.open_ 0 25 w1 k1)
                  clear hbg hfin
                  go_wp2_with fail
                  refine HI3.out.mono ?_
                  rintro e v1 ⟨rfl, b1⟩
                  have HHV := Lib.hid (HHR.out.keep (Kept.of_below (ok := fun _ => True) b1) trivial)
                  have HXV := Lib.hid (HXS.out.keep (Kept.of_below (ok := fun _ => True) b1) trivial)
                  have HOV := Lib.hid (HOR.out.trans (Only.of_below b1))
                  have HXRV := Lib.hid (HXP.out.later (Kept.of_below b1))
                  have HSZV := Lib.hid (Nat.le_trans HSR.out b1.size)
                  have HTV := Lib.hid (HTS.out.below b1)
                  have y3 := HXV.out.c3
                  have HB1 := Lib.hid b1
                  clear b1
                  go_wp2_with fail
                  refine (HTK.out _ HB1.out).mono ?_
                  rintro e w2 ⟨rfl, r2, o2⟩
                  have HXRW := Lib.hid (HXRV.out.later (o2.keptB (show ¬ X + 1 ≤ b by omega)))
                  have HOW := Lib.hid (HOV.out.trans o2)
                  have HHW := Lib.hid (HHV.out.keep o2.kept hne2)
                  have HXW := Lib.hid (HXV.out.keep o2.kept hXb)
                  have HRW := Lib.hid r2
                  have HTW := Lib.hid (o2.ts HTV.out HG.out)
                  have HSZW := Lib.hid (Nat.le_trans HSZV.out o2.size)
                  clear r2 o2
                  have y3w := HXW.out.c3
                  have d4w := HRW.out.c4
                  go_wp2_with fail
                  refine (HBG.out _ HRW.out HTW.out).mono ?_
                  rintro e w3 ⟨rfl, b3⟩
                  have HB3 := Lib.hid (HHW.out.keep (Kept.of_below (ok := fun _ => True) b3) trivial)
                  have HR3 := Lib.hid (HRW.out.below b3)
                  have HO3 := Lib.hid (HOW.out.trans (Only.of_below b3))
                  clear b3
                  go_wp2_with fail
                  refine (HFA.out _ HR3.out).mono ?_
                  rintro e w4 ⟨rfl, r4, o4⟩
                  have hb4 := HB3.out.keep o4.kept hne2
                  have p0 := hb4.c0
                  have p1 := hb4.c1
                  have p2 := hb4.c2
                  have p3 := hb4.c3
                  have pz := hb4.fz
                  have HXF := Lib.hid (hb4.put (.int .i64 0) (.int .i64 0) (.string ⟨#[]⟩) (.slice none 0 0))
                  have HOF := Lib.hid ((HO3.out.trans o4).put w.heap.size (Nat.le_refl _) (.int .i64 0) (.int .i64 0) (.string ⟨#[]⟩) (.slice none 0 0))
                  have HRF := Lib.hid (r4.keep (Kept.put (ok := (· ≠ w.heap.size)) _ w.heap.size (.int .i64 0) (.int .i64 0) (.string ⟨#[]⟩) (.slice none 0 0) (by simp)) hne)
                  clear hb4 r4 o4
                  unfold noX
                  go_wp2_with fail
                  try simp only [Exit.inBlock, Exit.then]
                  refine bodyPost_ret (res_expr rfl _ _ w.heap.size _ _ _ _ rfl HXF.out) rfl ?_
                  rw [← HFN.out]
                  exact ⟨HOF.out, 0, 0, [], none, 0, 0, rfl, by decide, _, _, _, HRF.out⟩
              · rw [if_neg h16e] at hfin
                have hi16 : ((xs.length : Int) == 16) = false := by rw [beq_eq_false_iff_ne]; omega
                have hl16 : xs.length < 16 := by omega
                have HFN := Lib.hid hfin
                clear hh hx hO hrd hs2 hxr hfin ho2 hcl hx0 hcm hsz h16e
                cases hr : rec ⟨s2.at_ + 1, s2.n, s2.open_⟩ with
                | ok y s4 =>
                  go_wp2_with fail
                  refine HI3.out.mono ?_
                  rintro e v1 ⟨rfl, b1⟩
                  have HHV := Lib.hid (HHR.out.keep (Kept.of_below (ok := fun _ => True) b1) trivial)
                  have HXV := Lib.hid (HXS.out.keep (Kept.of_below (ok := fun _ => True) b1) trivial)
                  have HOV := Lib.hid (HOR.out.trans (Only.of_below b1))
                  have HXRV := Lib.hid (HXP.out.later (Kept.of_below b1))
                  have HSZV := Lib.hid (Nat.le_trans HSR.out b1.size)
                  have HTV := Lib.hid (HTS.out.below b1)
                  have y3 := HXV.out.c3
                  have HB1 := Lib.hid b1
                  clear b1
                  go_wp2_with fail
                  refine (HTK.out _ HB1.out).mono ?_
                  rintro e w2 ⟨rfl, r2, o2⟩
                  have HXRW := Lib.hid (HXRV.out.later (o2.keptB (show ¬ X + 1 ≤ b by omega)))
                  have HOW := Lib.hid (HOV.out.trans o2)
                  have HHW := Lib.hid (HHV.out.keep o2.kept hne2)
                  have HXW := Lib.hid (HXV.out.keep o2.kept hXb)
                  have HRW := Lib.hid r2
                  have HTW := Lib.hid (o2.ts HTV.out HG.out)
                  have HSZW := Lib.hid (Nat.le_trans HSZV.out o2.size)
                  clear r2 o2
                  have HAP := Lib.hid (fun w5 (o5 : Only b (w2).drew w5) qy cy hfy => ap_ok b (X + 1) (.slice q xs.length c) xs (w2).drew w5 HSZW.out (HXRW.out.later (Kept.of_below (Below.refl _ _).drew)) (by have := HLEN.out; omega) o5 (by omega) y qy cy hfy)
                  have HLV := Lib.hid (HREC.out ⟨s2.at_ + 1, s2.n, s2.open_⟩ HSW.out HOPW.out (w2).drew HRW.out (HTW.out.below (Below.refl _ _).drew))
                  rw [hr] at HLV
                  have y5 := HXW.out.fz
                  have y3 := HXW.out.c3
                  have d4w := HRW.out.c4
                  go_wp2_with fail
                  go_region_law (first
                    | (refine step_appR rfl _ _ _ _ rfl rfl rfl _ _ hap.run ?_)
                    | (go_simp; go_at_call 83; refine HLV.out.mono ?_; rintro e w5 ⟨o5, oy, ny, ty, qy, ky, cy, rfl, hp⟩; obtain ⟨e1, e2, e3, e4, hfy, hrd5⟩ := hp; subst e1 e2 e3 e4; obtain ⟨p, c2, w6, hap, hxr6⟩ := HAP.out w5 o5 qy cy hfy; have hx5 := HXW.out.keep (w' := w5) (Kept.trans (Kept.of_below (Below.refl _ _).drew) o5.kept) hXb; have hx6 := hx5.keep (Kept.low hap.below (Nat.le_of_lt hap.size)) (show X < X + 1 by omega); have zx5 : ∀ o j, (w5.alloc o).cell? ⟨X, j, none⟩ = w5.cell? ⟨X, j, none⟩ := fun o j => Kept.cell (Kept.alloc (ok := fun _ => True) w5 o) trivial hx5.lt; have k3 := hx5.c3; have k6 := hx6.c3; have kz := hx6.fz; have HCM := Lib.hid (ap_common (HOW.out.trans (Only.of_below (Below.refl _ _).drew)) (by omega) HSZW.out hlt HHW.out HXW.out o5 hap); have HCN := Lib.hid (el_next_ok (o1 := s.open_ + 1) (kk := kk) HCM.out.2.2.2 (by omega) hap hxr6 hrd5 hr (HRK.out _ _ _ HSW.out hr) HOPW.out HO20.out hkk hl16 HFN.out)))
                  all_goals
                    try simp only [Exit.inBlock]
                    go_wp2_with fail
                    go_roundw
                    case rel => exact ⟨HCM.out.1, HCM.out.2.1, HCM.out.2.2.1, HCN.out.1⟩
                    case measure =>
                      have hm : elM b X wr = 40 - xs.length := by simpa using HMZ.out
                      rw [hm]
                      exact HCN.out.2
                | bad er a =>
                  have HFB := Lib.hid (show FIN = .bad er a by rw [← HFN.out, hr]; rfl)
                  go_wp2_with fail
                  refine HI3.out.mono ?_
                  rintro e v1 ⟨rfl, b1⟩
                  have HHV := Lib.hid (HHR.out.keep (Kept.of_below (ok := fun _ => True) b1) trivial)
                  have HXV := Lib.hid (HXS.out.keep (Kept.of_below (ok := fun _ => True) b1) trivial)
                  have HOV := Lib.hid (HOR.out.trans (Only.of_below b1))
                  have HXRV := Lib.hid (HXP.out.later (Kept.of_below b1))
                  have HSZV := Lib.hid (Nat.le_trans HSR.out b1.size)
                  have HTV := Lib.hid (HTS.out.below b1)
                  have y3 := HXV.out.c3
                  have HB1 := Lib.hid b1
                  clear b1
                  go_wp2_with fail
                  refine (HTK.out _ HB1.out).mono ?_
                  rintro e w2 ⟨rfl, r2, o2⟩
                  have HXRW := Lib.hid (HXRV.out.later (o2.keptB (show ¬ X + 1 ≤ b by omega)))
                  have HOW := Lib.hid (HOV.out.trans o2)
                  have HHW := Lib.hid (HHV.out.keep o2.kept hne2)
                  have HXW := Lib.hid (HXV.out.keep o2.kept hXb)
                  have HRW := Lib.hid r2
                  have HTW := Lib.hid (o2.ts HTV.out HG.out)
                  have HSZW := Lib.hid (Nat.le_trans HSZV.out o2.size)
                  clear r2 o2
                  have HAP := Lib.hid (fun w5 (o5 : Only b (w2).drew w5) o m t qy kk cy => ap_bad b (X + 1) (.slice q xs.length c) xs (w2).drew w5 HSZW.out (HXRW.out.later (Kept.of_below (Below.refl _ _).drew)) (by have := HLEN.out; omega) o5 (by omega) o m t qy kk cy)
                  have HLV := Lib.hid (HREC.out ⟨s2.at_ + 1, s2.n, s2.open_⟩ HSW.out HOPW.out (w2).drew HRW.out (HTW.out.below (Below.refl _ _).drew))
                  rw [hr] at HLV
                  have y5 := HXW.out.fz
                  have y3 := HXW.out.c3
                  have d4w := HRW.out.c4
                  go_wp2_with fail
                  go_region_law (first
                    | (refine step_appR rfl _ _ _ _ rfl rfl rfl _ _ hap.run ?_)
                    | (go_simp; go_at_call 83; refine HLV.out.mono ?_; rintro e w5 ⟨o5, oy, ny, ty, qy, ky, cy, rfl, hp⟩; obtain ⟨her5, a5, n5, oo5, hrd5⟩ := hp; obtain ⟨p, c2, w6, hap⟩ := HAP.out w5 o5 oy ny ty qy ky cy; have hx5 := HXW.out.keep (w' := w5) (Kept.trans (Kept.of_below (Below.refl _ _).drew) o5.kept) hXb; have hx6 := hx5.keep (Kept.low hap.below (Nat.le_of_lt hap.size)) (show X < X + 1 by omega); have zx5 : ∀ o j, (w5.alloc o).cell? ⟨X, j, none⟩ = w5.cell? ⟨X, j, none⟩ := fun o j => Kept.cell (Kept.alloc (ok := fun _ => True) w5 o) trivial hx5.lt; have k3 := hx5.c3; have k6 := hx6.c3; have kz := hx6.fz; have HCM := Lib.hid (ap_common (HOW.out.trans (Only.of_below (Below.refl _ _).drew)) (by omega) HSZW.out hlt HHW.out HXW.out o5 hap); have HCN := Lib.hid (el_next_bad (rec := rec) (ts := ts) (o1 := s.open_ + 1) HCM.out.2.2.2 (by omega) hap hrd5 her5 HFB.out HLEN.out)))
                  all_goals
                    try simp only [Exit.inBlock]
                    go_wp2_with fail
                    go_roundw
                    case rel => exact ⟨HCM.out.1, HCM.out.2.1, HCM.out.2.2.1, HCN.out.1⟩
                    case measure =>
                      have hm : elM b X wr = 40 - xs.length := by simpa using HMZ.out
                      rw [hm]
                      exact HCN.out.2
      · have d4 := hrd.c4
        have her2 : ((er : Int) == 0) = false := by rw [beq_eq_false_iff_ne]; omega
        have HHH := Lib.hid hh
        have HXX := Lib.hid hx
        have HOO := Lib.hid hO
        have HRD := Lib.hid hrd
        clear hh hx hO hrd
        have HTK := Lib.hid (rtake_u b g cap ts ⟨#[93]⟩ _ _ _ _ _ _ HRD.out HTS.out HN.out (fun h0 => absurd h0 (by omega)))
        go_wp2_with fail
        refine HTK.out.mono ?_
        rintro e w2 ⟨rfl, o2, a2, bad2, f2, r2, hc2⟩
        have hh := HHH.out.keep o2.kept hne2
        have hx := HXX.out.keep o2.kept hXb
        have f5 := hh.fz
        have p0 := hh.c0
        have p1 := hh.c1
        have p2 := hh.c2
        have p3 := hh.c3
        have y0 := hx.c0
        have y1 := hx.c1
        have y2 := hx.c2
        have y3 := hx.c3
        have a3 := r2.c3
        have az := r2.fz
        have HHF := Lib.hid hh
        have HRF := Lib.hid r2
        have HCF := Lib.hid hc2
        have HO2 := Lib.hid o2
        clear hh hx r2 hc2 o2
        go_wp2_with fail
        refine bodyPost_ret (res_expr rfl _ _ w.heap.size _ _ _ _ rfl (endW_bx (b := b) HHF.out hne2)) rfl ?_
        refine ⟨endW_only (HOO.out.trans HO2.out) (Nat.le_refl _), 5, 0, [], q, _, c, rfl, ?_⟩
        rw [hfin]
        rcases HCF.out with ⟨h0, rfl, rfl⟩ | ⟨h0, _⟩
        · exact ⟨her, _, _, _, endW_rdg HRF.out hne⟩
        · omega
end Go.Proofs.YtlmmfhbdebfgkaaGreatDoor.Ex
