/-
  ExRefQ, ExRefS.
-/
import Derived.Test.YtlmmfhbdebfgkaaGreatDoorVExRefP
set_option linter.unusedVariables false
set_option linter.unusedSimpArgs false
set_option maxRecDepth 100000
set_option maxHeartbeats 16000000
namespace Go.Proofs.YtlmmfhbdebfgkaaGreatDoor.Ex
open Go.RowKit
open Lx
def endX (w2 : World) (b H : Nat) (v : Int) (x0 x1 x2 x3 : Value) : World := put4 (w2.setCell ⟨b, 3, none⟩ (.int .i64 v)) H x0 x1 x2 x3
section
variable {b g cap H : Nat} {ts : List TA} {w w2 : World} {v : Int} {y0 y1 y2 y3 x0 x1 x2 x3 : Value}
theorem endX_kept {ok : Nat → Prop} (hb : ¬ ok b) (hH : ¬ ok H) : Kept ok w2 (endX w2 b H v x0 x1 x2 x3) := (Kept.set w2 b 3 _ hb).trans (Kept.put _ H _ _ _ _ hH)
theorem endX_only (hO : Only b w w2) (hH : w.heap.size ≤ H) : Only b w (endX w2 b H v x0 x1 x2 x3) := (hO.set' 3 _).put H hH _ _ _ _
theorem endX_bx (hx : Bx w2 H y0 y1 y2 y3) (hne : ¬ H = b) : Bx (endX w2 b H v x0 x1 x2 x3) H x0 x1 x2 x3 := (hx.keep (Kept.set (ok := (· ≠ b)) w2 b 3 _ (by simp)) hne).put _ _ _ _
theorem endX_rdg {a' n' o' bad f : Int} (hr : Rdg w2 b g cap ts.length a' n' o' bad f) (hne : ¬ b = H) : Rdg (endX w2 b H v x0 x1 x2 x3) b g cap ts.length a' n' v bad f := (hr.set3 v).keep (Kept.put (ok := (· ≠ H)) _ H _ _ _ _ (by simp)) hne
end
theorem leave_post {b g cap : Nat} {ts : List TA} {lo : Nat} {V : World} {x : T} {s : St} {sign : List UInt8} {q : Option Addr} {a2 n2 bad2 f2 : Int} (hf : FAt V (lo ≤ ·) x.args q) (hr : Rdg V b g cap ts.length a2 n2 ((s.open_ : Int) - 1) bad2 f2) (hn2 : n2 = s.n) (ho : 1 ≤ s.open_)
    (hc : (isS ts s.at_ sign = true ∧ a2 = ((s.at_ + 1 : Nat) : Int) ∧ bad2 = 0 ∧ f2 = 0) ∨ (isS ts s.at_ sign = false ∧ bad2 = 25 ∧ f2 = (s.at_ : Int))) : Post b g cap ts lo (leaveR ts sign x s) x.op x.num x.text q x.args.len V := by
  unfold leaveR
  rcases hc with ⟨h1, rfl, rfl, rfl⟩ | ⟨h1, rfl, rfl⟩
  · rw [if_pos h1]
    subst hn2
    refine ⟨rfl, rfl, rfl, rfl, hf, ?_⟩
    have e : (((s.open_ - 1 : Nat)) : Int) = (s.open_ : Int) - 1 := by omega
    show Rdg V b g cap ts.length ((s.at_ + 1 : Nat) : Int) (s.n : Int) ((s.open_ - 1 : Nat) : Int) 0 0
    rw [e]
    exact hr
  · rw [if_neg (by rw [h1]; decide)]
    exact ⟨by decide, _, _, _, hr⟩
theorem rprim_group (b g cap : Nat) (ts : List TA) (s : St) (w : World) (h : Rdg w b g cap ts.length s.at_ s.n s.open_ 0 0) (ht : TsAt w g ts) (hg : g ≠ b) (hs : StOk ts s) (hn : ts.length ≤ 8001) (he : Ends ts) (rec : St → R) (hrk : RecOk ts rec) (hu : isS ts s.at_ [40] = true)
    (HR : ∀ s1 : St, StOk ts s1 → s1.open_ = s.open_ + 1 → ∀ w1, Rdg w1 b g cap ts.length s1.at_ s1.n s1.open_ 0 0 → TsAt w1 g ts → Calls Tryz.prog 83 #[.pointer (some ⟨b, 0, none⟩), .int .i64 0] w1 fun e w' => ResA b g cap ts w1 (rec s1) e w') :
    Calls Tryz.prog 172 #[.pointer (some ⟨b, 0, none⟩)] w fun e w' => ResA b g cap ts w (groupR rec ts s) e w' := by
  obtain ⟨FIN, hFIN⟩ : ∃ F, groupR rec ts s = F := ⟨_, rfl⟩
  rw [hFIN]
  unfold groupR at hFIN
  have HFIN := Lib.hid hFIN
  clear hFIN
  have HREC := Lib.hid HR
  have HRK := Lib.hid hrk
  have HK := Lib.hid (isS_kind hu).1
  have HNX := Lib.hid (he.next hs.at_ (isS_ne hu))
  have HIS := Lib.hid (fun (w1 : World) (k1 : Rdg w1 b g cap ts.length s.at_ s.n s.open_ 0 0) (k2 : TsAt w1 g ts) => show Calls Tryz.prog 171 #[.pointer (some ⟨b, 0, none⟩), .string ⟨#[40]⟩] w1 fun e w' => e = .returned (.bool (isS ts s.at_ [40])) ∧ Below w1.heap.size w1 w' from ris_any b g cap s.at_ s.n s.open_ 0 0 ts ⟨#[40]⟩ w1 k1 k2 hs.at_ hn)
  rw [hu] at HIS
  clear HR hrk hu he
  have H := Lib.hid h
  have HS := Lib.hid hs
  have HT := Lib.hid ht
  have HG := Lib.hid hg
  have HN := Lib.hid hn
  have hlt := h.lt
  have hgl := ht.lt
  have hne : ¬ b = w.heap.size := by omega
  have hne2 : ¬ w.heap.size = b := by omega
  have hne3 : ¬ w.heap.size + 1 = b := by omega
  have hai : (s.at_ : Int) < (ts.length : Int) := by have := hs.at_; omega
  have hni : (ts.length : Int) ≤ 8001 := by omega
  have c0 := h.c0
  have c1 := h.c1
  obtain ⟨t0, t1, t2, t3⟩ := ht.tok hs.at_
  have zb : ∀ o j, (w.alloc o).cell? ⟨b, j, none⟩ = w.cell? ⟨b, j, none⟩ := fun o j => Kept.cell (Kept.alloc (ok := fun _ => True) w o) trivial hlt
  have zg : ∀ o j, (w.alloc o).cell? ⟨g, j, none⟩ = w.cell? ⟨g, j, none⟩ := fun o j => Kept.cell (Kept.alloc (ok := fun _ => True) w o) trivial hgl
  have HPN := Lib.hid (prS_new h)
  clear h ht hs hn hg
  go_enter Tryz.func172, Tryz.ntmps172
  go_upto_region 1 with fail
  go_cut [3] (fun x3 wx => x3 = .pointer (some ⟨w.heap.size + 1, 0, none⟩) ∧ PrS b g cap ts s w wx)
  case first =>
    go_region_with (fail)
    all_goals
      go_wp2_with fail
      go_meet
      exact ⟨rfl, HPN.out⟩
  case rest =>
    obtain ⟨rfl, hP⟩ := hcut
    have HP := Lib.hid hP
    have k0 := hP.tok.c0
    have k1 := hP.tok.c1
    have k2 := hP.tok.c2
    clear hP c0 c1 t0 t1 t2 t3 zb zg HPN
    rw [HK.out] at k0
    have HOU := Lib.hid (fun (w1 : World) (k1 : Rdg w1 b g cap ts.length s.at_ s.n s.open_ 0 0) => ropens_u b g cap ts.length s.at_ s.n s.open_ w1 k1 HS.out.op)
    go_wp2_with fail
    refine (HIS.out _ HP.out.rdg (HP.out.only.ts HT.out HG.out)).mono ?_
    rintro e w2 ⟨rfl, b2⟩
    have HB2 := Lib.hid (HP.out.box.keep (Kept.of_below (ok := fun _ => True) b2) trivial)
    have HR2 := Lib.hid (HP.out.rdg.below b2)
    have HO2 := Lib.hid (HP.out.only.trans (Only.of_below b2))
    have HZ2 := Lib.hid (show w.heap.size + 2 ≤ w2.heap.size by have := HP.out.size; have := b2.size; omega)
    clear b2 k1 k2
    obtain ⟨A1, hA1⟩ : ∃ A1 : Int, A1 = ((s.at_ + 1 : Nat) : Int) := ⟨_, rfl⟩
    have HE1 := Lib.hid hA1
    have HA := Lib.hid (show (s.at_ : Int) + 1 = A1 by omega)
    clear hA1
    go_wp2_with fail
    refine (HOU.out _ HR2.out).mono ?_
    rintro e w3 ⟨rfl, o3, oo, bad3, f3, r3, hc3⟩
    have hb3 := HB2.out.keep o3.kept hne2
    have HO3 := Lib.hid (HO2.out.trans o3)
    have HZ3 := Lib.hid (Nat.le_trans HZ2.out o3.size)
    have a1 := r3.c1
    have a4 := r3.c4
    have az := r3.fz
    have HR3 := Lib.hid r3
    have HB3 := Lib.hid hb3
    clear o3 r3
    by_cases h20 : s.open_ = 20
    · have HFI := HFIN.out
      rw [if_pos h20] at HFI
      have HFF := Lib.hid HFI
      clear HFI
      rcases hc3 with ⟨h, _⟩ | ⟨_, rfl, rfl⟩
      · omega
      have p0 := hb3.c0
      have p1 := hb3.c1
      have p2 := hb3.c2
      have p3 := hb3.c3
      have pz := hb3.fz
      have HXF := Lib.hid ((hb3.keep (Kept.set (ok := (· ≠ b)) w3 b 1 (.int .i64 ((s.at_ : Int) + 1)) (by simp)) hne2).put (.int .i64 0) (.int .i64 0) (.string ⟨#[]⟩) (.slice none 0 0))
      have HOF := Lib.hid ((HO3.out.set' 1 (.int .i64 ((s.at_ : Int) + 1))).put w.heap.size (Nat.le_refl _) (.int .i64 0) (.int .i64 0) (.string ⟨#[]⟩) (.slice none 0 0))
      have HRF := Lib.hid ((HR3.out.set1 ((s.at_ : Int) + 1)).keep (Kept.put (ok := (· ≠ w.heap.size)) _ w.heap.size (.int .i64 0) (.int .i64 0) (.string ⟨#[]⟩) (.slice none 0 0) (by simp)) hne)
      clear hb3
      go_wp2_with fail
      refine bodyPost_ret (res_expr rfl _ _ w.heap.size _ _ _ _ rfl HXF.out) rfl ?_
      rw [← HFF.out]
      exact ⟨HOF.out, 0, 0, [], none, 0, 0, rfl, by decide, _, _, _, HRF.out⟩
    · have HFI := HFIN.out
      rw [if_neg h20] at HFI
      rcases hc3 with ⟨hlt20, rfl, rfl, rfl⟩ | ⟨h, _⟩
      rotate_left
      · exact absurd h h20
      have hs1 : StOk ts ⟨s.at_ + 1, s.n, s.open_ + 1⟩ := ⟨HNX.out, HS.out.n, by simp; omega⟩
      have HS1 := Lib.hid hs1
      have O4 : Only b w3 (w3.setCell ⟨b, 1, none⟩ (.int .i64 A1)) := Only.set b w3 1 _
      have hr4 : Rdg (w3.setCell ⟨b, 1, none⟩ (.int .i64 A1)) b g cap ts.length ((s.at_ + 1 : Nat) : Int) s.n ((s.open_ + 1 : Nat) : Int) 0 0 := by rw [← HE1.out]; exact HR3.out.set1 A1
      have HLV := Lib.hid (HREC.out _ hs1 rfl _ hr4 (O4.ts ((HO3.out).ts HT.out HG.out) HG.out))
      have HB4 := Lib.hid (hb3.keep O4.kept hne2)
      have HO4 := Lib.hid (HO3.out.trans O4)
      have HZ4 := Lib.hid (Nat.le_trans HZ3.out O4.size)
      clear hb3 hs1 O4 hr4
      cases hr : rec ⟨s.at_ + 1, s.n, s.open_ + 1⟩ with
      | ok x s2 =>
        rw [hr] at HLV HFI
        have HFF := Lib.hid (show leaveR ts [41] x s2 = FIN from HFI)
        clear HFI
        have hadv := HRK.out _ _ _ HS1.out hr
        have HADV := Lib.hid hadv
        have HOPX := Lib.hid (show s2.open_ = s.open_ + 1 from hadv.op)
        have hoi : (s2.open_ : Int) ≤ 20 := by have := HOPX.out; omega
        have hoj : (1 : Int) ≤ (s2.open_ : Int) := by have := HOPX.out; omega
        clear hadv
        go_wp2_with fail
        rw [HA.out]
        refine HLV.out.mono ?_
        rintro e w5 ⟨o5, o, n, t, q, k, c, rfl, hp⟩
        obtain ⟨e1, e2, e3, e4, hf5, hr5⟩ := hp
        subst e1 e2 e3 e4
        have HB5 := Lib.hid ((HB4.out.keep o5.kept hne2).keep (Kept.alloc (ok := fun _ => True) w5 (.cells #[.int .i64 x.op, .int .i64 x.num, .string (S x.text), .slice q x.args.len c] 24)) trivial)
        have HO5 := Lib.hid ((HO4.out.trans o5).alloc (.cells #[.int .i64 x.op, .int .i64 x.num, .string (S x.text), .slice q x.args.len c] 24))
        have HX5 := Lib.hid (Bx.new w5 (.int .i64 x.op) (.int .i64 x.num) (.string (S x.text)) (.slice q x.args.len c))
        have HR5 := Lib.hid (hr5.keep (Kept.alloc (ok := fun _ => True) w5 (.cells #[.int .i64 x.op, .int .i64 x.num, .string (S x.text), .slice q x.args.len c] 24)) trivial)
        have HZ5 := Lib.hid (Nat.le_trans HZ4.out o5.size)
        have HF5 := Lib.hid (hf5.keep (Kept.alloc w5 (.cells #[.int .i64 x.op, .int .i64 x.num, .string (S x.text), .slice q x.args.len c] 24)))
        have HTK := Lib.hid (rtake_u b g cap ts ⟨#[41]⟩ _ _ _ _ _ _ HR5.out (HO5.out.ts HT.out HG.out) HN.out (fun _ => ⟨rfl, s2.at_, rfl, HADV.out.lt⟩))
        have hbW : ¬ b = w5.heap.size := by have := HZ5.out; omega
        have hWb : ¬ w5.heap.size = b := by have := HZ5.out; omega
        have hHW : ¬ w.heap.size = w5.heap.size := by have := HZ5.out; omega
        have hWH : ¬ w5.heap.size = w.heap.size := by have := HZ5.out; omega
        clear o5 hr5 hf5
        go_wp2_with fail
        refine HTK.out.mono ?_
        rintro e w6 ⟨rfl, o6, a6, bad6, f6, r6, hc6⟩
        have hh := HB5.out.keep o6.kept hne2
        have hx := HX5.out.keep o6.kept hWb
        have f5 := hh.fz
        have p0 := hh.c0
        have p1 := hh.c1
        have p2 := hh.c2
        have p3 := hh.c3
        have y0 := hx.c0
        have y1 := hx.c1
        have y2 := hx.c2
        have y3 := hx.c3
        have b3 := r6.c3
        have bz := r6.fz
        have HHF := Lib.hid hh
        have HRF := Lib.hid r6
        have HCF := Lib.hid hc6
        have HOF := Lib.hid (HO5.out.trans o6)
        have HO6 := Lib.hid o6
        clear hh hx r6 hc6 o6
        go_wp2_with fail
        refine bodyPost_ret (res_expr rfl _ _ w.heap.size _ _ _ _ rfl (endX_bx (b := b) HHF.out hne2)) rfl ?_
        refine ⟨endX_only HOF.out (Nat.le_refl _), x.op, x.num, x.text, q, x.args.len, c, rfl, ?_⟩
        rw [← HFF.out]
        refine leave_post (sign := [41]) (FAt.mono (fun g _ hg => ?_) _ _ ((HF5.out.keep (HO6.out.keptB ?_)).keep (endX_kept ?_ ?_))) (endX_rdg HRF.out hne) rfl (by omega) ?_
        · exact Nat.le_trans (Nat.le_trans (Nat.le_add_right _ 2) HZ4.out) hg
        · exact fun h => by have h2 := Nat.le_trans HZ4.out h; omega
        · exact fun h => by have h2 := Nat.le_trans HZ4.out h; omega
        · exact fun h => by have h2 := Nat.le_trans HZ4.out h; omega
        · rcases HCF.out with ⟨h0, _⟩ | ⟨_, kx, hkx, _, hcx⟩
          · exact absurd rfl h0
          · obtain rfl : kx = s2.at_ := by omega
            exact hcx
      | bad er a =>
        rw [hr] at HLV HFI
        have HFF := Lib.hid (show R.bad er a = FIN from HFI)
        clear HFI
        go_wp2_with fail
        rw [HA.out]
        refine HLV.out.mono ?_
        rintro e w5 ⟨o5, o, n, t, q, k, c, rfl, hp⟩
        obtain ⟨her, a5, n5, oo5, hr5⟩ := hp
        have HB5 := Lib.hid ((HB4.out.keep o5.kept hne2).keep (Kept.alloc (ok := fun _ => True) w5 (.cells #[.int .i64 o, .int .i64 n, .string (S t), .slice q k c] 24)) trivial)
        have HO5 := Lib.hid ((HO4.out.trans o5).alloc (.cells #[.int .i64 o, .int .i64 n, .string (S t), .slice q k c] 24))
        have HX5 := Lib.hid (Bx.new w5 (.int .i64 o) (.int .i64 n) (.string (S t)) (.slice q k c))
        have HR5 := Lib.hid (hr5.keep (Kept.alloc (ok := fun _ => True) w5 (.cells #[.int .i64 o, .int .i64 n, .string (S t), .slice q k c] 24)) trivial)
        have HZ5 := Lib.hid (Nat.le_trans HZ4.out o5.size)
        have HER := Lib.hid her
        have HTK := Lib.hid (rtake_u b g cap ts ⟨#[41]⟩ _ _ _ _ _ _ HR5.out (HO5.out.ts HT.out HG.out) HN.out (fun h0 => absurd h0 (by omega)))
        have hbW : ¬ b = w5.heap.size := by have := HZ5.out; omega
        have hWb : ¬ w5.heap.size = b := by have := HZ5.out; omega
        have hHW : ¬ w.heap.size = w5.heap.size := by have := HZ5.out; omega
        have hWH : ¬ w5.heap.size = w.heap.size := by have := HZ5.out; omega
        clear o5 hr5 her
        go_wp2_with fail
        refine HTK.out.mono ?_
        rintro e w6 ⟨rfl, o6, a6, bad6, f6, r6, hc6⟩
        have hh := HB5.out.keep o6.kept hne2
        have hx := HX5.out.keep o6.kept hWb
        have f5 := hh.fz
        have p0 := hh.c0
        have p1 := hh.c1
        have p2 := hh.c2
        have p3 := hh.c3
        have y0 := hx.c0
        have y1 := hx.c1
        have y2 := hx.c2
        have y3 := hx.c3
        have b3 := r6.c3
        have bz := r6.fz
        have HHF := Lib.hid hh
        have HRF := Lib.hid r6
        have HCF := Lib.hid hc6
        have HOF := Lib.hid (HO5.out.trans o6)
        have HO6 := Lib.hid o6
        clear hh hx r6 hc6 o6
        go_wp2_with fail
        refine bodyPost_ret (res_expr rfl _ _ w.heap.size _ _ _ _ rfl (endX_bx (b := b) HHF.out hne2)) rfl ?_
        refine ⟨endX_only HOF.out (Nat.le_refl _), o, n, t, q, k, c, rfl, ?_⟩
        rw [← HFF.out]
        rcases HCF.out with ⟨h0, rfl, rfl⟩ | ⟨h0, _⟩
        · exact ⟨HER.out, _, _, _, endX_rdg HRF.out hne⟩
        · have := HER.out
          omega
theorem rprim_none (b g cap : Nat) (ts : List TA) (s : St) (w : World) (h : Rdg w b g cap ts.length s.at_ s.n s.open_ 0 0) (ht : TsAt w g ts) (hg : g ≠ b) (hs : StOk ts s) (hn : ts.length ≤ 8001) (hk : ¬ (1 ≤ (tk ts s.at_).kind ∧ (tk ts s.at_).kind ≤ 4)) (hu : isS ts s.at_ [40] = false) (hv : isS ts s.at_ [91] = false) :
    Calls Tryz.prog 172 #[.pointer (some ⟨b, 0, none⟩)] w fun e w' => ResA b g cap ts w (.bad 25 s.at_) e w' := by
  have HIS := Lib.hid (fun (w1 : World) (k1 : Rdg w1 b g cap ts.length s.at_ s.n s.open_ 0 0) (k2 : TsAt w1 g ts) => show Calls Tryz.prog 171 #[.pointer (some ⟨b, 0, none⟩), .string ⟨#[40]⟩] w1 fun e w' => e = .returned (.bool (isS ts s.at_ [40])) ∧ Below w1.heap.size w1 w' from ris_any b g cap s.at_ s.n s.open_ 0 0 ts ⟨#[40]⟩ w1 k1 k2 hs.at_ hn)
  rw [hu] at HIS
  have HIT := Lib.hid (fun (w1 : World) (k1 : Rdg w1 b g cap ts.length s.at_ s.n s.open_ 0 0) (k2 : TsAt w1 g ts) => show Calls Tryz.prog 171 #[.pointer (some ⟨b, 0, none⟩), .string ⟨#[91]⟩] w1 fun e w' => e = .returned (.bool (isS ts s.at_ [91])) ∧ Below w1.heap.size w1 w' from ris_any b g cap s.at_ s.n s.open_ 0 0 ts ⟨#[91]⟩ w1 k1 k2 hs.at_ hn)
  rw [hv] at HIT
  have HFA := Lib.hid (fun (w1 : World) (k1 : Rdg w1 b g cap ts.length s.at_ s.n s.open_ 0 0) => rfail_any b g cap ts.length s.at_ s.n s.open_ 0 25 w1 k1)
  have HK := Lib.hid hk
  clear hk hu hv
  have H := Lib.hid h
  have HS := Lib.hid hs
  have HT := Lib.hid ht
  have HG := Lib.hid hg
  have HN := Lib.hid hn
  have hlt := h.lt
  have hgl := ht.lt
  have hne : ¬ b = w.heap.size := by omega
  have hne2 : ¬ w.heap.size = b := by omega
  have hne3 : ¬ w.heap.size + 1 = b := by omega
  have hai : (s.at_ : Int) < (ts.length : Int) := by have := hs.at_; omega
  have hni : (ts.length : Int) ≤ 8001 := by omega
  have c0 := h.c0
  have c1 := h.c1
  obtain ⟨t0, t1, t2, t3⟩ := ht.tok hs.at_
  have zb : ∀ o j, (w.alloc o).cell? ⟨b, j, none⟩ = w.cell? ⟨b, j, none⟩ := fun o j => Kept.cell (Kept.alloc (ok := fun _ => True) w o) trivial hlt
  have zg : ∀ o j, (w.alloc o).cell? ⟨g, j, none⟩ = w.cell? ⟨g, j, none⟩ := fun o j => Kept.cell (Kept.alloc (ok := fun _ => True) w o) trivial hgl
  have HPN := Lib.hid (prS_new h)
  clear h ht hs hn hg
  go_enter Tryz.func172, Tryz.ntmps172
  go_upto_region 1 with fail
  go_cut [3] (fun x3 wx => x3 = .pointer (some ⟨w.heap.size + 1, 0, none⟩) ∧ PrS b g cap ts s w wx)
  case first =>
    go_region_with (fail)
    all_goals
      go_wp2_with fail
      go_meet
      exact ⟨rfl, HPN.out⟩
  case rest =>
    obtain ⟨rfl, hP⟩ := hcut
    have HP := Lib.hid hP
    have k0 := hP.tok.c0
    have k1 := hP.tok.c1
    have k2 := hP.tok.c2
    clear hP c0 c1 t0 t1 t2 t3 zb zg HPN
    have hk := HK.out
    generalize (tk ts s.at_).kind = kk at k0 hk
    have hk1 : ¬ kk = 1 := by omega
    by_cases hge : 1 ≤ kk
    · have hle : ¬ kk ≤ 4 := by omega
      clear hk
      go_wp2_with fail
      refine (HIS.out _ HP.out.rdg (HP.out.only.ts HT.out HG.out)).mono ?_
      rintro e w2 ⟨rfl, b2⟩
      have HB2 := Lib.hid (HP.out.box.keep (Kept.of_below (ok := fun _ => True) b2) trivial)
      have HR2 := Lib.hid (HP.out.rdg.below b2)
      have HO2 := Lib.hid (HP.out.only.trans (Only.of_below b2))
      clear b2
      go_wp2_with fail
      refine (HIT.out _ HR2.out (HO2.out.ts HT.out HG.out)).mono ?_
      rintro e w3 ⟨rfl, b3⟩
      have HB3 := Lib.hid (HB2.out.keep (Kept.of_below (ok := fun _ => True) b3) trivial)
      have HR3 := Lib.hid (HR2.out.below b3)
      have HO3 := Lib.hid (HO2.out.trans (Only.of_below b3))
      clear b3
      go_wp2_with fail
      refine (HFA.out _ HR3.out).mono ?_
      rintro e w4 ⟨rfl, r4, o4⟩
      have hb4 := HB3.out.keep o4.kept hne2
      have p0 := hb4.c0
      have p1 := hb4.c1
      have p2 := hb4.c2
      have p3 := hb4.c3
      have pz := hb4.fz
      have HXF := Lib.hid (hb4.put (.int .i64 0) (.int .i64 0) (.string ⟨#[]⟩) (.slice none 0 0))
      have HOF := Lib.hid ((HO3.out.trans o4).put w.heap.size (Nat.le_refl _) (.int .i64 0) (.int .i64 0) (.string ⟨#[]⟩) (.slice none 0 0))
      have HRF := Lib.hid (r4.keep (Kept.put (ok := (· ≠ w.heap.size)) _ w.heap.size (.int .i64 0) (.int .i64 0) (.string ⟨#[]⟩) (.slice none 0 0) (by simp)) hne)
      clear hb4 r4 o4
      unfold noX
      go_wp2_with fail
      refine bodyPost_ret (res_expr rfl _ _ w.heap.size _ _ _ _ rfl HXF.out) rfl ?_
      exact ⟨HOF.out, 0, 0, [], none, 0, 0, rfl, by decide, _, _, _, HRF.out⟩
    · clear hk
      go_wp2_with fail
      refine (HIS.out _ HP.out.rdg (HP.out.only.ts HT.out HG.out)).mono ?_
      rintro e w2 ⟨rfl, b2⟩
      have HB2 := Lib.hid (HP.out.box.keep (Kept.of_below (ok := fun _ => True) b2) trivial)
      have HR2 := Lib.hid (HP.out.rdg.below b2)
      have HO2 := Lib.hid (HP.out.only.trans (Only.of_below b2))
      clear b2
      go_wp2_with fail
      refine (HIT.out _ HR2.out (HO2.out.ts HT.out HG.out)).mono ?_
      rintro e w3 ⟨rfl, b3⟩
      have HB3 := Lib.hid (HB2.out.keep (Kept.of_below (ok := fun _ => True) b3) trivial)
      have HR3 := Lib.hid (HR2.out.below b3)
      have HO3 := Lib.hid (HO2.out.trans (Only.of_below b3))
      clear b3
      go_wp2_with fail
      refine (HFA.out _ HR3.out).mono ?_
      rintro e w4 ⟨rfl, r4, o4⟩
      have hb4 := HB3.out.keep o4.kept hne2
      have p0 := hb4.c0
      have p1 := hb4.c1
      have p2 := hb4.c2
      have p3 := hb4.c3
      have pz := hb4.fz
      have HXF := Lib.hid (hb4.put (.int .i64 0) (.int .i64 0) (.string ⟨#[]⟩) (.slice none 0 0))
      have HOF := Lib.hid ((HO3.out.trans o4).put w.heap.size (Nat.le_refl _) (.int .i64 0) (.int .i64 0) (.string ⟨#[]⟩) (.slice none 0 0))
      have HRF := Lib.hid (r4.keep (Kept.put (ok := (· ≠ w.heap.size)) _ w.heap.size (.int .i64 0) (.int .i64 0) (.string ⟨#[]⟩) (.slice none 0 0) (by simp)) hne)
      clear hb4 r4 o4
      unfold noX
      go_wp2_with fail
      refine bodyPost_ret (res_expr rfl _ _ w.heap.size _ _ _ _ rfl HXF.out) rfl ?_
      exact ⟨HOF.out, 0, 0, [], none, 0, 0, rfl, by decide, _, _, _, HRF.out⟩
end Go.Proofs.YtlmmfhbdebfgkaaGreatDoor.Ex
namespace Go.Proofs.YtlmmfhbdebfgkaaGreatDoor.Ex
open Go.RowKit
open Lx
structure FlS (b g cap : Nat) (ts : List TA) (a : Nat) (s : St) (w : World) (N : Nat) (W : World) : Prop where
  only : Only b w W
  box : Bx W w.heap.size (.int .i64 0) (.int .i64 0) (.string ⟨#[]⟩) (.slice none 0 0)
  tok : Bt W N (tk ts a)
  rdg : Rdg W b g cap ts.length a s.n s.open_ 0 0
theorem flS_new {b g cap : Nat} {ts : List TA} {a : Nat} {s : St} {w w2 : World} (hO : Only b w w2) (hb : Bx w2 w.heap.size (.int .i64 0) (.int .i64 0) (.string ⟨#[]⟩) (.slice none 0 0)) (h : Rdg w2 b g cap ts.length a s.n s.open_ 0 0) :
    FlS b g cap ts a s w w2.heap.size (w2.alloc (.cells #[.int .i64 (tk ts a).kind, .string (S (tk ts a).text), .int .i64 (tk ts a).num, .int .i64 ((tk ts a).at_ : Int)] 79)).drew := by
  have h1 : (w2.alloc (.cells #[.int .i64 (tk ts a).kind, .string (S (tk ts a).text), .int .i64 (tk ts a).num, .int .i64 ((tk ts a).at_ : Int)] 79)).heap[w2.heap.size]? = some (.cells #[.int .i64 (tk ts a).kind, .string (S (tk ts a).text), .int .i64 (tk ts a).num, .int .i64 ((tk ts a).at_ : Int)] 79) := heap_alloc_new w2 _
  exact ⟨(hO.alloc _).trans (Only.of_below (Below.refl _ _).drew), (show Bx (w2.alloc (.cells #[.int .i64 (tk ts a).kind, .string (S (tk ts a).text), .int .i64 (tk ts a).num, .int .i64 ((tk ts a).at_ : Int)] 79)) w.heap.size (.int .i64 0) (.int .i64 0) (.string ⟨#[]⟩) (.slice none 0 0) from Bx.keep (ok := fun _ => True) hb (Kept.alloc _ _) trivial), h1,
    (show Rdg (w2.alloc (.cells #[.int .i64 (tk ts a).kind, .string (S (tk ts a).text), .int .i64 (tk ts a).num, .int .i64 ((tk ts a).at_ : Int)] 79)) b g cap ts.length a s.n s.open_ 0 0 from Rdg.keep (ok := fun _ => True) h (Kept.alloc _ _) trivial)⟩
theorem rprim_field (b g cap : Nat) (ts : List TA) (s : St) (w : World) (h : Rdg w b g cap ts.length s.at_ s.n s.open_ 0 0) (ht : TsAt w g ts) (hg : g ≠ b) (hs : StOk ts s) (hn : ts.length ≤ 8001) (he : Ends ts) (hk : (tk ts s.at_).kind = 1) (hm : (tk ts s.at_).text = wMsg) :
    Calls Tryz.prog 172 #[.pointer (some ⟨b, 0, none⟩)] w fun e w' => ResA b g cap ts w (fieldR ts s) e w' := by
  obtain ⟨FIN, hFIN⟩ : ∃ F, fieldR ts s = F := ⟨_, rfl⟩
  rw [hFIN]
  unfold fieldR at hFIN
  have HNX := Lib.hid (he.next hs.at_ (by rw [hk]; decide))
  have HK := Lib.hid hk
  have HM := Lib.hid hm
  have HE := Lib.hid he
  obtain ⟨A1, hA1⟩ : ∃ A1 : Int, A1 = ((s.at_ + 1 : Nat) : Int) := ⟨_, rfl⟩
  have HE1 := Lib.hid hA1
  have HA := Lib.hid (show (s.at_ : Int) + 1 = A1 by omega)
  have HFIN := Lib.hid hFIN
  clear hFIN hA1 hk hm he
  have H := Lib.hid h
  have HS := Lib.hid hs
  have HT := Lib.hid ht
  have HG := Lib.hid hg
  have HN := Lib.hid hn
  have hlt := h.lt
  have hgl := ht.lt
  have hne : ¬ b = w.heap.size := by omega
  have hne2 : ¬ w.heap.size = b := by omega
  have hne3 : ¬ w.heap.size + 1 = b := by omega
  have hai : (s.at_ : Int) < (ts.length : Int) := by have := hs.at_; omega
  have hni : (ts.length : Int) ≤ 8001 := by omega
  have c0 := h.c0
  have c1 := h.c1
  obtain ⟨t0, t1, t2, t3⟩ := ht.tok hs.at_
  have zb : ∀ o j, (w.alloc o).cell? ⟨b, j, none⟩ = w.cell? ⟨b, j, none⟩ := fun o j => Kept.cell (Kept.alloc (ok := fun _ => True) w o) trivial hlt
  have zg : ∀ o j, (w.alloc o).cell? ⟨g, j, none⟩ = w.cell? ⟨g, j, none⟩ := fun o j => Kept.cell (Kept.alloc (ok := fun _ => True) w o) trivial hgl
  have HPN := Lib.hid (prS_new h)
  clear h ht hs hn hg
  go_enter Tryz.func172, Tryz.ntmps172
  go_upto_region 1 with fail
  go_cut [3] (fun x3 wx => x3 = .pointer (some ⟨w.heap.size + 1, 0, none⟩) ∧ PrS b g cap ts s w wx)
  case first =>
    go_region_with (fail)
    all_goals
      go_wp2_with fail
      go_meet
      exact ⟨rfl, HPN.out⟩
  case rest =>
    obtain ⟨rfl, hP⟩ := hcut
    have HP := Lib.hid hP
    have k0 := hP.tok.c0
    have k1 := hP.tok.c1
    have k2 := hP.tok.c2
    clear hP c0 c1 t0 t1 t2 t3 zb zg HPN
    rw [HK.out] at k0
    rw [show (tk ts s.at_).text = [109, 115, 103] from HM.out] at k1
    have q_len : ((S [109, 115, 103]).toList == ([108, 101, 110] : List UInt8)) = false := by rw [eqB]; rfl
    have q_at : ((S [109, 115, 103]).toList == ([97, 116] : List UInt8)) = false := by rw [eqB]; rfl
    have q_push : ((S [109, 115, 103]).toList == ([112, 117, 115, 104] : List UInt8)) = false := by rw [eqB]; rfl
    have q_msg : ((S [109, 115, 103]).toList == ([109, 115, 103] : List UInt8)) = true := by rw [eqB]; rfl
    have q_true : ((S [109, 115, 103]).toList == ([116, 114, 117, 101] : List UInt8)) = false := by rw [eqB]; rfl
    have q_false : ((S [109, 115, 103]).toList == ([102, 97, 108, 115, 101] : List UInt8)) = false := by rw [eqB]; rfl
    have a1 := HP.out.rdg.c1
    have az := HP.out.rdg.fz
    have O1 := Only.set b wc 1 (.int .i64 A1)
    have hr1 : Rdg (wc.setCell ⟨b, 1, none⟩ (.int .i64 A1)) b g cap ts.length ((s.at_ + 1 : Nat) : Int) s.n s.open_ 0 0 := by rw [← HE1.out]; exact HP.out.rdg.set1 A1
    have HO1 := Lib.hid (HP.out.only.trans O1)
    have HB1 := Lib.hid (HP.out.box.keep O1.kept hne2)
    have HT1 := Lib.hid (HO1.out.ts HT.out HG.out)
    have HR1 := Lib.hid hr1
    clear O1 hr1
    cases hd : isS ts (s.at_ + 1) [46] with
    | false =>
      have HFF := Lib.hid (show R.bad 25 (s.at_ + 1) = FIN by rw [← HFIN.out, if_neg (by rw [hd]; decide)])
      have HTK := Lib.hid (rtake_no b g cap (s.at_ + 1) s.n s.open_ 0 ts ⟨#[46]⟩ _ HR1.out HT1.out HNX.out HN.out hd)
      clear hd
      go_wp2_with fail
      rw [HA.out]
      refine HTK.out.mono ?_
      rintro e w2 ⟨rfl, r2, o2⟩
      have hb2 := HB1.out.keep o2.kept hne2
      have d4 := r2.c4
      have p0 := hb2.c0
      have p1 := hb2.c1
      have p2 := hb2.c2
      have p3 := hb2.c3
      have pz := hb2.fz
      have HXF := Lib.hid (hb2.put (.int .i64 0) (.int .i64 0) (.string ⟨#[]⟩) (.slice none 0 0))
      have HOF := Lib.hid ((HO1.out.trans o2).put w.heap.size (Nat.le_refl _) (.int .i64 0) (.int .i64 0) (.string ⟨#[]⟩) (.slice none 0 0))
      have HRF := Lib.hid (r2.keep (Kept.put (ok := (· ≠ w.heap.size)) _ w.heap.size (.int .i64 0) (.int .i64 0) (.string ⟨#[]⟩) (.slice none 0 0) (by simp)) hne)
      clear hb2 r2 o2
      go_wp2_with fail
      refine bodyPost_ret (res_expr rfl _ _ w.heap.size _ _ _ _ rfl HXF.out) rfl ?_
      rw [← HFF.out]
      exact ⟨HOF.out, 0, 0, [], none, 0, 0, rfl, by decide, _, _, _, HRF.out⟩
    | true =>
      have HFF := Lib.hid (show (if (tk ts (s.at_ + 2)).kind = 1 then leafR 7 0 (tk ts (s.at_ + 2)).text ⟨s.at_ + 2, s.n, s.open_⟩ else .bad 25 (s.at_ + 2)) = FIN by rw [← HFIN.out, if_pos hd])
      have HTK := Lib.hid (rtake_ok b g cap (s.at_ + 1) s.n s.open_ 0 ts ⟨#[46]⟩ _ HR1.out HT1.out HNX.out HN.out hd)
      have HN2 := Lib.hid (HE.out.next HNX.out (isS_ne hd))
      clear hd
      go_wp2_with fail
      rw [HA.out]
      refine HTK.out.mono ?_
      rintro e w2 ⟨rfl, r2, o2⟩
      obtain ⟨A, hA⟩ : ∃ A : Nat, A = s.at_ + 2 := ⟨_, rfl⟩
      have r2 : Rdg w2 b g cap ts.length (A : Int) s.n s.open_ 0 0 := by rw [hA]; exact r2
      have hAl : (A : Int) < (ts.length : Int) := by have := HN2.out; omega
      have hAn : A < ts.length := by have := HN2.out; omega
      have HAE := Lib.hid hA
      have ht2 := o2.ts HT1.out HG.out
      have HO2 := Lib.hid (HO1.out.trans o2)
      have HB2 := Lib.hid (HB1.out.keep o2.kept hne2)
      have HR2 := Lib.hid r2
      have HFN := Lib.hid (flS_new (a := A) (s := s) HO2.out HB2.out HR2.out)
      have hb2l := r2.lt
      have hg2l := ht2.lt
      obtain ⟨t0, t1, t2, t3⟩ := ht2.tok hAn
      have c0 := r2.c0
      have c1 := r2.c1
      have c4 := r2.c4
      have zb : ∀ o j, (w2.alloc o).cell? ⟨b, j, none⟩ = w2.cell? ⟨b, j, none⟩ := fun o j => Kept.cell (Kept.alloc (ok := fun _ => True) w2 o) trivial hb2l
      have zg : ∀ o j, (w2.alloc o).cell? ⟨g, j, none⟩ = w2.cell? ⟨g, j, none⟩ := fun o j => Kept.cell (Kept.alloc (ok := fun _ => True) w2 o) trivial hg2l
      clear r2 o2 ht2 hA
      go_upto_region 13 with fail
      go_cut [4] (fun x4 wx => x4 = .pointer (some ⟨w2.heap.size, 0, none⟩) ∧ FlS b g cap ts A s w w2.heap.size wx)
      case first =>
        go_region_with (fail)
        all_goals
          go_wp2_with fail
          go_meet
          exact ⟨rfl, HFN.out⟩
      case rest =>
        obtain ⟨rfl, hF⟩ := hcut
        have HF := Lib.hid hF
        have i0 := hF.tok.c0
        have i1 := hF.tok.c1
        have hNb : ¬ w2.heap.size = b := by omega
        clear hF t0 t1 t2 t3 c0 c1 c4 zb zg HFN
        have HFG := HFF.out
        rw [← HAE.out] at HFG
        by_cases hkn : (tk ts A).kind = 1
        · rw [hkn] at i0
          rw [if_pos hkn] at HFG
          have HGG := Lib.hid HFG
          have HND := Lib.hid (rnode_u b g cap ts.length A s.open_ 0 0 s.n _ HF.out.rdg HS.out.n (fun _ => rfl))
          clear hkn HFG
          go_wp2_with fail
          refine HND.out.mono ?_
          rintro e w3 ⟨rfl, o3, n3, bad3, f3, r3, hc3⟩
          have hb3 := HF.out.box.keep o3.kept hne2
          have ht3 := HF.out.tok.keep o3.kept hNb
          have a1 := r3.c1
          have az := r3.fz
          have p0 := hb3.c0
          have p1 := hb3.c1
          have p2 := hb3.c2
          have p3 := hb3.c3
          have pz := hb3.fz
          have j1 := ht3.c1
          have HXF := Lib.hid ((hb3.keep (Kept.set (ok := (· ≠ b)) w3 b 1 (.int .i64 ((A : Int) + 1)) (by simp)) hne2).put (.int .i64 7) (.int .i64 0) (.string (S (tk ts A).text)) (.slice none 0 0))
          have HOF := Lib.hid (((HF.out.only.trans o3).set' 1 (.int .i64 ((A : Int) + 1))).put w.heap.size (Nat.le_refl _) (.int .i64 7) (.int .i64 0) (.string (S (tk ts A).text)) (.slice none 0 0))
          have HRF := Lib.hid ((r3.set1 ((A : Int) + 1)).keep (Kept.put (ok := (· ≠ w.heap.size)) _ w.heap.size (.int .i64 7) (.int .i64 0) (.string (S (tk ts A).text)) (.slice none 0 0) (by simp)) hne)
          have HC3 := Lib.hid hc3
          clear hb3 ht3 r3 o3 hc3
          go_wp2_with fail
          refine bodyPost_ret (res_expr rfl _ _ w.heap.size _ _ _ _ rfl HXF.out) rfl ?_
          rw [← HGG.out]
          exact ⟨HOF.out, 7, 0, (tk ts A).text, none, 0, 0, rfl, leaf_post (s := ⟨A, s.n, s.open_⟩) HRF.out (by simpa using HC3.out)⟩
        · rw [if_neg hkn] at HFG
          have HGG := Lib.hid HFG
          have HFA := Lib.hid (rfail_any b g cap ts.length A s.n s.open_ 0 25 _ HF.out.rdg)
          clear HFG
          go_wp2_with fail
          refine HFA.out.mono ?_
          rintro e w4 ⟨rfl, r4, o4⟩
          have hb4 := HF.out.box.keep o4.kept hne2
          have p0 := hb4.c0
          have p1 := hb4.c1
          have p2 := hb4.c2
          have p3 := hb4.c3
          have pz := hb4.fz
          have HXF := Lib.hid (hb4.put (.int .i64 0) (.int .i64 0) (.string ⟨#[]⟩) (.slice none 0 0))
          have HOF := Lib.hid ((HF.out.only.trans o4).put w.heap.size (Nat.le_refl _) (.int .i64 0) (.int .i64 0) (.string ⟨#[]⟩) (.slice none 0 0))
          have HRF := Lib.hid (r4.keep (Kept.put (ok := (· ≠ w.heap.size)) _ w.heap.size (.int .i64 0) (.int .i64 0) (.string ⟨#[]⟩) (.slice none 0 0) (by simp)) hne)
          clear hb4 r4 o4
          unfold noX
          go_wp2_with fail
          refine bodyPost_ret (res_expr rfl _ _ w.heap.size _ _ _ _ rfl HXF.out) rfl ?_
          rw [← HGG.out]
          exact ⟨HOF.out, 0, 0, [], none, 0, 0, rfl, by decide, _, _, _, HRF.out⟩
end Go.Proofs.YtlmmfhbdebfgkaaGreatDoor.Ex
