/- ExRefS -/
import Derived.Test.YtabbdkdpmpjchaaGreatDoorZExRefQ
namespace Go.Proofs.YtabbdkdpmpjchaaGreatDoor.Ex
open Go.RowKit
open Lx
structure FlS (b g cap : Nat) (ts : List TA) (a : Nat) (s : St) (w : World) (N : Nat) (W : World) : Prop where
  only : Only b w W
  box : Bx W w.heap.size (.int .i64 0) (.int .i64 0) (.string ⟨#[]⟩) (.slice none 0 0)
  tok : Bt W N (tk ts a)
  rdg : Rdg W b g cap ts.length a s.n s.open_ 0 0
theorem flS_new {b g cap : Nat} {ts : List TA} {a : Nat} {s : St} {w w2 : World} (hO : Only b w w2) (hb : Bx w2 w.heap.size (.int .i64 0) (.int .i64 0) (.string ⟨#[]⟩) (.slice none 0 0)) (h : Rdg w2 b g cap ts.length a s.n s.open_ 0 0) :
    FlS b g cap ts a s w w2.heap.size (w2.alloc (.cells #[.int .i64 (tk ts a).kind, .string (S (tk ts a).text), .int .i64 (tk ts a).num, .int .i64 ((tk ts a).at_ : Int)] 83)).drew := by
  have h1 : (w2.alloc (.cells #[.int .i64 (tk ts a).kind, .string (S (tk ts a).text), .int .i64 (tk ts a).num, .int .i64 ((tk ts a).at_ : Int)] 83)).heap[w2.heap.size]? = some (.cells #[.int .i64 (tk ts a).kind, .string (S (tk ts a).text), .int .i64 (tk ts a).num, .int .i64 ((tk ts a).at_ : Int)] 83) := heap_alloc_new w2 _
  exact ⟨(hO.alloc _).trans (Only.of_below (Below.refl _ _).drew), (show Bx (w2.alloc (.cells #[.int .i64 (tk ts a).kind, .string (S (tk ts a).text), .int .i64 (tk ts a).num, .int .i64 ((tk ts a).at_ : Int)] 83)) w.heap.size (.int .i64 0) (.int .i64 0) (.string ⟨#[]⟩) (.slice none 0 0) from Bx.keep (ok := fun _ => True) hb (Kept.alloc _ _) trivial), h1,
    (show Rdg (w2.alloc (.cells #[.int .i64 (tk ts a).kind, .string (S (tk ts a).text), .int .i64 (tk ts a).num, .int .i64 ((tk ts a).at_ : Int)] 83)) b g cap ts.length a s.n s.open_ 0 0 from Rdg.keep (ok := fun _ => True) h (Kept.alloc _ _) trivial)⟩
set_option linter.unusedVariables false
set_option maxRecDepth 100000 in
set_option maxHeartbeats 16000000 in
theorem rprim_field (b g cap : Nat) (ts : List TA) (s : St) (w : World) (h : Rdg w b g cap ts.length s.at_ s.n s.open_ 0 0) (ht : TsAt w g ts) (hg : g ≠ b) (hs : StOk ts s) (hn : ts.length ≤ 8001) (he : Ends ts) (hk : (tk ts s.at_).kind = 1) (hm : (tk ts s.at_).text = wMsg) :
    Calls Tryz.prog 175 #[.pointer (some ⟨b, 0, none⟩)] w fun e w' => ResA b g cap ts w (fieldR ts s) e w' := by
  obtain ⟨FIN, hFIN⟩ : ∃ F, fieldR ts s = F := ⟨_, rfl⟩
  rw [hFIN]
  unfold fieldR at hFIN
  have HNX := Lib.hid (he.next hs.at_ (by rw [hk]; decide))
  have HK := Lib.hid hk
  have HM := Lib.hid hm
  have HE := Lib.hid he
  obtain ⟨A1, hA1⟩ : ∃ A1 : Int, A1 = ((s.at_ + 1 : Nat) : Int) := ⟨_, rfl⟩
  have HE1 := Lib.hid hA1
  have HA := Lib.hid (show (s.at_ : Int) + 1 = A1 by omega)
  have HFIN := Lib.hid hFIN
  clear hFIN hA1 hk hm he
  have H := Lib.hid h
  have HS := Lib.hid hs
  have HT := Lib.hid ht
  have HG := Lib.hid hg
  have HN := Lib.hid hn
  have hlt := h.lt
  have hgl := ht.lt
  have hne : ¬ b = w.heap.size := by omega
  have hne2 : ¬ w.heap.size = b := by omega
  have hne3 : ¬ w.heap.size + 1 = b := by omega
  have hai : (s.at_ : Int) < (ts.length : Int) := by have := hs.at_; omega
  have hni : (ts.length : Int) ≤ 8001 := by omega
  have c0 := h.c0
  have c1 := h.c1
  obtain ⟨t0, t1, t2, t3⟩ := ht.tok hs.at_
  have zb : ∀ o j, (w.alloc o).cell? ⟨b, j, none⟩ = w.cell? ⟨b, j, none⟩ := fun o j => Kept.cell (Kept.alloc (ok := fun _ => True) w o) trivial hlt
  have zg : ∀ o j, (w.alloc o).cell? ⟨g, j, none⟩ = w.cell? ⟨g, j, none⟩ := fun o j => Kept.cell (Kept.alloc (ok := fun _ => True) w o) trivial hgl
  have HPN := Lib.hid (prS_new h)
  clear h ht hs hn hg
  go_enter Tryz.func175, Tryz.ntmps175
  go_upto_region 1 with fail
  go_cut [3] (fun x3 wx => x3 = .pointer (some ⟨w.heap.size + 1, 0, none⟩) ∧ PrS b g cap ts s w wx)
  case first =>
    go_region_with (fail)
    all_goals
      go_wp2_with fail
      go_meet
      exact ⟨rfl, HPN.out⟩
  case rest =>
    obtain ⟨rfl, hP⟩ := hcut
    have HP := Lib.hid hP
    have k0 := hP.tok.c0
    have k1 := hP.tok.c1
    have k2 := hP.tok.c2
    clear hP c0 c1 t0 t1 t2 t3 zb zg HPN
    rw [HK.out] at k0
    rw [show (tk ts s.at_).text = [109, 115, 103] from HM.out] at k1
    have q_len : ((S [109, 115, 103]).toList == ([108, 101, 110] : List UInt8)) = false := by rw [eqB]; rfl
    have q_at : ((S [109, 115, 103]).toList == ([97, 116] : List UInt8)) = false := by rw [eqB]; rfl
    have q_push : ((S [109, 115, 103]).toList == ([112, 117, 115, 104] : List UInt8)) = false := by rw [eqB]; rfl
    have q_msg : ((S [109, 115, 103]).toList == ([109, 115, 103] : List UInt8)) = true := by rw [eqB]; rfl
    have q_true : ((S [109, 115, 103]).toList == ([116, 114, 117, 101] : List UInt8)) = false := by rw [eqB]; rfl
    have q_false : ((S [109, 115, 103]).toList == ([102, 97, 108, 115, 101] : List UInt8)) = false := by rw [eqB]; rfl
    have a1 := HP.out.rdg.c1
    have az := HP.out.rdg.fz
    have O1 := Only.set b wc 1 (.int .i64 A1)
    have hr1 : Rdg (wc.setCell ⟨b, 1, none⟩ (.int .i64 A1)) b g cap ts.length ((s.at_ + 1 : Nat) : Int) s.n s.open_ 0 0 := by rw [← HE1.out]; exact HP.out.rdg.set1 A1
    have HO1 := Lib.hid (HP.out.only.trans O1)
    have HB1 := Lib.hid (HP.out.box.keep O1.kept hne2)
    have HT1 := Lib.hid (HO1.out.ts HT.out HG.out)
    have HR1 := Lib.hid hr1
    clear O1 hr1
    cases hd : isS ts (s.at_ + 1) [46] with
    | false =>
      have HFF := Lib.hid (show R.bad 25 (s.at_ + 1) = FIN by rw [← HFIN.out, if_neg (by rw [hd]; decide)])
      have HTK := Lib.hid (rtake_no b g cap (s.at_ + 1) s.n s.open_ 0 ts ⟨#[46]⟩ _ HR1.out HT1.out HNX.out HN.out hd)
      clear hd
      go_wp2_with fail
      rw [HA.out]
      refine HTK.out.mono ?_
      rintro e w2 ⟨rfl, r2, o2⟩
      have hb2 := HB1.out.keep o2.kept hne2
      have d4 := r2.c4
      have p0 := hb2.c0
      have p1 := hb2.c1
      have p2 := hb2.c2
      have p3 := hb2.c3
      have pz := hb2.fz
      have HXF := Lib.hid (hb2.put (.int .i64 0) (.int .i64 0) (.string ⟨#[]⟩) (.slice none 0 0))
      have HOF := Lib.hid ((HO1.out.trans o2).put w.heap.size (Nat.le_refl _) (.int .i64 0) (.int .i64 0) (.string ⟨#[]⟩) (.slice none 0 0))
      have HRF := Lib.hid (r2.keep (Kept.put (ok := (· ≠ w.heap.size)) _ w.heap.size (.int .i64 0) (.int .i64 0) (.string ⟨#[]⟩) (.slice none 0 0) (by simp)) hne)
      clear hb2 r2 o2
      go_wp2_with fail
      refine bodyPost_ret (res_expr rfl _ _ w.heap.size _ _ _ _ rfl HXF.out) rfl ?_
      rw [← HFF.out]
      exact ⟨HOF.out, 0, 0, [], none, 0, 0, rfl, by decide, _, _, _, HRF.out⟩
    | true =>
      have HFF := Lib.hid (show (if (tk ts (s.at_ + 2)).kind = 1 then leafR 7 0 (tk ts (s.at_ + 2)).text ⟨s.at_ + 2, s.n, s.open_⟩ else .bad 25 (s.at_ + 2)) = FIN by rw [← HFIN.out, if_pos hd])
      have HTK := Lib.hid (rtake_ok b g cap (s.at_ + 1) s.n s.open_ 0 ts ⟨#[46]⟩ _ HR1.out HT1.out HNX.out HN.out hd)
      have HN2 := Lib.hid (HE.out.next HNX.out (isS_ne hd))
      clear hd
      go_wp2_with fail
      rw [HA.out]
      refine HTK.out.mono ?_
      rintro e w2 ⟨rfl, r2, o2⟩
      obtain ⟨A, hA⟩ : ∃ A : Nat, A = s.at_ + 2 := ⟨_, rfl⟩
      have r2 : Rdg w2 b g cap ts.length (A : Int) s.n s.open_ 0 0 := by rw [hA]; exact r2
      have hAl : (A : Int) < (ts.length : Int) := by have := HN2.out; omega
      have hAn : A < ts.length := by have := HN2.out; omega
      have HAE := Lib.hid hA
      have ht2 := o2.ts HT1.out HG.out
      have HO2 := Lib.hid (HO1.out.trans o2)
      have HB2 := Lib.hid (HB1.out.keep o2.kept hne2)
      have HR2 := Lib.hid r2
      have HFN := Lib.hid (flS_new (a := A) (s := s) HO2.out HB2.out HR2.out)
      have hb2l := r2.lt
      have hg2l := ht2.lt
      obtain ⟨t0, t1, t2, t3⟩ := ht2.tok hAn
      have c0 := r2.c0
      have c1 := r2.c1
      have c4 := r2.c4
      have zb : ∀ o j, (w2.alloc o).cell? ⟨b, j, none⟩ = w2.cell? ⟨b, j, none⟩ := fun o j => Kept.cell (Kept.alloc (ok := fun _ => True) w2 o) trivial hb2l
      have zg : ∀ o j, (w2.alloc o).cell? ⟨g, j, none⟩ = w2.cell? ⟨g, j, none⟩ := fun o j => Kept.cell (Kept.alloc (ok := fun _ => True) w2 o) trivial hg2l
      clear r2 o2 ht2 hA
      go_upto_region 13 with fail
      go_cut [4] (fun x4 wx => x4 = .pointer (some ⟨w2.heap.size, 0, none⟩) ∧ FlS b g cap ts A s w w2.heap.size wx)
      case first =>
        go_region_with (fail)
        all_goals
          go_wp2_with fail
          go_meet
          exact ⟨rfl, HFN.out⟩
      case rest =>
        obtain ⟨rfl, hF⟩ := hcut
        have HF := Lib.hid hF
        have i0 := hF.tok.c0
        have i1 := hF.tok.c1
        have hNb : ¬ w2.heap.size = b := by omega
        clear hF t0 t1 t2 t3 c0 c1 c4 zb zg HFN
        have HFG := HFF.out
        rw [← HAE.out] at HFG
        by_cases hkn : (tk ts A).kind = 1
        · rw [hkn] at i0
          rw [if_pos hkn] at HFG
          have HGG := Lib.hid HFG
          have HND := Lib.hid (rnode_u b g cap ts.length A s.open_ 0 0 s.n _ HF.out.rdg HS.out.n (fun _ => rfl))
          clear hkn HFG
          go_wp2_with fail
          refine HND.out.mono ?_
          rintro e w3 ⟨rfl, o3, n3, bad3, f3, r3, hc3⟩
          have hb3 := HF.out.box.keep o3.kept hne2
          have ht3 := HF.out.tok.keep o3.kept hNb
          have a1 := r3.c1
          have az := r3.fz
          have p0 := hb3.c0
          have p1 := hb3.c1
          have p2 := hb3.c2
          have p3 := hb3.c3
          have pz := hb3.fz
          have j1 := ht3.c1
          have HXF := Lib.hid ((hb3.keep (Kept.set (ok := (· ≠ b)) w3 b 1 (.int .i64 ((A : Int) + 1)) (by simp)) hne2).put (.int .i64 7) (.int .i64 0) (.string (S (tk ts A).text)) (.slice none 0 0))
          have HOF := Lib.hid (((HF.out.only.trans o3).set' 1 (.int .i64 ((A : Int) + 1))).put w.heap.size (Nat.le_refl _) (.int .i64 7) (.int .i64 0) (.string (S (tk ts A).text)) (.slice none 0 0))
          have HRF := Lib.hid ((r3.set1 ((A : Int) + 1)).keep (Kept.put (ok := (· ≠ w.heap.size)) _ w.heap.size (.int .i64 7) (.int .i64 0) (.string (S (tk ts A).text)) (.slice none 0 0) (by simp)) hne)
          have HC3 := Lib.hid hc3
          clear hb3 ht3 r3 o3 hc3
          go_wp2_with fail
          refine bodyPost_ret (res_expr rfl _ _ w.heap.size _ _ _ _ rfl HXF.out) rfl ?_
          rw [← HGG.out]
          exact ⟨HOF.out, 7, 0, (tk ts A).text, none, 0, 0, rfl, leaf_post (s := ⟨A, s.n, s.open_⟩) HRF.out (by simpa using HC3.out)⟩
        · rw [if_neg hkn] at HFG
          have HGG := Lib.hid HFG
          have HFA := Lib.hid (rfail_any b g cap ts.length A s.n s.open_ 0 25 _ HF.out.rdg)
          clear HFG
          go_wp2_with fail
          refine HFA.out.mono ?_
          rintro e w4 ⟨rfl, r4, o4⟩
          have hb4 := HF.out.box.keep o4.kept hne2
          have p0 := hb4.c0
          have p1 := hb4.c1
          have p2 := hb4.c2
          have p3 := hb4.c3
          have pz := hb4.fz
          have HXF := Lib.hid (hb4.put (.int .i64 0) (.int .i64 0) (.string ⟨#[]⟩) (.slice none 0 0))
          have HOF := Lib.hid ((HF.out.only.trans o4).put w.heap.size (Nat.le_refl _) (.int .i64 0) (.int .i64 0) (.string ⟨#[]⟩) (.slice none 0 0))
          have HRF := Lib.hid (r4.keep (Kept.put (ok := (· ≠ w.heap.size)) _ w.heap.size (.int .i64 0) (.int .i64 0) (.string ⟨#[]⟩) (.slice none 0 0) (by simp)) hne)
          clear hb4 r4 o4
          unfold noX
          go_wp2_with fail
          refine bodyPost_ret (res_expr rfl _ _ w.heap.size _ _ _ _ rfl HXF.out) rfl ?_
          rw [← HGG.out]
          exact ⟨HOF.out, 0, 0, [], none, 0, 0, rfl, by decide, _, _, _, HRF.out⟩
end Go.Proofs.YtabbdkdpmpjchaaGreatDoor.Ex
