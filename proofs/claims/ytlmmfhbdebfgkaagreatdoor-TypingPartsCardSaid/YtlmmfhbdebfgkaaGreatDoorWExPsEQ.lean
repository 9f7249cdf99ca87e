/-
  ExPsE, ExPsL.
-/
import Derived.Test.YtlmmfhbdebfgkaaGreatDoorWVlTwinQ
import Derived.Test.YtlmmfhbdebfgkaaGreatDoorWTyNodeQ
set_option linter.unusedVariables false
set_option linter.unusedSimpArgs false
set_option maxRecDepth 100000
set_option maxHeartbeats 8000000
namespace Go.Proofs.YtlmmfhbdebfgkaaGreatDoor.Ex
open Go.RowKit
open Lx Va
theorem Only.below_own {b B : Nat} {w0 w w' : World} (h : Only b w0 w) (k : Below B w w') (hB : w0.heap.size ≤ B) : Only b w0 w' :=
  ⟨k.os.trans h.os, k.tape.trans h.tape, k.output.trans h.output, Nat.le_trans h.size k.size, fun i hi hn => (k.block i (Nat.lt_of_lt_of_le hi hB)).trans (h.block i hi hn)⟩
theorem keptB {B : Nat} {w w' : World} (k : Below B w w') : Kept (· < B) w w' := ⟨k.size, fun g hg _ => k.block g hg⟩
theorem XR.one {w w1 : World} {b : Nat} (o : Only b w w1) (x : T) (q : Option Addr) (c : Nat) (hf : FAt w1 (w.heap.size ≤ ·) x.args q) :
    XR (w1.alloc (.cells #[.int .i64 x.op, .int .i64 x.num, .string (S x.text), .slice q x.args.len c] 24)) w.heap.size (.slice (some ⟨w1.heap.size, 0, none⟩) 1 1) [⟨x, q, c⟩] := by
  refine ⟨World.ownsRow_lit w1 #[.int .i64 x.op, .int .i64 x.num, .string (S x.text), .slice q x.args.len c] 1 o.size (by unfold maxLen; omega) rfl, ?_⟩
  intro y hy
  simp only [List.mem_cons, List.not_mem_nil, or_false] at hy
  subst hy
  have h1 : FAt w1 (fun g => w.heap.size ≤ g ∧ g < w1.heap.size) x.args q := FAt.mono (fun g hg hl => ⟨hl, hg⟩) _ _ hf
  refine FAt.mono (fun g _ hg => ⟨hg.1, fun e => ?_⟩) _ _ (h1.keep (Kept.alloc w1 _))
  simp [Value.ownBlock] at e
  omega
def sliceLen (v : Value) : Nat := match v with
  | .slice _ n _ => n
  | _ => 0
def ElP (b g cap : Nat) (ts : List TA) (o : Nat) (w : World) (FIN : R) (e : Ending) (w' : World) : Prop :=
  Only b w w' ∧ ((∃ er a, FIN = .bad er a ∧ e = panS a er) ∨ ∃ acc s2 q c, e = .returned (.slice q acc.len c) ∧ FAt w' (w.heap.size ≤ ·) acc q ∧ Psr w' b g cap ts.length s2.at_ s2.n s2.open_ ∧ StOk ts s2 ∧ s2.open_ = o ∧
    FIN = if isS ts s2.at_ [93] = true then .ok ⟨5, 0, [], acc⟩ ⟨s2.at_ + 1, s2.n, s2.open_ - 1⟩ else .bad 25 s2.at_)
theorem elems_step (rec : St → R) (l : List TA) (k : Nat) (acc : F) (s : St) : elemsR rec l (k + 1) acc s = if isS l s.at_ [93] = true then .ok ⟨5, 0, [], acc⟩ ⟨s.at_ + 1, s.n, s.open_ - 1⟩
    else if acc.len = 0 then (rec s).then fun y s2 => elemsR rec l k (acc.snoc y) s2
    else if isS l s.at_ [44] = true then
      if acc.len = 16 then (if begins l (s.at_ + 1) = true then .bad 27 (s.at_ + 1) else .bad 25 (s.at_ + 1))
      else (rec ⟨s.at_ + 1, s.n, s.open_⟩).then fun y s2 => elemsR rec l k (acc.snoc y) s2
    else .bad 25 s.at_ := rfl
theorem isS_not {ts : List TA} {a : Nat} {s u : List UInt8} (h : isS ts a s = true) (hn : s ≠ u) : isS ts a u = false := by
  obtain ⟨h1, h2⟩ := isS_kind h
  unfold isS
  rw [h2]
  have : (s == u) = false := by rw [beq_eq_false_iff_ne]; exact hn
  rw [this, Bool.and_false]
theorem pelements_any (b g cap : Nat) (ts : List TA) (hE : Env b g ts) (s : St) (w : World) (h : Psr w b g cap ts.length s.at_ s.n s.open_) (ht : TsAt w g ts) (hC : ConsAt w) (hs : StOk ts s) (rec : St → R) (hrk : RecOk ts rec) (h93 : isS ts s.at_ [93] = false)
    (HR : RecP b g cap ts s.open_ rec) (hnb : ∀ s1 : St, StOk ts s1 → s1.open_ = s.open_ → begins ts s1.at_ = false → rec s1 = .bad 25 s1.at_) :
    Calls Tryz.prog 207 #[.pointer (some ⟨b, 0, none⟩)] w fun e w' => ElP b g cap ts s.open_ w (elemsR rec ts 18 .nil s) e w' := by
  have HL0 := Lib.hid (HR s hs rfl w h ht hC)
  have hlt := h.lt
  have hgl := ht.lt
  have HEE := Lib.hid hE
  have HRK := Lib.hid hrk
  have HRR := Lib.hid HR
  have HNB := Lib.hid hnb
  have HS := Lib.hid hs
  have HT0 := Lib.hid ht
  have HC0 := Lib.hid hC
  have hcl := hC.2
  have hni : (ts.length : Int) ≤ 8001 := by have := hE.len; omega
  obtain ⟨FIN, hFIN⟩ : ∃ FIN, FIN = elemsR rec ts 18 .nil s := ⟨_, rfl⟩
  rw [← hFIN]
  rw [elems_step rec ts 17, h93, if_neg (by decide), if_pos (show F.nil.len = 0 from rfl)] at hFIN
  clear h ht hC hs hrk hE HR hnb h93
  cases hr : rec s with
  | bad er a =>
    rw [hr] at HL0 hFIN
    have HF := Lib.hid (show FIN = .bad er a from hFIN)
    clear hFIN hr
    go_enter Tryz.func207, Tryz.ntmps207
    go_wp2_with fail
    refine HL0.out.mono ?_
    rintro e w1 ⟨o1, rfl⟩
    have HO := Lib.hid o1
    clear o1
    unfold panS
    go_wp2_with fail
    exact ⟨rfl, HO.out, .inl ⟨er, a, HF.out, rfl⟩⟩
  | ok x s2 =>
    have ha := HRK.out s x s2 HS.out hr
    rw [hr] at HL0 hFIN
    have HF := Lib.hid (show elemsR rec ts 17 (rowF [⟨x, none, 0⟩]) s2 = FIN from hFIN.symm)
    have HS2 := Lib.hid (show StOk ts s2 from ha.ok HS.out.op)
    have HO2 := Lib.hid (show s2.open_ = s.open_ from ha.op)
    clear hFIN hr ha
    go_enter Tryz.func207, Tryz.ntmps207
    go_wp2_with fail
    refine HL0.out.mono ?_
    rintro e w1 ⟨o1, q, c, rfl, hfa, h1⟩
    have hxr := XR.one o1 x q c hfa
    have hba := (Below.refl w1.heap.size w1).alloc (Nat.le_refl _) (.cells #[.int .i64 x.op, .int .i64 x.num, .string (S x.text), .slice q x.args.len c] 24)
    obtain ⟨W1, hW1⟩ : ∃ W1, W1 = w1.alloc (.cells #[.int .i64 x.op, .int .i64 x.num, .string (S x.text), .slice q x.args.len c] 24) := ⟨_, rfl⟩
    have h2 := h1.below hba
    have ht2 := (o1.ts HT0.out HEE.out.ne).below hba
    have hc2 := (HC0.out.only o1 HEE.out.con).keep (Kept.of_below (ok := fun _ => True) hba) trivial
    have ho2 := o1.trans (Only.of_below (b := b) hba)
    rw [← hW1] at hxr h2 ht2 hc2 ho2
    have HXR := Lib.hid hxr
    have H2 := Lib.hid h2
    have HT2 := Lib.hid ht2
    have HC2 := Lib.hid hc2
    have HOO := Lib.hid ho2
    have HF2 := Lib.hid (show elemsR rec ts (18 - [(⟨x, q, c⟩ : X)].length) (rowF [⟨x, q, c⟩]) s2 = FIN from HF.out)
    have HW1 := Lib.hid hW1
    clear hxr hba hW1 h1 h2 ht2 hc2 ho2 o1 hfa HF
    unfold exprC
    go_wp2_with fail
    rw [← HW1.out]
    clear HW1
    go_loopw [3] (fun lv wr => ∃ (xs : List X) (s2 : St), XR wr w.heap.size lv xs ∧ 1 ≤ xs.length ∧ xs.length ≤ 16 ∧ Psr wr b g cap ts.length s2.at_ s2.n s2.open_ ∧ StOk ts s2 ∧ s2.open_ = s.open_ ∧ TsAt wr g ts ∧ ConsAt wr ∧ Only b w wr ∧ elemsR rec ts (18 - xs.length) (rowF xs) s2 = FIN) (fun lv _ => 17 - sliceLen lv)
    case atStart => exact ⟨_, s2, HXR.out, by simp, by simp, H2.out, HS2.out, HO2.out, HT2.out, HC2.out, HOO.out, HF2.out⟩
    case round =>
      obtain ⟨xs, s3, hxr, hl1, hl16, hp, hst, hop, htt, hcc, hoo, hfin⟩ := hrel
      obtain ⟨gr, cr, rfl⟩ := Go.Joins.ownsRow_form hxr.own (by omega)
      rw [show 18 - xs.length = (17 - xs.length) + 1 by omega, elems_step, rowF_len, if_neg (show ¬ xs.length = 0 by omega)] at hfin
      have HX3 := Lib.hid hxr
      have H3 := Lib.hid hp
      have HS3 := Lib.hid hst
      have HP3 := Lib.hid hop
      have HT3 := Lib.hid htt
      have HC3 := Lib.hid hcc
      have HO3 := Lib.hid hoo
      have hai : (s3.at_ : Int) < 8001 := by have := hst.at_; omega
      have hli : (xs.length : Int) ≤ 16 := by omega
      have HIS := Lib.hid (fun (u : ByteArray) => pis_any b g cap s3.at_ s3.n s3.open_ ts u wr hp htt hst.at_ HEE.out.len (HEE.out.toks _))
      have HI := Lib.hid (HIS.out ⟨#[44]⟩)
      cases h44 : isS ts s3.at_ [44] with
      | false =>
        rw [show ((⟨#[44]⟩ : ByteArray).data.toList) = [44] from rfl, h44] at HI
        have HF := Lib.hid (show FIN = if isS ts s3.at_ [93] = true then .ok ⟨5, 0, [], rowF xs⟩ ⟨s3.at_ + 1, s3.n, s3.open_ - 1⟩ else .bad 25 s3.at_ by rw [← hfin, h44]; rfl)
        clear hxr hp hst hop htt hcc hoo hfin HIS h44
        go_wp2_with fail
        refine HI.out.mono ?_
        rintro e w4 ⟨rfl, b4⟩
        have HB4 := Lib.hid b4
        clear b4
        go_wp2_with fail
        go_ret
        obtain ⟨pr, c3, e3, hrow⟩ := HX3.out.row
        injection e3 with e3 _ e4
        subst e3 e4
        exact ⟨HO3.out.trans (Only.of_below (b := b) HB4.out), .inr ⟨rowF xs, s3, _, _, by rw [rowF_len]; rfl, hrow.keep (Kept.of_below HB4.out), H3.out.below HB4.out, HS3.out, HP3.out, HF.out⟩⟩
      | true =>
        rw [show ((⟨#[44]⟩ : ByteArray).data.toList) = [44] from rfl, h44] at HI
        rw [isS_not h44 (by decide : ([44] : List UInt8) ≠ [93]), if_neg (by decide), h44, if_pos rfl] at hfin
        have hnx := HEE.out.ends.next hst.at_ (isS_ne h44)
        have HS5 := Lib.hid (show StOk ts ⟨s3.at_ + 1, s3.n, s3.open_⟩ from ⟨hnx, hst.n, hst.op⟩)
        have HGL := Lib.hid (show gr < wr.heap.size by
          obtain ⟨pr, c3, e3, hrow⟩ := hxr.row
          rcases hxr.own.2 with ⟨_, h0⟩ | ⟨g2, cap2, cur, e, _, hg, _⟩
          · omega
          · injection e with e _ _
            injection e with e
            injection e with e _ _
            rw [e]; exact (Array.getElem?_eq_some_iff.1 hg).1)
        have HGB := Lib.hid (show w.heap.size ≤ gr by
          rcases hxr.own.2 with ⟨_, h0⟩ | ⟨g2, cap2, cur, e, hB, hg, _⟩
          · omega
          · injection e with e _ _
            injection e with e
            injection e with e _ _
            rw [e]; exact hB)
        by_cases h16 : xs.length = 16
        · rw [if_pos h16] at hfin
          have e16 : ((xs.length : Int) == 16) = true := by rw [h16]; rfl
          have HBG := Lib.hid (fun w5 (k : Psr w5 b g cap ts.length ((s3.at_ + 1 : Nat) : Int) s3.n s3.open_) (kt : TsAt w5 g ts) (kc : ConsAt w5) => pbegins_any b g cap (s3.at_ + 1) s3.n s3.open_ ts w5 k kt hnx HEE.out.len (HEE.out.toks _) kc)
          have HWR := Lib.hid (fun w5 (k : Psr w5 b g cap ts.length ((s3.at_ + 1 : Nat) : Int) s3.n s3.open_) => pwrong_any b g cap ts.length ((s3.at_ + 1 : Nat) : Int) s3.n s3.open_ 27 w5 k)
          have HRC := Lib.hid (fun w5 (k : Psr w5 b g cap ts.length ((s3.at_ + 1 : Nat) : Int) s3.n s3.open_) (kt : TsAt w5 g ts) (kc : ConsAt w5) => HRR.out ⟨s3.at_ + 1, s3.n, s3.open_⟩ HS5.out hop w5 k kt kc)
          cases hbg : begins ts (s3.at_ + 1) with
          | true =>
            rw [hbg] at HBG
            rw [hbg, if_pos rfl] at hfin
            have HF := Lib.hid hfin.symm
            clear hxr hp hst hop htt hcc hoo hfin HIS h44 hbg h16 hnx HRC
            go_wp2_with fail
            refine HI.out.mono ?_
            rintro e w4 ⟨rfl, b4⟩
            have h4 := H3.out.below b4
            have c1 := h4.c1
            have fz := h4.fz
            have h5 := h4.set1 ((s3.at_ : Int) + 1)
            have o5 := Only.set b w4 1 (.int .i64 ((s3.at_ : Int) + 1))
            have ht5 := o5.ts (HT3.out.below b4) HEE.out.ne
            have hc5 := (HC3.out.keep (Kept.of_below (ok := fun _ => True) b4) trivial).only o5 HEE.out.con
            have ho5 := (HO3.out.trans (Only.of_below (b := b) b4)).trans o5
            have kx5 := (Kept.of_below (ok := (w.heap.size ≤ ·)) b4).trans (Kept.set w4 b 1 (.int .i64 ((s3.at_ : Int) + 1)) (by show ¬ w.heap.size ≤ b; omega))
            obtain ⟨W5, hW5⟩ : ∃ W5, W5 = w4.setCell ⟨b, 1, none⟩ (.int .i64 ((s3.at_ : Int) + 1)) := ⟨_, rfl⟩
            rw [← hW5] at h5 o5 ht5 hc5 ho5 kx5
            have H5 := Lib.hid h5
            have HT5 := Lib.hid ht5
            have HC5 := Lib.hid hc5
            have HO5 := Lib.hid ho5
            have KX5 := Lib.hid kx5
            have HW5 := Lib.hid hW5
            clear b4 h4 h5 o5 ht5 hc5 ho5 kx5 hW5
            have HB5 := Lib.hid (HBG.out W5 H5.out HT5.out HC5.out)
            go_wp2_with fail
            rw [← HW5.out]
            refine HB5.out.mono ?_
            rintro e w6 ⟨rfl, b6⟩
            have HW6 := Lib.hid (HWR.out w6 (H5.out.below b6))
            have HO6 := Lib.hid (HO5.out.trans (Only.of_below (b := b) b6))
            clear b6
            go_wp2_with fail
            refine HW6.out.mono ?_
            rintro e w7 ⟨rfl, b7⟩
            have HO7 := Lib.hid (HO6.out.trans (Only.of_below (b := b) b7))
            clear b7
            go_wp2_with fail
            exact ⟨rfl, HO7.out, .inl ⟨27, _, HF.out, rfl⟩⟩
          | false =>
            have hrb := HNB.out ⟨s3.at_ + 1, s3.n, s3.open_⟩ HS5.out hop hbg
            rw [hbg] at HBG
            rw [hrb] at HRC
            rw [hbg, if_neg (by decide)] at hfin
            have HF := Lib.hid hfin.symm
            clear hxr hp hst hop htt hcc hoo hfin HIS h44 hbg h16 hnx hrb HWR
            go_wp2_with fail
            refine HI.out.mono ?_
            rintro e w4 ⟨rfl, b4⟩
            have h4 := H3.out.below b4
            have c1 := h4.c1
            have fz := h4.fz
            have h5 := h4.set1 ((s3.at_ : Int) + 1)
            have o5 := Only.set b w4 1 (.int .i64 ((s3.at_ : Int) + 1))
            have ht5 := o5.ts (HT3.out.below b4) HEE.out.ne
            have hc5 := (HC3.out.keep (Kept.of_below (ok := fun _ => True) b4) trivial).only o5 HEE.out.con
            have ho5 := (HO3.out.trans (Only.of_below (b := b) b4)).trans o5
            have kx5 := (Kept.of_below (ok := (w.heap.size ≤ ·)) b4).trans (Kept.set w4 b 1 (.int .i64 ((s3.at_ : Int) + 1)) (by show ¬ w.heap.size ≤ b; omega))
            obtain ⟨W5, hW5⟩ : ∃ W5, W5 = w4.setCell ⟨b, 1, none⟩ (.int .i64 ((s3.at_ : Int) + 1)) := ⟨_, rfl⟩
            rw [← hW5] at h5 o5 ht5 hc5 ho5 kx5
            have H5 := Lib.hid h5
            have HT5 := Lib.hid ht5
            have HC5 := Lib.hid hc5
            have HO5 := Lib.hid ho5
            have KX5 := Lib.hid kx5
            have HW5 := Lib.hid hW5
            clear b4 h4 h5 o5 ht5 hc5 ho5 kx5 hW5
            have HB5 := Lib.hid (HBG.out W5 H5.out HT5.out HC5.out)
            go_wp2_with fail
            rw [← HW5.out]
            refine HB5.out.mono ?_
            rintro e w6 ⟨rfl, b6⟩
            have HR6 := Lib.hid (HRC.out w6 (H5.out.below b6) (HT5.out.below b6) (HC5.out.keep (Kept.of_below (ok := fun _ => True) b6) trivial))
            have HO6 := Lib.hid (HO5.out.trans (Only.of_below (b := b) b6))
            clear b6
            go_wp2_with fail
            refine HR6.out.mono ?_
            rintro e w7 ⟨o7, rfl⟩
            have HO7 := Lib.hid (HO6.out.trans o7)
            clear o7
            unfold panS
            go_wp2_with fail
            exact ⟨rfl, HO7.out, .inl ⟨25, _, HF.out, rfl⟩⟩
        · rw [if_neg h16] at hfin
          have e16 : ((xs.length : Int) == 16) = false := by rw [beq_eq_false_iff_ne]; omega
          have HRC := Lib.hid (fun w5 (k : Psr w5 b g cap ts.length ((s3.at_ + 1 : Nat) : Int) s3.n s3.open_) (kt : TsAt w5 g ts) (kc : ConsAt w5) => HRR.out ⟨s3.at_ + 1, s3.n, s3.open_⟩ HS5.out hop w5 k kt kc)
          cases hr3 : rec ⟨s3.at_ + 1, s3.n, s3.open_⟩ with
          | bad er a =>
            rw [hr3] at HRC hfin
            have HF := Lib.hid (show FIN = .bad er a from hfin.symm)
            clear hxr hp hst hop htt hcc hoo hfin HIS h44 h16 hnx hr3
            go_wp2_with fail
            refine HI.out.mono ?_
            rintro e w4 ⟨rfl, b4⟩
            have h4 := H3.out.below b4
            have c1 := h4.c1
            have fz := h4.fz
            have h5 := h4.set1 ((s3.at_ : Int) + 1)
            have o5 := Only.set b w4 1 (.int .i64 ((s3.at_ : Int) + 1))
            have ht5 := o5.ts (HT3.out.below b4) HEE.out.ne
            have hc5 := (HC3.out.keep (Kept.of_below (ok := fun _ => True) b4) trivial).only o5 HEE.out.con
            have ho5 := (HO3.out.trans (Only.of_below (b := b) b4)).trans o5
            have kx5 := (Kept.of_below (ok := (w.heap.size ≤ ·)) b4).trans (Kept.set w4 b 1 (.int .i64 ((s3.at_ : Int) + 1)) (by show ¬ w.heap.size ≤ b; omega))
            obtain ⟨W5, hW5⟩ : ∃ W5, W5 = w4.setCell ⟨b, 1, none⟩ (.int .i64 ((s3.at_ : Int) + 1)) := ⟨_, rfl⟩
            rw [← hW5] at h5 o5 ht5 hc5 ho5 kx5
            have H5 := Lib.hid h5
            have HT5 := Lib.hid ht5
            have HC5 := Lib.hid hc5
            have HO5 := Lib.hid ho5
            have KX5 := Lib.hid kx5
            have HW5 := Lib.hid hW5
            clear b4 h4 h5 o5 ht5 hc5 ho5 kx5 hW5
            have HR5 := Lib.hid (HRC.out W5 H5.out HT5.out HC5.out)
            go_wp2_with fail
            rw [← HW5.out]
            refine HR5.out.mono ?_
            rintro e w7 ⟨o7, rfl⟩
            have HO7 := Lib.hid (HO5.out.trans o7)
            clear o7
            unfold panS
            go_wp2_with fail
            exact ⟨rfl, HO7.out, .inl ⟨er, a, HF.out, rfl⟩⟩
          | ok y s4 =>
            have ha := HRK.out ⟨s3.at_ + 1, s3.n, s3.open_⟩ y s4 HS5.out hr3
            rw [hr3] at HRC hfin
            replace hfin : elemsR rec ts (17 - xs.length) ((rowF xs).snoc y) s4 = FIN := hfin
            have HF := Lib.hid (fun (q : Option Addr) (c : Nat) => show elemsR rec ts (18 - (xs ++ [(⟨y, q, c⟩ : X)]).length) (rowF (xs ++ [⟨y, q, c⟩])) s4 = FIN by
              rw [rowF_snoc, show 18 - (xs ++ [(⟨y, q, c⟩ : X)]).length = 17 - xs.length by simp]; exact hfin)
            have HS4 := Lib.hid (show StOk ts s4 from ha.ok hst.op)
            have HP4 := Lib.hid (show s4.open_ = s.open_ from ha.op.trans hop)
            clear hxr hp hst hop htt hcc hoo hfin HIS h44 hnx hr3 ha
            go_wp2_with fail
            refine HI.out.mono ?_
            rintro e w4 ⟨rfl, b4⟩
            have h4 := H3.out.below b4
            have c1 := h4.c1
            have fz := h4.fz
            have h5 := h4.set1 ((s3.at_ : Int) + 1)
            have o5 := Only.set b w4 1 (.int .i64 ((s3.at_ : Int) + 1))
            have ht5 := o5.ts (HT3.out.below b4) HEE.out.ne
            have hc5 := (HC3.out.keep (Kept.of_below (ok := fun _ => True) b4) trivial).only o5 HEE.out.con
            have ho5 := (HO3.out.trans (Only.of_below (b := b) b4)).trans o5
            have kx5 := (Kept.of_below (ok := (w.heap.size ≤ ·)) b4).trans (Kept.set w4 b 1 (.int .i64 ((s3.at_ : Int) + 1)) (by show ¬ w.heap.size ≤ b; omega))
            obtain ⟨W5, hW5⟩ : ∃ W5, W5 = w4.setCell ⟨b, 1, none⟩ (.int .i64 ((s3.at_ : Int) + 1)) := ⟨_, rfl⟩
            rw [← hW5] at h5 o5 ht5 hc5 ho5 kx5
            have H5 := Lib.hid h5
            have HT5 := Lib.hid ht5
            have HC5 := Lib.hid hc5
            have HO5 := Lib.hid ho5
            have KX5 := Lib.hid kx5
            have HW5 := Lib.hid hW5
            clear b4 h4 h5 o5 ht5 hc5 ho5 kx5 hW5
            have HR5 := Lib.hid (HRC.out W5 H5.out HT5.out HC5.out)
            go_wp2_with fail
            rw [← HW5.out]
            refine HR5.out.mono ?_
            rintro e w7 ⟨o7, q, c, rfl, hfa, h7⟩
            have hx7 := (HX3.out.later KX5.out).later (o7.keptB (by show ¬ w.heap.size ≤ b; omega))
            have hz5 : gr < W5.heap.size := Nat.lt_of_lt_of_le HGL.out KX5.out.size
            obtain ⟨v', w8, hrun, hxr8, hb8, hsz8, hk8⟩ := app_x w.heap.size (.slice (some ⟨gr, 0, none⟩) xs.length cr) xs w7 hx7 (Nat.le_trans HO5.out.size o7.size) (by omega) ⟨y, q, c⟩ (FAt.mono (fun g2 _ hg => ⟨Nat.le_trans HO5.out.size hg, fun e => by simp [Value.ownBlock] at e; have : W5.heap.size ≤ g2 := hg; omega⟩) _ _ hfa) w7.heap.size rfl
            obtain ⟨g8, c8, rfl⟩ := Go.Joins.ownsRow_form hxr8.own (by simp)
            simp only at hrun
            rw [List.length_append] at hrun
            rw [show (xs ++ [(⟨y, q, c⟩ : X)]).length = xs.length + 1 by simp] at hxr8
            have HRUN := Lib.hid hrun
            clear hrun
            have HX8 := Lib.hid hxr8
            have H8 := Lib.hid (h7.keep (keptB hb8) hlt)
            have HT8 := Lib.hid ((o7.ts HT5.out HEE.out.ne).keep (keptB hb8) hgl)
            have HC8 := Lib.hid ((HC5.out.only o7 HEE.out.con).keep (keptB hb8) hcl)
            have HO8 := Lib.hid ((HO5.out.trans o7).below_own hb8 (Nat.le_refl _))
            have HF8 := Lib.hid (HF.out q c)
            clear o7 hfa h7 hx7 hz5 hxr8 hb8 hsz8 hk8
            unfold exprC
            go_wp2_with (at_builtin; refine wpList_apx rfl _ _ _ _ rfl rfl rfl _ _ HRUN.out ?_)
            go_wp2_with fail
            go_roundw
            case rel => exact ⟨_, s4, HX8.out, by simp, by simp; omega, H8.out, HS4.out, HP4.out, HT8.out, HC8.out, HO8.out, HF8.out⟩
            case measure => simp [sliceLen]; omega
end Go.Proofs.YtlmmfhbdebfgkaaGreatDoor.Ex
namespace Go.Proofs.YtlmmfhbdebfgkaaGreatDoor.Ex
open Go.RowKit
open Lx Va
theorem plist_any (b g cap : Nat) (ts : List TA) (hE : Env b g ts) (s : St) (w : World) (h : Psr w b g cap ts.length s.at_ s.n s.open_) (ht : TsAt w g ts) (hC : ConsAt w) (hs : StOk ts s) (rec : St → R) (hrk : RecOk ts rec) (hi : isS ts s.at_ [91] = true)
    (HR : RecP b g cap ts (s.open_ + 1) rec) (hnb : ∀ s1 : St, StOk ts s1 → s1.open_ = s.open_ + 1 → begins ts s1.at_ = false → rec s1 = .bad 25 s1.at_) :
    Calls Tryz.prog 168 #[.pointer (some ⟨b, 0, none⟩)] w fun e w' => ResP b g cap ts w (enterR s fun s1 => elemsR rec ts 18 .nil s1) e w' := by
  have hnx := hE.ends.next hs.at_ (isS_ne hi)
  have hlt := h.lt
  have hgl := ht.lt
  have hb := (Below.refl w.heap.size w).alloc (Nat.le_refl _) (.cells #[.int .i64 0, .int .i64 0, .string ⟨#[]⟩, .slice none 0 0] 24)
  have HX := Lib.hid (Bx.new w (.int .i64 0) (.int .i64 0) (.string ⟨#[]⟩) (.slice none 0 0))
  have H0 := Lib.hid (h.below hb)
  have HT := Lib.hid (ht.below hb)
  have HC := Lib.hid (hC.keep (Kept.of_below (ok := fun _ => True) hb) trivial)
  have HB := Lib.hid hb
  have HEE := Lib.hid hE
  have hop := hs.op
  have hsn := hs.n
  have hni : (s.at_ : Int) < 8001 := by have := hs.at_; have := hE.len; omega
  have hne1 : ¬ w.heap.size = b := by omega
  have hne2 : ¬ b = w.heap.size := by omega
  have HRK := Lib.hid hrk
  have HRR := Lib.hid HR
  have HNB := Lib.hid hnb
  clear h ht hC hs hb hi hE hrk HR hnb
  unfold enterR
  by_cases h20 : s.open_ = 20
  · rw [if_pos h20]
    rw [h20] at H0
    have HP := Lib.hid (penter_bad b g cap s.at_ s.n ts.length _ H0.out)
    clear h20 hop hnx hsn
    go_enter Tryz.func168, Tryz.ntmps168
    go_wp2_with fail
    refine HP.out.mono ?_
    rintro e w1 ⟨rfl, b1⟩
    have HO := Lib.hid (Only.of_below (b := b) (HB.out.trans (b1.mono HB.out.size)))
    clear b1
    unfold panS
    go_wp2_with fail
    exact ⟨rfl, HO.out, rfl⟩
  rw [if_neg h20]
  have HP := Lib.hid (penter_ok b g cap s.at_ s.n s.open_ ts.length _ H0.out (by omega))
  by_cases h200 : s.n = 200
  · rw [if_pos h200]
    have HQ := Lib.hid (fun w1 (k : Psr w1 b g cap ts.length s.at_ s.n ((s.open_ : Int) + 1)) => pproduce_bad b g cap s.at_ ((s.open_ : Int) + 1) ts.length w1 (by rw [h200] at k; exact k))
    clear h20 h200 hop hnx hsn
    go_enter Tryz.func168, Tryz.ntmps168
    go_wp2_with fail
    refine HP.out.mono ?_
    rintro e w1 ⟨rfl, o1, h1⟩
    have HQ1 := Lib.hid (HQ.out w1 h1)
    have HO1 := Lib.hid ((Only.of_below (b := b) HB.out).trans o1)
    clear o1 h1
    go_wp2_with fail
    refine HQ1.out.mono ?_
    rintro e w2 ⟨rfl, b2⟩
    have HO := Lib.hid (HO1.out.trans (Only.of_below (b := b) b2))
    clear b2
    unfold panS
    go_wp2_with fail
    exact ⟨rfl, HO.out, rfl⟩
  rw [if_neg h200]
  have HQ := Lib.hid (fun w1 (k : Psr w1 b g cap ts.length s.at_ s.n ((s.open_ : Int) + 1)) => pproduce_ok b g cap s.at_ ((s.open_ : Int) + 1) s.n ts.length w1 k (by omega))
  have HS1 := Lib.hid (show StOk ts ⟨s.at_ + 1, s.n + 1, s.open_ + 1⟩ from ⟨hnx, by show s.n + 1 ≤ 200; omega, by show s.open_ + 1 ≤ 20; omega⟩)
  have hop1 : s.open_ + 1 ≤ 20 := by omega
  have HIS := Lib.hid (fun w3 (k : Psr w3 b g cap ts.length ((s.at_ + 1 : Nat) : Int) ((s.n + 1 : Nat) : Int) ((s.open_ + 1 : Nat) : Int)) (kt : TsAt w3 g ts) => pis_any b g cap (s.at_ + 1) ((s.n + 1 : Nat) : Int) ((s.open_ + 1 : Nat) : Int) ts ⟨#[93]⟩ w3 k kt hnx HEE.out.len (HEE.out.toks _))
  clear h20 h200 hop hsn
  show Calls _ _ _ _ (fun e w' => ResP b g cap ts w (elemsR rec ts 18 .nil ⟨s.at_ + 1, s.n + 1, s.open_ + 1⟩) e w')
  obtain ⟨FIN, hF0⟩ : ∃ FIN, FIN = elemsR rec ts 18 .nil ⟨s.at_ + 1, s.n + 1, s.open_ + 1⟩ := ⟨_, rfl⟩
  rw [← hF0]
  have HF0 := Lib.hid hF0
  clear hF0
  have HT1L := Lib.hid (show g < w.heap.size by exact hgl)
  cases h93 : isS ts (s.at_ + 1) [93] with
  | true =>
    have HFE := Lib.hid (show elemsR rec ts 18 .nil ⟨s.at_ + 1, s.n + 1, s.open_ + 1⟩ = .ok ⟨5, 0, [], .nil⟩ ⟨s.at_ + 1 + 1, s.n + 1, s.open_ + 1 - 1⟩ by
      rw [elems_step rec ts 17, if_pos h93])
    have e0 := HF0.out.trans HFE.out
    subst e0
    clear HFE HF0
    go_enter Tryz.func168, Tryz.ntmps168
    go_wp2_with fail
    refine HP.out.mono ?_
    rintro e w1 ⟨rfl, o1, h1⟩
    have HQ1 := Lib.hid (HQ.out w1 h1)
    have HO1 := Lib.hid ((Only.of_below (b := b) HB.out).trans o1)
    have HX1 := Lib.hid (HX.out.keep o1.kept hne1)
    have HT1 := Lib.hid (o1.ts HT.out HEE.out.ne)
    have HC1 := Lib.hid (HC.out.only o1 HEE.out.con)
    clear o1 h1
    go_wp2_with fail
    refine HQ1.out.mono ?_
    rintro e w2 ⟨rfl, o2, h2⟩
    have c1 := h2.c1
    have fz := h2.fz
    have o3 := o2.set' 1 (.int .i64 ((s.at_ : Int) + 1))
    obtain ⟨W4, hW4⟩ : ∃ W4, W4 = (w2.setCell ⟨b, 1, none⟩ (.int .i64 ((s.at_ : Int) + 1))).alloc (.cells #[.int .i64 5, .int .i64 0, .string ⟨#[]⟩, .slice none 0 0] 24) := ⟨_, rfl⟩
    have b4 := (Below.refl _ (w2.setCell ⟨b, 1, none⟩ (.int .i64 ((s.at_ : Int) + 1)))).alloc (Nat.le_refl _) (.cells #[.int .i64 5, .int .i64 0, .string ⟨#[]⟩, .slice none 0 0] 24)
    have h4 := (h2.set1 ((s.at_ : Int) + 1)).below b4
    have ht4 := (o3.ts HT1.out HEE.out.ne).below b4
    have hc4 := (HC1.out.only o3 HEE.out.con).keep (Kept.of_below (ok := fun _ => True) b4) trivial
    have ho4 := (HO1.out.trans o3).trans (Only.of_below (b := b) b4)
    have hx4 := laterB (HX1.out.keep o3.kept hne1) b4
    have he4 := new_box (w2.setCell ⟨b, 1, none⟩ (.int .i64 ((s.at_ : Int) + 1))) #[.int .i64 5, .int .i64 0, .string ⟨#[]⟩, .slice none 0 0] 24 w2.heap.size (by simp)
    have hz : w2.heap.size < W4.heap.size := by rw [hW4]; simp
    rw [← hW4] at h4 ht4 hc4 ho4 hx4 he4
    obtain ⟨X, hX⟩ : ∃ X, w2.heap.size = X := ⟨_, rfl⟩
    rw [hX] at he4 hz
    have hX1 : b < X := by rw [← hX]; exact h2.lt
    have hX2 : w.heap.size < X := by rw [← hX]; exact Nat.lt_of_lt_of_le HX1.out.lt o2.size
    have H4 := Lib.hid h4
    have HT4 := Lib.hid ht4
    have HC4 := Lib.hid hc4
    have HO4 := Lib.hid ho4
    have HX4 := Lib.hid hx4
    have HE4 := Lib.hid (show Bx W4 X (.int .i64 5) (.int .i64 0) (.string ⟨#[]⟩) (.slice none 0 0) from he4)
    have HZ4 := Lib.hid hz
    have HI := Lib.hid (HIS.out W4 h4 ht4)
    have HW4 := Lib.hid hW4
    have HHX := Lib.hid hX
    have hneX : ¬ X = b := by omega
    have hneX2 : ¬ w.heap.size = X := by omega
    have hneX3 : ¬ X = w.heap.size := by omega
    clear o2 h2 o3 b4 h4 ht4 hc4 ho4 hx4 he4 hz hW4 hX
    rw [show isS ts (s.at_ + 1) ((⟨#[93]⟩ : ByteArray).data.toList) = true from h93] at HI
    go_wp2_with fail
    rw [HHX.out, ← HW4.out]
    clear HHX HW4 c1 fz
    refine HI.out.mono ?_
    rintro e w5 ⟨rfl, b5⟩
    have H5 := Lib.hid (H4.out.below b5)
    have HT5 := Lib.hid (HT4.out.below b5)
    have HC5 := Lib.hid (HC4.out.keep (Kept.of_below (ok := fun _ => True) b5) trivial)
    have HO5 := Lib.hid (HO4.out.trans (Only.of_below (b := b) b5))
    have HX5 := Lib.hid (laterB HX4.out b5)
    have HE5 := Lib.hid (laterB HE4.out b5)
    have HZ5 := Lib.hid (Nat.lt_of_lt_of_le HZ4.out b5.size)
    clear b5
    have HLV := Lib.hid (pleave_ok b g cap (s.at_ + 1) ((s.n + 1 : Nat)) ts (s.open_ + 1) ⟨#[93]⟩ _ H5.out HT5.out hnx HEE.out.len (HEE.out.toks _) (by omega) hop1 h93)
    go_wp2_with fail
    refine HLV.out.mono ?_
    rintro e w8 ⟨rfl, o8, h8⟩
    have hx8 := HX5.out.keep o8.kept hne1
    have he8 := HE5.out.keep o8.kept hneX
    have p0 := he8.c0
    have p1 := he8.c1
    have p2 := he8.c2
    have p3 := he8.c3
    have q0 := hx8.c0
    have q1 := hx8.c1
    have q2 := hx8.c2
    have q3 := hx8.c3
    have fr := hx8.fz
    have HXF := Lib.hid (hx8.put (.int .i64 5) (.int .i64 0) (.string ⟨#[]⟩) (.slice none 0 0))
    have HOF := Lib.hid ((HO5.out.trans o8).put w.heap.size (Nat.le_refl _) (.int .i64 5) (.int .i64 0) (.string ⟨#[]⟩) (.slice none 0 0))
    have HPF := Lib.hid (h8.keep (Kept.put (ok := (· ≠ w.heap.size)) w8 w.heap.size (.int .i64 5) (.int .i64 0) (.string ⟨#[]⟩) (.slice none 0 0) (by simp)) hne2)
    have HFF := Lib.hid ((trivial : FAt (put4 w8 w.heap.size (.int .i64 5) (.int .i64 0) (.string ⟨#[]⟩) (.slice none 0 0)) (w.heap.size ≤ ·) .nil none))
    clear o8 h8 hx8 he8
    go_wp2_with fail
    refine bodyPost_ret (res_expr rfl _ _ w.heap.size _ _ _ _ rfl HXF.out) rfl ?_
    exact ⟨HOF.out, none, 0, rfl, HFF.out, HPF.out⟩
  | false =>
    have HEL := Lib.hid (fun w5 (k : Psr w5 b g cap ts.length ((s.at_ + 1 : Nat) : Int) ((s.n + 1 : Nat) : Int) ((s.open_ + 1 : Nat) : Int)) (kt : TsAt w5 g ts) (kc : ConsAt w5) => pelements_any b g cap ts HEE.out ⟨s.at_ + 1, s.n + 1, s.open_ + 1⟩ w5 k kt kc HS1.out rec HRK.out h93 HRR.out HNB.out)
    go_enter Tryz.func168, Tryz.ntmps168
    go_wp2_with fail
    refine HP.out.mono ?_
    rintro e w1 ⟨rfl, o1, h1⟩
    have HQ1 := Lib.hid (HQ.out w1 h1)
    have HO1 := Lib.hid ((Only.of_below (b := b) HB.out).trans o1)
    have HX1 := Lib.hid (HX.out.keep o1.kept hne1)
    have HT1 := Lib.hid (o1.ts HT.out HEE.out.ne)
    have HC1 := Lib.hid (HC.out.only o1 HEE.out.con)
    clear o1 h1
    go_wp2_with fail
    refine HQ1.out.mono ?_
    rintro e w2 ⟨rfl, o2, h2⟩
    have c1 := h2.c1
    have fz := h2.fz
    have o3 := o2.set' 1 (.int .i64 ((s.at_ : Int) + 1))
    obtain ⟨W4, hW4⟩ : ∃ W4, W4 = (w2.setCell ⟨b, 1, none⟩ (.int .i64 ((s.at_ : Int) + 1))).alloc (.cells #[.int .i64 5, .int .i64 0, .string ⟨#[]⟩, .slice none 0 0] 24) := ⟨_, rfl⟩
    have b4 := (Below.refl _ (w2.setCell ⟨b, 1, none⟩ (.int .i64 ((s.at_ : Int) + 1)))).alloc (Nat.le_refl _) (.cells #[.int .i64 5, .int .i64 0, .string ⟨#[]⟩, .slice none 0 0] 24)
    have h4 := (h2.set1 ((s.at_ : Int) + 1)).below b4
    have ht4 := (o3.ts HT1.out HEE.out.ne).below b4
    have hc4 := (HC1.out.only o3 HEE.out.con).keep (Kept.of_below (ok := fun _ => True) b4) trivial
    have ho4 := (HO1.out.trans o3).trans (Only.of_below (b := b) b4)
    have hx4 := laterB (HX1.out.keep o3.kept hne1) b4
    have he4 := new_box (w2.setCell ⟨b, 1, none⟩ (.int .i64 ((s.at_ : Int) + 1))) #[.int .i64 5, .int .i64 0, .string ⟨#[]⟩, .slice none 0 0] 24 w2.heap.size (by simp)
    have hz : w2.heap.size < W4.heap.size := by rw [hW4]; simp
    rw [← hW4] at h4 ht4 hc4 ho4 hx4 he4
    obtain ⟨X, hX⟩ : ∃ X, w2.heap.size = X := ⟨_, rfl⟩
    rw [hX] at he4 hz
    have hX1 : b < X := by rw [← hX]; exact h2.lt
    have hX2 : w.heap.size < X := by rw [← hX]; exact Nat.lt_of_lt_of_le HX1.out.lt o2.size
    have H4 := Lib.hid h4
    have HT4 := Lib.hid ht4
    have HC4 := Lib.hid hc4
    have HO4 := Lib.hid ho4
    have HX4 := Lib.hid hx4
    have HE4 := Lib.hid (show Bx W4 X (.int .i64 5) (.int .i64 0) (.string ⟨#[]⟩) (.slice none 0 0) from he4)
    have HZ4 := Lib.hid hz
    have HI := Lib.hid (HIS.out W4 h4 ht4)
    have HW4 := Lib.hid hW4
    have HHX := Lib.hid hX
    have hneX : ¬ X = b := by omega
    have hneX2 : ¬ w.heap.size = X := by omega
    have hneX3 : ¬ X = w.heap.size := by omega
    clear o2 h2 o3 b4 h4 ht4 hc4 ho4 hx4 he4 hz hW4 hX
    rw [show isS ts (s.at_ + 1) ((⟨#[93]⟩ : ByteArray).data.toList) = false from h93] at HI
    go_wp2_with fail
    rw [HHX.out, ← HW4.out]
    clear HHX HW4 c1 fz
    refine HI.out.mono ?_
    rintro e w5 ⟨rfl, b5⟩
    have H5 := Lib.hid (H4.out.below b5)
    have HT5 := Lib.hid (HT4.out.below b5)
    have HC5 := Lib.hid (HC4.out.keep (Kept.of_below (ok := fun _ => True) b5) trivial)
    have HO5 := Lib.hid (HO4.out.trans (Only.of_below (b := b) b5))
    have HX5 := Lib.hid (laterB HX4.out b5)
    have HE5 := Lib.hid (laterB HE4.out b5)
    have HZ5 := Lib.hid (Nat.lt_of_lt_of_le HZ4.out b5.size)
    clear b5
    go_wp2_with fail
    refine (HEL.out w5 H5.out HT5.out HC5.out).mono ?_
    rintro e w6 ⟨o6, hor⟩
    rcases hor with ⟨er, a, hf, rfl⟩ | ⟨acc, s2, q, c, rfl, hfa, h6, hst, hop6, hf⟩
    · have HO6 := Lib.hid (HO5.out.trans o6)
      have HF := Lib.hid hf
      clear o6 hf
      unfold panS
      go_wp2_with fail
      have e0 := HF0.out.trans HF.out
      subst e0
      exact ⟨rfl, HO6.out, rfl⟩
    · have he6 := HE5.out.keep o6.kept hneX
      have hx6 := HX5.out.keep o6.kept hne1
      have fe := he6.fz
      have e3 := he6.c3
      obtain ⟨W7, hW7⟩ : ∃ W7, W7 = w6.setCell ⟨X, 3, none⟩ (.slice q acc.len c) := ⟨_, rfl⟩
      have k7 := Kept.set (ok := (· ≠ X)) w6 X 3 (.slice q acc.len c) (by simp)
      have hz6 := o6.size
      have he7 := he6.set3 (.slice q acc.len c)
      have ho7 := (HO5.out.trans o6).box X 3 (Nat.le_of_lt hX2) (.slice q acc.len c)
      have hF := FAt.mono (ok' := fun y => w.heap.size < y ∧ y ≠ X) (fun y _ hg => by have h1 := HZ5.out; have h2 : w5.heap.size ≤ y := hg; constructor <;> omega) _ _ hfa
      have hF7 := hF.keep (k7.mono fun y hg => hg.2)
      have hgX : g ≠ X := by have := HT1L.out; omega
      have ht7 := (o6.ts HT5.out HEE.out.ne).keep k7 hgX
      have h7 := h6.keep k7 (by omega)
      have hx7 := hx6.keep k7 (by omega)
      rw [← hW7] at he7 ho7 hF7 ht7 h7 hx7
      rw [hop6] at h7
      have H7 := Lib.hid h7
      have HT7 := Lib.hid ht7
      have HX7 := Lib.hid hx7
      have HE7 := Lib.hid he7
      have HO7 := Lib.hid ho7
      have HF7 := Lib.hid (FAt.mono (ok' := (w.heap.size < ·)) (fun _ _ hg => hg.1) _ _ hF7)
      have HW7 := Lib.hid hW7
      have HFN := Lib.hid hf
      clear o6 hf hfa h6 he6 hx6 k7 hz6 he7 ho7 hF hF7 ht7 h7 hx7 hW7 hgX
      go_upto_region 7 with fail
      rw [← HW7.out]
      clear HW7 fe e3
      cases hl : isS ts s2.at_ [93] with
      | true =>
        have HFE := Lib.hid (show elemsR rec ts 18 .nil ⟨s.at_ + 1, s.n + 1, s.open_ + 1⟩ = .ok ⟨5, 0, [], acc⟩ ⟨s2.at_ + 1, s2.n, s.open_ + 1 - 1⟩ by rw [HFN.out, hl, hop6]; rfl)
        have e0 := HF0.out.trans HFE.out
        subst e0
        clear HFN HFE HF0
        have HLV := Lib.hid (pleave_ok b g cap (s2.at_) (s2.n) ts (s.open_ + 1) ⟨#[93]⟩ _ H7.out HT7.out hst.at_ HEE.out.len (HEE.out.toks _) (by omega) hop1 hl)
        go_wp2_with fail
        refine HLV.out.mono ?_
        rintro e w8 ⟨rfl, o8, h8⟩
        have hx8 := HX7.out.keep o8.kept hne1
        have he8 := HE7.out.keep o8.kept hneX
        have p0 := he8.c0
        have p1 := he8.c1
        have p2 := he8.c2
        have p3 := he8.c3
        have q0 := hx8.c0
        have q1 := hx8.c1
        have q2 := hx8.c2
        have q3 := hx8.c3
        have fr := hx8.fz
        have HXF := Lib.hid (hx8.put (.int .i64 5) (.int .i64 0) (.string ⟨#[]⟩) (.slice q acc.len c))
        have HOF := Lib.hid ((HO7.out.trans o8).put w.heap.size (Nat.le_refl _) (.int .i64 5) (.int .i64 0) (.string ⟨#[]⟩) (.slice q acc.len c))
        have HPF := Lib.hid (h8.keep (Kept.put (ok := (· ≠ w.heap.size)) w8 w.heap.size (.int .i64 5) (.int .i64 0) (.string ⟨#[]⟩) (.slice q acc.len c) (by simp)) hne2)
        have HFF := Lib.hid (fat_put HF7.out o8 hlt (.int .i64 5) (.int .i64 0) (.string ⟨#[]⟩) (.slice q acc.len c))
        clear o8 h8 hx8 he8
        go_wp2_with fail
        refine bodyPost_ret (res_expr rfl _ _ w.heap.size _ _ _ _ rfl HXF.out) rfl ?_
        exact ⟨HOF.out, q, c, rfl, HFF.out, HPF.out⟩
      | false =>
        have HFE := Lib.hid (show elemsR rec ts 18 .nil ⟨s.at_ + 1, s.n + 1, s.open_ + 1⟩ = .bad 25 s2.at_ by rw [HFN.out, hl]; rfl)
        have HLV := Lib.hid (pleave_bad b g cap s2.at_ s2.n ((s.open_ + 1 : Nat) : Int) ts ⟨#[93]⟩ _ H7.out HT7.out hst.at_ HEE.out.len (HEE.out.toks _) hl)
        clear HFN
        go_wp2_with fail
        refine HLV.out.mono ?_
        rintro e w8 ⟨rfl, b8⟩
        have HO8 := Lib.hid (HO7.out.trans (Only.of_below (b := b) b8))
        clear b8
        unfold panS
        go_wp2_with fail
        have e0 := HF0.out.trans HFE.out
        subst e0
        exact ⟨rfl, HO8.out, rfl⟩
end Go.Proofs.YtlmmfhbdebfgkaaGreatDoor.Ex
