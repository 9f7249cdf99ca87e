/-
  ExPsV.
-/
import Derived.Test.YtlmmfhbdebfgkaaGreatDoorWExPsWQ
import Derived.Test.YtlmmfhbdebfgkaaGreatDoorWExRefV
set_option linter.unusedVariables false
set_option linter.unusedSimpArgs false
set_option maxRecDepth 100000
set_option maxHeartbeats 4000000
namespace Go.Proofs.YtlmmfhbdebfgkaaGreatDoor.Ex
open Go.RowKit
open Lx Va
theorem punary_none (b g cap : Nat) (ts : List TA) (hE : Env b g ts) (s : St) (w : World) (h : Psr w b g cap ts.length s.at_ s.n s.open_) (ht : TsAt w g ts) (hC : ConsAt w) (hs : StOk ts s) (rec : St → R) (hrk : RecOk ts rec) (hu : unAt (tk ts s.at_) = none)
    (HR : RecP b g cap ts (s.open_ + 1) rec) (hnb : ∀ s1 : St, StOk ts s1 → s1.open_ = s.open_ + 1 → begins ts s1.at_ = false → rec s1 = .bad 25 s1.at_) :
    Calls Tryz.prog 78 #[.pointer (some ⟨b, 0, none⟩)] w fun e w' => ResP b g cap ts w (primR rec ts s) e w' := by
  have hlt := h.lt
  have hb := (Below.refl w.heap.size w).alloc (Nat.le_refl _) (.cells #[.int .i64 0, .int .i64 0, .string ⟨#[]⟩, .slice none 0 0] 24)
  have HX := Lib.hid (Bx.new w (.int .i64 0) (.int .i64 0) (.string ⟨#[]⟩) (.slice none 0 0))
  have H := Lib.hid (h.below hb)
  have HT := Lib.hid (ht.below hb)
  have HC := Lib.hid (hC.keep (Kept.of_below (ok := fun _ => True) hb) trivial)
  have HO := Lib.hid (Only.of_below (b := b) hb)
  have hne1 : ¬ w.heap.size = b := by omega
  have hne2 : ¬ b = w.heap.size := by omega
  have HOP := Lib.hid (poperator_any b g cap s.at_ s.n s.open_ 5 ts _ H.out HT.out hs.at_ hE.len (hE.toks s.at_) HC.out)
  have hop : opA 5 (tk ts s.at_) = none := by have e := opA_unAt (tk ts s.at_); rw [hu] at e; cases ho : opA 5 (tk ts s.at_) with
    | none => rfl
    | some c => rw [ho] at e; cases e
  rw [hop] at HOP
  unfold conV at HOP
  simp only at HOP
  have SUBF := Lib.hid (fun W (k : Psr W b g cap ts.length s.at_ s.n s.open_) (kt : TsAt W g ts) (kc : ConsAt W) => pprimary_any b g cap ts hE s W k kt kc hs rec hrk HR hnb)
  obtain ⟨r, hr⟩ : ∃ r, r = primR rec ts s := ⟨_, rfl⟩
  rw [← hr] at SUBF ⊢
  clear hr h ht hC hs hrk HR hnb hE hb hu hop
  go_enter Tryz.func78, Tryz.ntmps78
  go_wp2_with fail
  refine HOP.out.mono ?_
  rintro e w0 ⟨rfl, b0⟩
  have b2 := b0.alloc b0.size (.cells #[.string (S []), .int .i64 0, .int .i64 0, .int .i64 0, .bool false] 96)
  have SUB := Lib.hid (SUBF.out _ (H.out.below b2) (HT.out.below b2) (HC.out.keep (Kept.of_below (ok := fun _ => True) b2) trivial))
  have HO0 := Lib.hid (HO.out.trans (Only.of_below (b := b) b2))
  have HX0 := Lib.hid (laterB HX.out b2)
  clear b0 b2 H HT HC HO HX HOP SUBF
  go_wp2_with fail
  refine SUB.out.mono ?_
  cases r with
  | bad er a =>
    rintro e w1 ⟨o1, rfl⟩
    have HO := Lib.hid (HO0.out.trans o1)
    clear o1
    unfold panS
    go_wp2_with fail
    exact ⟨rfl, HO.out, rfl⟩
  | ok x s2 =>
    rintro e w1 ⟨o1, q, c, rfl, hfa, h1⟩
    have hx1 := HX0.out.keep o1.kept hne1
    have q0 := hx1.c0
    have q1 := hx1.c1
    have q2 := hx1.c2
    have q3 := hx1.c3
    have fr := hx1.fz
    obtain ⟨hxf, hrf⟩ := resP_box HO0.out o1 hfa h1 hx1 (Nat.le_refl _) HX0.out.lt hne2
    have HXF := Lib.hid hxf
    have HRF := Lib.hid hrf
    clear hxf hrf
    unfold exprC
    go_wp2_with fail
    refine bodyPost_ret (res_expr rfl _ _ w.heap.size _ _ _ _ rfl HXF.out) rfl ?_
    exact HRF.out
theorem punary_deep (b g cap : Nat) (ts : List TA) (hE : Env b g ts) (s : St) (w : World) (h : Psr w b g cap ts.length s.at_ s.n s.open_) (ht : TsAt w g ts) (hC : ConsAt w) (hs : StOk ts s) (op : Int) (hu : unAt (tk ts s.at_) = some op) (h20 : s.open_ = 20) :
    Calls Tryz.prog 78 #[.pointer (some ⟨b, 0, none⟩)] w fun e w' => ResP b g cap ts w (.bad 26 s.at_) e w' := by
  have hlt := h.lt
  have hb := (Below.refl w.heap.size w).alloc (Nat.le_refl _) (.cells #[.int .i64 0, .int .i64 0, .string ⟨#[]⟩, .slice none 0 0] 24)
  have HX := Lib.hid (Bx.new w (.int .i64 0) (.int .i64 0) (.string ⟨#[]⟩) (.slice none 0 0))
  have H := Lib.hid (h.below hb)
  have HT := Lib.hid (ht.below hb)
  have HC := Lib.hid (hC.keep (Kept.of_below (ok := fun _ => True) hb) trivial)
  have HO := Lib.hid (Only.of_below (b := b) hb)
  have hne1 : ¬ w.heap.size = b := by omega
  have hne2 : ¬ b = w.heap.size := by omega
  have HOP := Lib.hid (poperator_any b g cap s.at_ s.n s.open_ 5 ts _ H.out HT.out hs.at_ hE.len (hE.toks s.at_) HC.out)
  obtain ⟨c0, hop, rfl⟩ : ∃ c0, opA 5 (tk ts s.at_) = some c0 ∧ op = c0.op := by
    have e := opA_unAt (tk ts s.at_); rw [hu] at e; cases ho : opA 5 (tk ts s.at_) with
    | none => rw [ho] at e; cases e
    | some c => rw [ho] at e; exact ⟨c, rfl, (Option.some.inj e).symm⟩
  rw [hop] at HOP
  obtain ⟨cw, co, cl, cn, ct⟩ := c0
  unfold conV at HOP
  simp only at HOP ⊢
  clear hop
  go_enter Tryz.func78, Tryz.ntmps78
  go_wp2_with fail
  refine HOP.out.mono ?_
  rintro e w0 ⟨rfl, b0⟩
  have b2 := b0.alloc b0.size (.cells #[.string (S cw), .int .i64 co, .int .i64 cl, .int .i64 cn, .bool ct] 96)
  have hk0 : Bc (w0.alloc (.cells #[.string (S cw), .int .i64 co, .int .i64 cl, .int .i64 cn, .bool ct] 96)) w0.heap.size ⟨cw, co, cl, cn, ct⟩ := heap_alloc_new w0 _
  have h2 := H.out.below b2
  have ht2 := HT.out.below b2
  have hc2 := HC.out.keep (Kept.of_below (ok := fun _ => True) b2) trivial
  have ho2 := HO.out.trans (Only.of_below (b := b) b2)
  have hx2 := laterB HX.out b2
  have hX1 : w.heap.size < w0.heap.size := Nat.lt_of_lt_of_le HX.out.lt b0.size
  clear b0 b2 H HT HC HO HX HOP
  rw [h20] at h2
  have HP := Lib.hid (penter_bad b g cap s.at_ s.n ts.length _ h2)
  have HO2 := Lib.hid ho2
  clear h2 ht2 hc2 ho2 hx2 hk0 h ht hC hs hE hb hu h20 hX1
  go_wp2_with fail
  refine HP.out.mono ?_
  rintro e w1 ⟨rfl, b1⟩
  have HO3 := Lib.hid (HO2.out.trans (Only.of_below (b := b) b1))
  clear b1
  unfold panS
  go_wp2_with fail
  exact ⟨rfl, HO3.out, rfl⟩
theorem punary_many (b g cap : Nat) (ts : List TA) (hE : Env b g ts) (s : St) (w : World) (h : Psr w b g cap ts.length s.at_ s.n s.open_) (ht : TsAt w g ts) (hC : ConsAt w) (hs : StOk ts s) (op : Int) (hu : unAt (tk ts s.at_) = some op) (h20 : s.open_ < 20) (h200 : s.n = 200) :
    Calls Tryz.prog 78 #[.pointer (some ⟨b, 0, none⟩)] w fun e w' => ResP b g cap ts w (.bad 27 s.at_) e w' := by
  have hlt := h.lt
  have hb := (Below.refl w.heap.size w).alloc (Nat.le_refl _) (.cells #[.int .i64 0, .int .i64 0, .string ⟨#[]⟩, .slice none 0 0] 24)
  have HX := Lib.hid (Bx.new w (.int .i64 0) (.int .i64 0) (.string ⟨#[]⟩) (.slice none 0 0))
  have H := Lib.hid (h.below hb)
  have HT := Lib.hid (ht.below hb)
  have HC := Lib.hid (hC.keep (Kept.of_below (ok := fun _ => True) hb) trivial)
  have HO := Lib.hid (Only.of_below (b := b) hb)
  have hne1 : ¬ w.heap.size = b := by omega
  have hne2 : ¬ b = w.heap.size := by omega
  have HOP := Lib.hid (poperator_any b g cap s.at_ s.n s.open_ 5 ts _ H.out HT.out hs.at_ hE.len (hE.toks s.at_) HC.out)
  obtain ⟨c0, hop, rfl⟩ : ∃ c0, opA 5 (tk ts s.at_) = some c0 ∧ op = c0.op := by
    have e := opA_unAt (tk ts s.at_); rw [hu] at e; cases ho : opA 5 (tk ts s.at_) with
    | none => rw [ho] at e; cases e
    | some c => rw [ho] at e; exact ⟨c, rfl, (Option.some.inj e).symm⟩
  rw [hop] at HOP
  obtain ⟨cw, co, cl, cn, ct⟩ := c0
  unfold conV at HOP
  simp only at HOP ⊢
  clear hop
  go_enter Tryz.func78, Tryz.ntmps78
  go_wp2_with fail
  refine HOP.out.mono ?_
  rintro e w0 ⟨rfl, b0⟩
  have b2 := b0.alloc b0.size (.cells #[.string (S cw), .int .i64 co, .int .i64 cl, .int .i64 cn, .bool ct] 96)
  have hk0 : Bc (w0.alloc (.cells #[.string (S cw), .int .i64 co, .int .i64 cl, .int .i64 cn, .bool ct] 96)) w0.heap.size ⟨cw, co, cl, cn, ct⟩ := heap_alloc_new w0 _
  have h2 := H.out.below b2
  have ht2 := HT.out.below b2
  have hc2 := HC.out.keep (Kept.of_below (ok := fun _ => True) b2) trivial
  have ho2 := HO.out.trans (Only.of_below (b := b) b2)
  have hx2 := laterB HX.out b2
  have hX1 : w.heap.size < w0.heap.size := Nat.lt_of_lt_of_le HX.out.lt b0.size
  clear b0 b2 H HT HC HO HX HOP
  have HP := Lib.hid (penter_ok b g cap s.at_ s.n s.open_ ts.length _ h2 h20)
  have HT2 := Lib.hid ht2
  have HC2 := Lib.hid hc2
  have HO2 := Lib.hid ho2
  have HX2 := Lib.hid hx2
  have HK2 := Lib.hid hk0
  have HEE := Lib.hid hE
  have hneX : ¬ w0.heap.size = b := by omega
  have hneY : ¬ b = w0.heap.size := by omega
  clear h2 ht2 hc2 ho2 hx2 hk0 h ht hC hs hE hb hu h20
  go_wp2_with fail
  refine HP.out.mono ?_
  rintro e w1 ⟨rfl, o1, h1⟩
  rw [h200] at h1
  have HD := Lib.hid (pproduce_bad b g cap s.at_ _ ts.length w1 h1)
  have HO3 := Lib.hid (HO2.out.trans o1)
  clear o1 h1 h200
  go_wp2_with fail
  refine HD.out.mono ?_
  rintro e w2 ⟨rfl, b2⟩
  have HO4 := Lib.hid (HO3.out.trans (Only.of_below (b := b) b2))
  clear b2
  unfold panS
  go_wp2_with fail
  exact ⟨rfl, HO4.out, rfl⟩
def RecU (b g cap : Nat) (ts : List TA) (o : Nat) (rec : St → R) : Prop :=
  ∀ s1 : St, StOk ts s1 → s1.open_ = o → ∀ w1, Psr w1 b g cap ts.length s1.at_ s1.n s1.open_ → TsAt w1 g ts → ConsAt w1 →
    Calls Tryz.prog 78 #[.pointer (some ⟨b, 0, none⟩)] w1 fun e w' => ResP b g cap ts w1 (rec s1) e w'
theorem unP_post {b g cap : Nat} {ts : List TA} {w w4 w5 : World} {op : Int} {q : Option Addr} {c : Nat} {x : T} {s2 : St} (hO : Only b w w5) (hlt : b < w.heap.size) (h4 : w.heap.size < w4.heap.size) (h5 : w4.heap.size ≤ w5.heap.size)
    (hf : FAt w5 (w4.heap.size ≤ ·) x.args q) (hr : Psr w5 b g cap ts.length s2.at_ s2.n s2.open_) :
    ResP b g cap ts w (.ok ⟨op, 0, [], x.row⟩ ⟨s2.at_, s2.n, s2.open_ - 1⟩) (.returned (.agg #[.int .i64 op, .int .i64 0, .string ⟨#[]⟩, .slice (some ⟨w5.heap.size + 1, 0, none⟩) 1 1]))
      (unW w5 b w.heap.size ((s2.open_ - 1 : Nat) : Int) op x.op x.num x.text q x.args.len c) := by
  refine ⟨unW_only hO, some ⟨w5.heap.size + 1, 0, none⟩, 1, rfl, ?_, ?_⟩
  · refine FAt.one unW_new (show w.heap.size ≤ w5.heap.size + 1 by omega) ?_
    exact FAt.mono (fun g _ hg => Nat.le_trans (Nat.le_of_lt h4) hg) _ _ (hf.keep (unW_kept (show ¬ w4.heap.size ≤ b by omega) (show ¬ w4.heap.size ≤ w.heap.size by omega)))
  · exact (((hr.set3 _).keep (Kept.put (ok := (· ≠ w.heap.size)) _ w.heap.size _ _ _ _ (by simp)) (show b ≠ w.heap.size by omega)).keep (Kept.alloc (ok := fun _ => True) _ _) trivial).keep (Kept.alloc (ok := fun _ => True) _ _) trivial
theorem punary_bad (b g cap : Nat) (ts : List TA) (hE : Env b g ts) (s : St) (w : World) (h : Psr w b g cap ts.length s.at_ s.n s.open_) (ht : TsAt w g ts) (hC : ConsAt w) (hs : StOk ts s) (op : Int) (hu : unAt (tk ts s.at_) = some op) (h20 : s.open_ < 20) (h200 : s.n < 200) (hne0 : (tk ts s.at_).kind ≠ 0) (rec : St → R) (HU : RecU b g cap ts (s.open_ + 1) rec) (er a : Nat) (hr : rec ⟨s.at_ + 1, s.n + 1, s.open_ + 1⟩ = .bad er a) :
    Calls Tryz.prog 78 #[.pointer (some ⟨b, 0, none⟩)] w fun e w' => ResP b g cap ts w (.bad er a) e w' := by
  have hlt := h.lt
  have hb := (Below.refl w.heap.size w).alloc (Nat.le_refl _) (.cells #[.int .i64 0, .int .i64 0, .string ⟨#[]⟩, .slice none 0 0] 24)
  have HX := Lib.hid (Bx.new w (.int .i64 0) (.int .i64 0) (.string ⟨#[]⟩) (.slice none 0 0))
  have H := Lib.hid (h.below hb)
  have HT := Lib.hid (ht.below hb)
  have HC := Lib.hid (hC.keep (Kept.of_below (ok := fun _ => True) hb) trivial)
  have HO := Lib.hid (Only.of_below (b := b) hb)
  have hne1 : ¬ w.heap.size = b := by omega
  have hne2 : ¬ b = w.heap.size := by omega
  have HOP := Lib.hid (poperator_any b g cap s.at_ s.n s.open_ 5 ts _ H.out HT.out hs.at_ hE.len (hE.toks s.at_) HC.out)
  obtain ⟨c0, hop, rfl⟩ : ∃ c0, opA 5 (tk ts s.at_) = some c0 ∧ op = c0.op := by
    have e := opA_unAt (tk ts s.at_); rw [hu] at e; cases ho : opA 5 (tk ts s.at_) with
    | none => rw [ho] at e; cases e
    | some c => rw [ho] at e; exact ⟨c, rfl, (Option.some.inj e).symm⟩
  rw [hop] at HOP
  obtain ⟨cw, co, cl, cn, ct⟩ := c0
  unfold conV at HOP
  simp only at HOP ⊢
  clear hop
  go_enter Tryz.func78, Tryz.ntmps78
  go_wp2_with fail
  refine HOP.out.mono ?_
  rintro e w0 ⟨rfl, b0⟩
  have b2 := b0.alloc b0.size (.cells #[.string (S cw), .int .i64 co, .int .i64 cl, .int .i64 cn, .bool ct] 96)
  have hk0 : Bc (w0.alloc (.cells #[.string (S cw), .int .i64 co, .int .i64 cl, .int .i64 cn, .bool ct] 96)) w0.heap.size ⟨cw, co, cl, cn, ct⟩ := heap_alloc_new w0 _
  have h2 := H.out.below b2
  have ht2 := HT.out.below b2
  have hc2 := HC.out.keep (Kept.of_below (ok := fun _ => True) b2) trivial
  have ho2 := HO.out.trans (Only.of_below (b := b) b2)
  have hx2 := laterB HX.out b2
  have hX1 : w.heap.size < w0.heap.size := Nat.lt_of_lt_of_le HX.out.lt b0.size
  clear b0 b2 H HT HC HO HX HOP
  have HP := Lib.hid (penter_ok b g cap s.at_ s.n s.open_ ts.length _ h2 h20)
  have HT2 := Lib.hid ht2
  have HC2 := Lib.hid hc2
  have HO2 := Lib.hid ho2
  have HX2 := Lib.hid hx2
  have HK2 := Lib.hid hk0
  have HEE := Lib.hid hE
  have hneX : ¬ w0.heap.size = b := by omega
  have hneY : ¬ b = w0.heap.size := by omega
  have HRU := Lib.hid (HU ⟨s.at_ + 1, s.n + 1, s.open_ + 1⟩ ⟨hE.ends.next hs.at_ hne0, by show s.n + 1 ≤ 200; omega, by show s.open_ + 1 ≤ 20; omega⟩ rfl)
  have hni : (s.at_ : Int) < 8001 := by have := hs.at_; have := hE.len; omega
  rw [hr] at HRU
  clear h2 ht2 hc2 ho2 hx2 hk0 h ht hC hs hE hb hu h20 HU hr hne0
  go_wp2_with fail
  refine HP.out.mono ?_
  rintro e w1 ⟨rfl, o1, h1⟩
  have HD := Lib.hid (pproduce_ok b g cap s.at_ _ s.n ts.length w1 h1 h200)
  have HO3 := Lib.hid (HO2.out.trans o1)
  have HT3 := Lib.hid (o1.ts HT2.out HEE.out.ne)
  have HC3 := Lib.hid (HC2.out.only o1 HEE.out.con)
  have HX3 := Lib.hid (HX2.out.keep o1.kept hne1)
  have HK3 := Lib.hid (HK2.out.keep o1.kept hneX)
  clear o1 h1 h200 HT2 HC2 HO2 HX2 HK2 HP
  go_wp2_with fail
  refine HD.out.mono ?_
  rintro e w2 ⟨rfl, o2, h2⟩
  have c1 := h2.c1
  have fz := h2.fz
  have o3 := o2.set' 1 (.int .i64 ((s.at_ : Int) + 1))
  have HL := Lib.hid (HRU.out (w2.setCell ⟨b, 1, none⟩ (.int .i64 ((s.at_ : Int) + 1))) (h2.set1 ((s.at_ : Int) + 1)) (o3.ts HT3.out HEE.out.ne) (HC3.out.only o3 HEE.out.con))
  have HO4 := Lib.hid (HO3.out.trans o3)
  have HX4 := Lib.hid (HX3.out.keep o3.kept hne1)
  have HK4 := Lib.hid (HK3.out.keep o3.kept hneX)
  clear o2 h2 o3 HO3 HT3 HC3 HX3 HK3 HD HRU
  go_wp2_with fail
  refine HL.out.mono ?_
  rintro e w5 ⟨o5, rfl⟩
  have HO5 := Lib.hid (HO4.out.trans o5)
  clear o5
  unfold panS
  go_wp2_with fail
  exact ⟨rfl, HO5.out, rfl⟩
theorem punary_ok (b g cap : Nat) (ts : List TA) (hE : Env b g ts) (s : St) (w : World) (h : Psr w b g cap ts.length s.at_ s.n s.open_) (ht : TsAt w g ts) (hC : ConsAt w) (hs : StOk ts s) (op : Int) (hu : unAt (tk ts s.at_) = some op) (h20 : s.open_ < 20) (h200 : s.n < 200) (hne0 : (tk ts s.at_).kind ≠ 0) (rec : St → R) (HU : RecU b g cap ts (s.open_ + 1) rec) (x : T) (s2 : St) (hr : rec ⟨s.at_ + 1, s.n + 1, s.open_ + 1⟩ = .ok x s2) (hs2 : s2.open_ = s.open_ + 1) :
    Calls Tryz.prog 78 #[.pointer (some ⟨b, 0, none⟩)] w fun e w' => ResP b g cap ts w (.ok ⟨op, 0, [], x.row⟩ ⟨s2.at_, s2.n, s2.open_ - 1⟩) e w' := by
  have hlt := h.lt
  have hb := (Below.refl w.heap.size w).alloc (Nat.le_refl _) (.cells #[.int .i64 0, .int .i64 0, .string ⟨#[]⟩, .slice none 0 0] 24)
  have HX := Lib.hid (Bx.new w (.int .i64 0) (.int .i64 0) (.string ⟨#[]⟩) (.slice none 0 0))
  have H := Lib.hid (h.below hb)
  have HT := Lib.hid (ht.below hb)
  have HC := Lib.hid (hC.keep (Kept.of_below (ok := fun _ => True) hb) trivial)
  have HO := Lib.hid (Only.of_below (b := b) hb)
  have hne1 : ¬ w.heap.size = b := by omega
  have hne2 : ¬ b = w.heap.size := by omega
  have HOP := Lib.hid (poperator_any b g cap s.at_ s.n s.open_ 5 ts _ H.out HT.out hs.at_ hE.len (hE.toks s.at_) HC.out)
  obtain ⟨c0, hop, rfl⟩ : ∃ c0, opA 5 (tk ts s.at_) = some c0 ∧ op = c0.op := by
    have e := opA_unAt (tk ts s.at_); rw [hu] at e; cases ho : opA 5 (tk ts s.at_) with
    | none => rw [ho] at e; cases e
    | some c => rw [ho] at e; exact ⟨c, rfl, (Option.some.inj e).symm⟩
  rw [hop] at HOP
  obtain ⟨cw, co, cl, cn, ct⟩ := c0
  unfold conV at HOP
  simp only at HOP ⊢
  clear hop
  have hoi : (s2.open_ : Int) ≤ 20 := by omega
  have hoj : (1 : Int) ≤ (s2.open_ : Int) := by omega
  have HM := Lib.hid (show (s2.open_ : Int) - 1 = ((s2.open_ - 1 : Nat) : Int) by omega)
  clear hs2
  go_enter Tryz.func78, Tryz.ntmps78
  go_wp2_with fail
  refine HOP.out.mono ?_
  rintro e w0 ⟨rfl, b0⟩
  have b2 := b0.alloc b0.size (.cells #[.string (S cw), .int .i64 co, .int .i64 cl, .int .i64 cn, .bool ct] 96)
  have hk0 : Bc (w0.alloc (.cells #[.string (S cw), .int .i64 co, .int .i64 cl, .int .i64 cn, .bool ct] 96)) w0.heap.size ⟨cw, co, cl, cn, ct⟩ := heap_alloc_new w0 _
  have h2 := H.out.below b2
  have ht2 := HT.out.below b2
  have hc2 := HC.out.keep (Kept.of_below (ok := fun _ => True) b2) trivial
  have ho2 := HO.out.trans (Only.of_below (b := b) b2)
  have hx2 := laterB HX.out b2
  have hX1 : w.heap.size < w0.heap.size := Nat.lt_of_lt_of_le HX.out.lt b0.size
  clear b0 b2 H HT HC HO HX HOP
  have HP := Lib.hid (penter_ok b g cap s.at_ s.n s.open_ ts.length _ h2 h20)
  have HT2 := Lib.hid ht2
  have HC2 := Lib.hid hc2
  have HO2 := Lib.hid ho2
  have HX2 := Lib.hid hx2
  have HK2 := Lib.hid hk0
  have HEE := Lib.hid hE
  have hneX : ¬ w0.heap.size = b := by omega
  have hneY : ¬ b = w0.heap.size := by omega
  have HRU := Lib.hid (HU ⟨s.at_ + 1, s.n + 1, s.open_ + 1⟩ ⟨hE.ends.next hs.at_ hne0, by show s.n + 1 ≤ 200; omega, by show s.open_ + 1 ≤ 20; omega⟩ rfl)
  have hni : (s.at_ : Int) < 8001 := by have := hs.at_; have := hE.len; omega
  rw [hr] at HRU
  clear h2 ht2 hc2 ho2 hx2 hk0 h ht hC hs hE hb hu h20 HU hr hne0
  go_wp2_with fail
  refine HP.out.mono ?_
  rintro e w1 ⟨rfl, o1, h1⟩
  have HD := Lib.hid (pproduce_ok b g cap s.at_ _ s.n ts.length w1 h1 h200)
  have HO3 := Lib.hid (HO2.out.trans o1)
  have HT3 := Lib.hid (o1.ts HT2.out HEE.out.ne)
  have HC3 := Lib.hid (HC2.out.only o1 HEE.out.con)
  have HX3 := Lib.hid (HX2.out.keep o1.kept hne1)
  have HK3 := Lib.hid (HK2.out.keep o1.kept hneX)
  clear o1 h1 h200 HT2 HC2 HO2 HX2 HK2 HP
  go_wp2_with fail
  refine HD.out.mono ?_
  rintro e w2 ⟨rfl, o2, h2⟩
  have c1 := h2.c1
  have fz := h2.fz
  have o3 := o2.set' 1 (.int .i64 ((s.at_ : Int) + 1))
  have HL := Lib.hid (HRU.out (w2.setCell ⟨b, 1, none⟩ (.int .i64 ((s.at_ : Int) + 1))) (h2.set1 ((s.at_ : Int) + 1)) (o3.ts HT3.out HEE.out.ne) (HC3.out.only o3 HEE.out.con))
  have HO4 := Lib.hid (HO3.out.trans o3)
  have HX4 := Lib.hid (HX3.out.keep o3.kept hne1)
  have HK4 := Lib.hid (HK3.out.keep o3.kept hneX)
  clear o2 h2 o3 HO3 HT3 HC3 HX3 HK3 HD HRU
  go_wp2_with fail
  refine HL.out.mono ?_
  rintro e w5 ⟨o5, q, c, rfl, hfa, h5⟩
  have hx5 := HX4.out.keep o5.kept hne1
  have hk5 := HK4.out.keep o5.kept hneX
  have HO5 := Lib.hid (HO4.out.trans o5)
  have hlt5 := hx5.lt
  have hb5 := h5.lt
  have hkl : w0.heap.size < w5.heap.size := (Array.getElem?_eq_some_iff.1 hk5).1
  have f5 := hx5.fz
  have p0 := hx5.c0
  have p1 := hx5.c1
  have p2 := hx5.c2
  have p3 := hx5.c3
  have d3 := h5.c3
  have dz := h5.fz
  have k1 : w5.cell? ⟨w0.heap.size, 1, none⟩ = some (.int .i64 co) := cell_of_row w5 w0.heap.size 1 _ _ (0, 0) hk5
  have zb : ∀ o j, (w5.alloc o).cell? ⟨b, j, none⟩ = w5.cell? ⟨b, j, none⟩ := fun o j => Kept.cell (Kept.alloc (ok := fun _ => True) w5 o) trivial hb5
  have zh : ∀ o j, (w5.alloc o).cell? ⟨w.heap.size, j, none⟩ = w5.cell? ⟨w.heap.size, j, none⟩ := fun o j => Kept.cell (Kept.alloc (ok := fun _ => True) w5 o) trivial hlt5
  have zk : ∀ o j, (w5.alloc o).cell? ⟨w0.heap.size, j, none⟩ = w5.cell? ⟨w0.heap.size, j, none⟩ := fun o j => Kept.cell (Kept.alloc (ok := fun _ => True) w5 o) trivial hkl
  have zf : ∀ o j, (w5.alloc o).frozen? ⟨b, j, none⟩ = false := fun o j => (h5.keep (Kept.alloc (ok := fun _ => True) w5 o) trivial).fz j
  have zk2 : ∀ o v, ((w5.setCell ⟨b, 3, none⟩ v).alloc o).cell? ⟨w0.heap.size, 1, none⟩ = some (.int .i64 co) := fun o v => cell_of_row _ _ 1 _ _ (0, 0) ((hk5.keep (Kept.set (ok := (· ≠ b)) w5 b 3 v (by simp)) hneX).keep (Kept.alloc (ok := fun _ => True) _ o) trivial)
  have HX5 := Lib.hid hx5
  have HW4 := Lib.hid HX4.out.lt
  have HW5 := Lib.hid o5.size
  have HF5 := Lib.hid hfa
  have HR5 := Lib.hid h5
  clear hx5 o5 hfa h5 hk5 HO4 HX4 HK4 HL
  unfold exprC
  go_wp2_with fail
  rw [HM.out]
  refine bodyPost_ret (res_expr rfl _ _ w.heap.size _ _ _ _ rfl (unW_bx (b := b) HX5.out hlt)) rfl ?_
  exact unP_post HO5.out hlt HW4.out HW5.out HF5.out HR5.out
def unaryR (rec top : St → R) (ts : List TA) (s : St) : R := match unAt (tk ts s.at_) with
  | some op => enterR s fun s1 => (rec s1).then fun x s2 => .ok ⟨op, 0, [], x.row⟩ ⟨s2.at_, s2.n, s2.open_ - 1⟩
  | none => primR top ts s
theorem punary_any (b g cap : Nat) (ts : List TA) (hE : Env b g ts) (s : St) (w : World) (h : Psr w b g cap ts.length s.at_ s.n s.open_) (ht : TsAt w g ts) (hC : ConsAt w) (hs : StOk ts s) (rec top : St → R) (hru : RecOk ts rec) (hrk : RecOk ts top)
    (HU : RecU b g cap ts (s.open_ + 1) rec) (HR : RecP b g cap ts (s.open_ + 1) top) (hnb : ∀ s1 : St, StOk ts s1 → s1.open_ = s.open_ + 1 → begins ts s1.at_ = false → top s1 = .bad 25 s1.at_) :
    Calls Tryz.prog 78 #[.pointer (some ⟨b, 0, none⟩)] w fun e w' => ResP b g cap ts w (unaryR rec top ts s) e w' := by
  unfold unaryR
  cases hu : unAt (tk ts s.at_) with
  | none => exact punary_none b g cap ts hE s w h ht hC hs top hrk hu HR hnb
  | some op =>
    have hne0 : (tk ts s.at_).kind ≠ 0 := by
      intro hk; unfold unAt at hu; rw [hk] at hu; cases hu
    show Calls _ _ _ _ fun e w' => ResP b g cap ts w (enterR s _) e w'
    unfold enterR
    by_cases h20 : s.open_ = 20
    · rw [if_pos h20]
      exact punary_deep b g cap ts hE s w h ht hC hs op hu h20
    rw [if_neg h20]
    have h20' : s.open_ < 20 := by have := hs.op; omega
    by_cases h200 : s.n = 200
    · rw [if_pos h200]
      exact punary_many b g cap ts hE s w h ht hC hs op hu h20' h200
    rw [if_neg h200]
    have h200' : s.n < 200 := by have := hs.n; omega
    show Calls _ _ _ _ fun e w' => ResP b g cap ts w ((rec ⟨s.at_ + 1, s.n + 1, s.open_ + 1⟩).then fun x s2 => .ok ⟨op, 0, [], x.row⟩ ⟨s2.at_, s2.n, s2.open_ - 1⟩) e w'
    cases hr : rec ⟨s.at_ + 1, s.n + 1, s.open_ + 1⟩ with
    | bad er a => exact punary_bad b g cap ts hE s w h ht hC hs op hu h20' h200' hne0 rec HU er a hr
    | ok x s2 =>
      have ha := hru _ x s2 ⟨hE.ends.next hs.at_ hne0, by show s.n + 1 ≤ 200; omega, by show s.open_ + 1 ≤ 20; omega⟩ hr
      exact punary_ok b g cap ts hE s w h ht hC hs op hu h20' h200' hne0 rec HU x s2 hr ha.op
end Go.Proofs.YtlmmfhbdebfgkaaGreatDoor.Ex
