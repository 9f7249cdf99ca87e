/-
  ExPsX.
-/
import Derived.Test.YtlmmfhbdebfgkaaGreatDoorWExPsV
import Derived.ScopeJumps
import Derived.WalkMore
import Derived.Deep.QuietTactic
set_option linter.unusedVariables false
set_option linter.unusedSimpArgs false
set_option maxRecDepth 100000
set_option maxHeartbeats 8000000
namespace Go.Proofs.YtlmmfhbdebfgkaaGreatDoor.Ex
open Go.RowKit
open Lx Va
theorem plevel_5 (b g cap : Nat) (ts : List TA) (s : St) (r : R) (w : World) (h : Psr w b g cap ts.length s.at_ s.n s.open_) (ht : TsAt w g ts) (hC : ConsAt w)
    (HU : ∀ W, Psr W b g cap ts.length s.at_ s.n s.open_ → TsAt W g ts → ConsAt W → Calls Tryz.prog 78 #[.pointer (some ⟨b, 0, none⟩)] W fun e w' => ResP b g cap ts W r e w') :
    Calls Tryz.prog 48 #[.pointer (some ⟨b, 0, none⟩), .int .i64 5] w fun e w' => ResP b g cap ts w r e w' := by
  have hlt := h.lt
  have hb := (Below.refl w.heap.size w).alloc (Nat.le_refl _) (.cells #[.int .i64 0, .int .i64 0, .string ⟨#[]⟩, .slice none 0 0] 24)
  have HX := Lib.hid (Bx.new w (.int .i64 0) (.int .i64 0) (.string ⟨#[]⟩) (.slice none 0 0))
  have SUB := Lib.hid (HU _ (h.below hb) (ht.below hb) (hC.keep (Kept.of_below (ok := fun _ => True) hb) trivial))
  have HO0 := Lib.hid (Only.of_below (b := b) hb)
  have hne1 : ¬ w.heap.size = b := by omega
  have hne2 : ¬ b = w.heap.size := by omega
  clear h ht hC HU hb
  go_enter Tryz.func48, Tryz.ntmps48
  go_wp2_with fail
  go_step3
  go_wp2_with fail
  refine SUB.out.mono ?_
  cases r with
  | bad er a =>
    rintro e w1 ⟨o1, rfl⟩
    have HO := Lib.hid (HO0.out.trans o1)
    clear o1
    unfold panS
    go_wp2_with fail
    exact ⟨rfl, HO.out, rfl⟩
  | ok x s2 =>
    rintro e w1 ⟨o1, q, c, rfl, hfa, h1⟩
    have hx1 := HX.out.keep o1.kept hne1
    have q0 := hx1.c0
    have q1 := hx1.c1
    have q2 := hx1.c2
    have q3 := hx1.c3
    have fr := hx1.fz
    obtain ⟨hxf, hrf⟩ := resP_box HO0.out o1 hfa h1 hx1 (Nat.le_refl _) HX.out.lt hne2
    have HXF := Lib.hid hxf
    have HRF := Lib.hid hrf
    clear hxf hrf
    unfold exprC
    go_wp2_with fail
    try rw [Exit.noGoto_ret]
    refine bodyPost_ret (res_expr rfl _ _ w.heap.size _ _ _ _ rfl HXF.out) rfl ?_
    exact HRF.out
theorem wp_scope_label {P : Program} {a : Act} {w : World} {Q : Exit → Act → World → Prop} {c rest : Code} (l : Nat) (J : Act → World → Prop) (μ : Act → World → Nat) (hf : findLabel c l = some (Code.skip.seq rest))
    (pass : ∀ a w, J a w → rest.wp P (Exit.jump l (fun a' w' => J a' w' ∧ μ a' w' < μ a w) Q) a w)
    (first : (∀ a w, J a w → rest.wp P (Exit.jump l J Q) a w) → c.wp P (Exit.jump l J Q) a w) : (Code.scope c).wp P Q a w := by
  refine wp_scope_jumps l J μ hf (first fun a w hJ => wp_mono (pass a w hJ) ?_) (fun a w hJ => wp_seq (wp_skip (pass a w hJ)))
  intro e a' w' h
  cases e with
  | goto l' => exact ⟨h.1, h.2.1⟩
  | _ => exact h
def lvN (b : Nat) (w : World) : Nat := match w.cell? ⟨b, 2, none⟩ with
  | some (.int _ v) => (200 - v).toNat
  | _ => 0
theorem lvN_psr {w : World} {b g cap len : Nat} {a n o : Int} (h : Psr w b g cap len a n o) : lvN b w = (200 - n).toNat := by
  unfold lvN
  rw [h.c2]
def LvP (b g cap : Nat) (ts : List TA) (rec : St → R) (n o0 : Nat) (w : World) (X : Nat) (FIN : R) (x : T) (s : St) (kk : Nat) (q : Option Addr) (c : Nat) (wr : World) : Prop :=
  w.heap.size < X ∧ Only b w wr ∧ (∃ y0 y1 y2 y3, Bx wr w.heap.size y0 y1 y2 y3) ∧ Bx wr X (.int .i64 x.op) (.int .i64 x.num) (.string (S x.text)) (.slice q x.args.len c) ∧ FAt wr (fun g => w.heap.size ≤ g ∧ g ≠ w.heap.size ∧ g ≠ X) x.args q ∧
    Psr wr b g cap ts.length s.at_ s.n s.open_ ∧ StOk ts s ∧ s.open_ = o0 ∧ 201 ≤ kk + s.n ∧ loopR rec ts n kk x s = FIN
def LvJ (b g cap : Nat) (ts : List TA) (rec : St → R) (n o0 : Nat) (w : World) (FIN : R) (a : Act) (wr : World) : Prop :=
  ∃ (X : Nat) (x : T) (s : St) (kk : Nat) (q : Option Addr) (c : Nat) (u6 u7 u8 u9 u10 u11 u12 u13 u14 u15 u16 u17 u18 u19 u20 u21 u22 u23 u24 u25 u26 u27 u28 u29 u30 u31 u32 u33 u34 u35 u36 u37 u38 u39 u40 u41 u42 u43 u44 u45 u46 u47 u48 u49 u50 u51 : Value), a = { tmps := #[.pointer (some ⟨b, 0, none⟩), .int .i64 n, undef, undef, .pointer (some ⟨w.heap.size, 0, none⟩), .pointer (some ⟨X, 0, none⟩), u6, u7, u8, u9, u10, u11, u12, u13, u14, u15, u16, u17, u18, u19, u20, u21, u22, u23, u24, u25, u26, u27, u28, u29, u30, u31, u32, u33, u34, u35, u36, u37, u38, u39, u40, u41, u42, u43, u44, u45, u46, u47, u48, u49, u50, u51], defers := [] } ∧ LvP b g cap ts rec n o0 w X FIN x s kk q c wr
theorem lvP_row {w v2 V : World} {X lo : Nat} {co : Int} {turned : Bool} {x y : T} {q qy : Option Addr} {c cy : Nat} (hk : Kept (fun g => g ≠ w.heap.size ∧ g ≠ X) v2 V)
    (hnew : V.heap[v2.heap.size + 1]? = some (if turned = true then two8 y.op y.num y.text qy y.args.len cy x.op x.num x.text q x.args.len c else two8 x.op x.num x.text q x.args.len c y.op y.num y.text qy y.args.len cy))
    (hfa : FAt v2 (fun g => w.heap.size ≤ g ∧ g ≠ w.heap.size ∧ g ≠ X) x.args q) (hfy : FAt v2 (lo ≤ ·) y.args qy) (hX : w.heap.size < X) (hl : X < lo) (hl5 : lo ≤ v2.heap.size) :
    FAt V (fun g => w.heap.size ≤ g ∧ g ≠ w.heap.size ∧ g ≠ X) (opT co turned x y).args (some ⟨v2.heap.size + 1, 0, none⟩) := by
  have hN : (fun g => w.heap.size ≤ g ∧ g ≠ w.heap.size ∧ g ≠ X) (v2.heap.size + 1) := ⟨by omega, by omega, by omega⟩
  have hfy2 : FAt v2 (fun g => w.heap.size ≤ g ∧ g ≠ w.heap.size ∧ g ≠ X) y.args qy := FAt.mono (fun g _ hg => by simp at hg ⊢; omega) _ _ hfy
  have hfx3 := hfa.keep (hk.mono fun g hg => ⟨hg.2.1, hg.2.2⟩)
  have hfy3 := hfy2.keep (hk.mono fun g hg => ⟨hg.2.1, hg.2.2⟩)
  cases turned with
  | true => exact FAt.two hnew hN hfy3 hfx3
  | false => exact FAt.two hnew hN hfx3 hfy3
theorem lvP_next {b g cap : Nat} {ts : List TA} {rec : St → R} {n o0 : Nat} {w v2 V : World} {X lo kk : Nat} {co : Int} {turned : Bool} {x y : T} {s1 s4 : St} {q qy : Option Addr} {c cy M : Nat} {FIN : R} {y0 y1 y2 y3 : Value} (hb : b < w.heap.size)
    (hO : Only b w V) (hh : Bx V w.heap.size y0 y1 y2 y3) (hV : Bx V X (.int .i64 co) (.int .i64 0) (.string (S [])) (.slice (some ⟨v2.heap.size + 1, 0, none⟩) 2 2)) (hk : Kept (fun g => g ≠ w.heap.size ∧ g ≠ X) v2 V)
    (hnew : V.heap[v2.heap.size + 1]? = some (if turned = true then two8 y.op y.num y.text qy y.args.len cy x.op x.num x.text q x.args.len c else two8 x.op x.num x.text q x.args.len c y.op y.num y.text qy y.args.len cy))
    (hfa : FAt v2 (fun g => w.heap.size ≤ g ∧ g ≠ w.heap.size ∧ g ≠ X) x.args q) (hfy : FAt v2 (lo ≤ ·) y.args qy) (hX : w.heap.size < X) (hl : X < lo) (hl5 : lo ≤ v2.heap.size)
    (hp : Psr v2 b g cap ts.length s4.at_ s4.n s4.open_) (ha : Adv ts ⟨s1.at_ + 1, s1.n + 1, s1.open_⟩ s4 s1.open_) (ho : s1.open_ = o0) (ho20 : o0 ≤ 20) (hkk : 201 ≤ kk + 1 + s1.n) (hM : M = (200 - (s1.n : Int)).toNat) (hn : n ≠ 2)
    (hfin : (if n = 2 then R.ok (opT co turned x y) s4 else loopR rec ts n kk (opT co turned x y) s4) = FIN) :
    LvP b g cap ts rec n o0 w X FIN (opT co turned x y) s4 kk (some ⟨v2.heap.size + 1, 0, none⟩) 2 V ∧ lvN b V < M := by
  rw [if_neg hn] at hfin
  have hp2 := hp.keep hk ⟨by omega, by omega⟩
  have hsn : s1.n + 1 ≤ s4.n := ha.n
  have hle := ha.le
  refine ⟨⟨hX, hO, ⟨_, _, _, _, hh⟩, ?_, lvP_row (cy := cy) (c := c) hk hnew hfa hfy hX hl hl5, hp2, ha.ok (by omega), by rw [ha.op, ho], by omega, hfin⟩, ?_⟩
  · cases turned <;> exact hV
  · rw [lvN_psr hp2, hM]; omega
theorem opAt_turned {n : Nat} {t : TA} {o : Int} {b : Bool} (h : opAt n t = some (o, b)) (hb : b = true) : n = 2 := by
  subst hb
  unfold opAt at h
  split at h
  · unfold opOf at h
    split at h
    all_goals (repeat' split at h)
    all_goals first | rfl | simp_all
  · cases h
def lvT (w5 : World) (X H : Nat) (y0 y1 y2 y3 : Value) (op : Int) (B : Obj) (o8 : Obj) : World :=
  (put4 (put4 ((put4 w5 X y0 y1 y2 y3).alloc B) X (.int .i64 op) (.int .i64 0) (.string ⟨#[]⟩) (.slice (some ⟨w5.heap.size + 1, 0, none⟩) 2 2)) H (.int .i64 op) (.int .i64 0) (.string ⟨#[]⟩) (.slice (some ⟨w5.heap.size + 1, 0, none⟩) 2 2)).alloc o8
section
variable {b g cap : Nat} {ts : List TA} {w w5 : World} {op : Int} {B o8 : Obj} {X H : Nat} {x0 x1 x2 x3 y0 y1 y2 y3 : Value}
theorem lvT_kept {ok : Nat → Prop} (hX : ¬ ok X) (hH : ¬ ok H) : Kept ok w5 (lvT w5 X H y0 y1 y2 y3 op B o8) := ((((Kept.put w5 X _ _ _ _ hX).trans (Kept.alloc _ _)).trans (Kept.put _ X _ _ _ _ hX)).trans (Kept.put _ H _ _ _ _ hH)).trans (Kept.alloc _ _)
theorem lvT_only (hO : Only b w w5) (hX : w.heap.size ≤ X) (hH : w.heap.size ≤ H) : Only b w (lvT w5 X H y0 y1 y2 y3 op B o8) := ((((hO.put X hX _ _ _ _).alloc _).put X hX _ _ _ _).put H hH _ _ _ _).alloc _
theorem lvT_bx (hx : Bx w5 H x0 x1 x2 x3) (hne : H ≠ X) : Bx (lvT w5 X H y0 y1 y2 y3 op B o8) H (.int .i64 op) (.int .i64 0) (.string (S [])) (.slice (some ⟨w5.heap.size + 1, 0, none⟩) 2 2) :=
  ((((hx.keep (Kept.put (ok := (· ≠ X)) w5 X _ _ _ _ (by simp)) hne).keep (Kept.alloc (ok := fun _ => True) _ _) trivial).keep (Kept.put (ok := (· ≠ X)) _ X _ _ _ _ (by simp)) hne).put _ _ _ _).keep (Kept.alloc (ok := fun _ => True) _ _) trivial
theorem lvT_new : (lvT w5 X H y0 y1 y2 y3 op B o8).heap[w5.heap.size + 1]? = some o8 := by
  obtain ⟨V, hV⟩ : ∃ V, V = put4 (put4 ((put4 w5 X y0 y1 y2 y3).alloc B) X (.int .i64 op) (.int .i64 0) (.string ⟨#[]⟩) (.slice (some ⟨w5.heap.size + 1, 0, none⟩) 2 2)) H (.int .i64 op) (.int .i64 0) (.string ⟨#[]⟩) (.slice (some ⟨w5.heap.size + 1, 0, none⟩) 2 2) := ⟨_, rfl⟩
  have e : V.heap.size = w5.heap.size + 1 := by rw [hV]; simp [put4]
  have h := heap_alloc_new V o8
  rw [e] at h
  unfold lvT
  rw [← hV]
  exact h
end
theorem plevel_lo (b g cap : Nat) (ts : List TA) (hE : Env b g ts) (rec : St → R) (hrk : RecOk ts rec) (n : Nat) (hn4 : n ≤ 4) (s : St) (w : World) (h : Psr w b g cap ts.length s.at_ s.n s.open_) (ht : TsAt w g ts) (hC : ConsAt w) (hs : StOk ts s)
     (HR : ∀ s1 : St, StOk ts s1 → s1.open_ = s.open_ → ∀ W, Psr W b g cap ts.length s1.at_ s1.n s1.open_ → TsAt W g ts → ConsAt W → Calls Tryz.prog 48 #[.pointer (some ⟨b, 0, none⟩), .int .i64 ((n : Int) + 1)] W fun e w' => ResP b g cap ts W (rec s1) e w') :
    Calls Tryz.prog 48 #[.pointer (some ⟨b, 0, none⟩), .int .i64 n] w fun e w' => ResP b g cap ts w ((rec s).then fun x s1 => loopR rec ts n 201 x s1) e w' := by
  obtain ⟨FIN, hFIN⟩ : ∃ F, ((rec s).then fun x s1 => loopR rec ts n 201 x s1) = F := ⟨_, rfl⟩
  rw [hFIN]
  have hlt := h.lt
  have hb := (Below.refl w.heap.size w).alloc (Nat.le_refl _) (.cells #[.int .i64 0, .int .i64 0, .string ⟨#[]⟩, .slice none 0 0] 24)
  have HX := Lib.hid (Bx.new w (.int .i64 0) (.int .i64 0) (.string ⟨#[]⟩) (.slice none 0 0))
  have HL0 := Lib.hid (HR s hs rfl _ (h.below hb) (ht.below hb) (hC.keep (Kept.of_below (ok := fun _ => True) hb) trivial))
  have HO0 := Lib.hid (Only.of_below (b := b) hb)
  have HT := Lib.hid ht
  have HC := Lib.hid hC
  have HREC := Lib.hid HR
  have HRK := Lib.hid hrk
  have HE := Lib.hid hE
  have HS := Lib.hid hs
  have HFIN := Lib.hid hFIN
  have hne1 : ¬ w.heap.size = b := by omega
  have hne2 : ¬ b = w.heap.size := by omega
  have hni : (n : Int) ≤ 4 := by omega
  have hn5 : ((n : Int) == 5) = false := by rw [beq_eq_false_iff_ne]; omega
  have HN4 := Lib.hid hn4
  clear h ht hC HR hrk hE hs hFIN hb hn4
  go_enter Tryz.func48, Tryz.ntmps48
  go_wp2_with fail
  refine wp_scope_label 0 (LvJ b g cap ts rec n s.open_ w FIN) (fun _ w' => lvN b w') rfl ?pass ?first
  case first =>
    intro hat
    have HAT := Lib.hid hat
    clear hat
    go_wp2_with fail
    refine HL0.out.mono ?_
    have hf := HFIN.out
    cases hr : rec s with
    | bad er a =>
      rw [hr] at hf
      have hf2 : R.bad er a = FIN := hf
      subst hf2
      rintro e w1 ⟨o1, rfl⟩
      have HO := Lib.hid (HO0.out.trans o1)
      clear o1 hf
      unfold panS
      go_wp2_with fail
      exact ⟨rfl, HO.out, rfl⟩
    | ok x s1 =>
      rw [hr] at hf
      have hf2 : loopR rec ts n 201 x s1 = FIN := hf
      rintro e w1 ⟨o1, q, c, rfl, hfa, h1⟩
      have hx1 := HX.out.keep o1.kept hne1
      have hsz1 := o1.size
      have hadv := HRK.out s x s1 HS.out hr
      have hO1 := (HO0.out.trans o1).alloc (.cells #[.int .i64 x.op, .int .i64 x.num, .string (S x.text), .slice q x.args.len c] 24)
      have hbx := Bx.new w1 (.int .i64 x.op) (.int .i64 x.num) (.string (S x.text)) (.slice q x.args.len c)
      have hL : LvP b g cap ts rec n s.open_ w w1.heap.size FIN x s1 201 q c (w1.alloc (.cells #[.int .i64 x.op, .int .i64 x.num, .string (S x.text), .slice q x.args.len c] 24)) := by
        have hl1 := HX.out.lt
        refine ⟨hx1.lt, hO1, ⟨_, _, _, _, hx1.keep (Kept.alloc (ok := fun _ => True) _ _) trivial⟩, hbx, ?_, h1.keep (Kept.alloc (ok := fun _ => True) _ _) trivial, hadv.ok HS.out.op, hadv.op, by omega, hf2⟩
        have hfa2 := FAt.mono (ok' := fun g => (w.heap.size ≤ g ∧ g ≠ w.heap.size ∧ g ≠ w1.heap.size) ∧ g < w1.heap.size) (fun g hg1 hg2 => ⟨⟨by simp at hg2; omega, by simp at hg2; omega, by omega⟩, hg1⟩) _ _ hfa
        exact FAt.mono (fun g _ hg => hg.1) _ _ (hfa2.keep (Kept.alloc w1 _))
      have HL1 := Lib.hid hL
      clear hL hbx hO1 hadv hsz1 hx1 hfa h1 o1 hf hf2 hr
      unfold exprC
      go_wp2_with fail
      go_step3
      rename_i hK
      refine hK _ _ ?_
      refine HAT.out _ _ ?_
      exact ⟨w1.heap.size, x, s1, 201, q, c, _, _, _, _, _, _, _, _, _, _, _, _, _, _, _, _, _, _, _, _, _, _, _, _, _, _, _, _, _, _, _, _, _, _, _, _, _, _, _, _, _, _, _, _, _, _, rfl, HL1.out⟩
  case pass =>
    rintro a' wr ⟨X, x, s1, kk, q, c, u6, u7, u8, u9, u10, u11, u12, u13, u14, u15, u16, u17, u18, u19, u20, u21, u22, u23, u24, u25, u26, u27, u28, u29, u30, u31, u32, u33, u34, u35, u36, u37, u38, u39, u40, u41, u42, u43, u44, u45, u46, u47, u48, u49, u50, u51, rfl, hwX, hO, ⟨y0, y1, y2, y3, hh⟩, hx, hfa, hp, hs1, ho1, hkk, hfin⟩
    have hXlt := hx.lt
    have hbX : ¬ b = X := by have := HX.out.lt; have := hp.lt; omega
    have HTS := Lib.hid (hO.ts HT.out HE.out.ne)
    have HCS := Lib.hid (HC.out.only hO HE.out.con)
    have HOP := Lib.hid (poperator_any b g cap s1.at_ s1.n s1.open_ n ts wr hp HTS.out hs1.at_ HE.out.len (HE.out.toks _) HCS.out)
    have hmap := opA_opAt n HN4.out (tk ts s1.at_)
    have hN2 := hs1.n
    have hA2 := hs1.at_
    cases kk with
    | zero => omega
    | succ kk =>
    unfold loopR at hfin
    cases hop : opA n (tk ts s1.at_) with
    | none =>
      rw [hop] at hmap HOP
      rw [show opAt n (tk ts s1.at_) = none from hmap.symm] at hfin
      unfold conV at HOP
      simp only at HOP hfin
      subst hfin
      have HHH := Lib.hid hh
      have HXX := Lib.hid hx
      have HFA := Lib.hid hfa
      have HP := Lib.hid hp
      have HO := Lib.hid hO
      clear hh hx hfa hp hs1 hO hop hmap hkk hN2 hA2 ho1
      go_wp2_with fail
      refine HOP.out.mono ?_
      rintro e v0 ⟨rfl, b0⟩
      have hh := HHH.out.keep (Kept.of_below (ok := fun _ => True) b0) trivial
      have hx := HXX.out.keep (Kept.of_below (ok := fun _ => True) b0) trivial
      have hO := HO.out.trans (Only.of_below (b := b) b0)
      have hp := HP.out.below b0
      have hfa := HFA.out.keep (Kept.of_below b0)
      have hlh := hh.lt
      have hlx := hx.lt
      have p0 := hh.c0
      have p1 := hh.c1
      have p2 := hh.c2
      have p3 := hh.c3
      have pf := hh.fz
      have r0 := hx.c0
      have r1 := hx.c1
      have r2 := hx.c2
      have r3 := hx.c3
      have zx : ∀ o j, (v0.alloc o).cell? ⟨X, j, none⟩ = v0.cell? ⟨X, j, none⟩ := fun o j => Kept.cell (Kept.alloc (ok := fun _ => True) v0 o) trivial hlx
      have zh : ∀ o j, (v0.alloc o).cell? ⟨w.heap.size, j, none⟩ = v0.cell? ⟨w.heap.size, j, none⟩ := fun o j => Kept.cell (Kept.alloc (ok := fun _ => True) v0 o) trivial hlh
      have zf : ∀ o j, (v0.alloc o).frozen? ⟨w.heap.size, j, none⟩ = false := fun o j => (hh.keep (Kept.alloc (ok := fun _ => True) v0 o) trivial).fz j
      have HXF := Lib.hid (hh.put (.int .i64 x.op) (.int .i64 x.num) (.string (S x.text)) (.slice q x.args.len c))
      have HOF := Lib.hid (hO.put w.heap.size (Nat.le_refl _) (.int .i64 x.op) (.int .i64 x.num) (.string (S x.text)) (.slice q x.args.len c))
      have HPF := Lib.hid (hp.keep (Kept.put (ok := (· ≠ w.heap.size)) v0 w.heap.size (.int .i64 x.op) (.int .i64 x.num) (.string (S x.text)) (.slice q x.args.len c) (by simp)) hne2)
      have HFF := Lib.hid (FAt.mono (ok' := (w.heap.size ≤ ·)) (fun _ _ hg => hg.1) _ _ (hfa.keep (Kept.put v0 w.heap.size (.int .i64 x.op) (.int .i64 x.num) (.string (S x.text)) (.slice q x.args.len c) (by simp))))
      clear b0 hh hx hO hp hfa HHH HXX HFA HP HO
      go_wp2_with fail
      simp only [Exit.jump]
      refine bodyPost_ret (res_expr rfl _ _ w.heap.size _ _ _ _ rfl (HXF.out.keep (Kept.alloc (ok := fun _ => True) _ _) trivial)) rfl ?_
      exact ⟨HOF.out.alloc _, q, c, rfl, HFF.out.keep (Kept.alloc _ _), HPF.out.keep (Kept.alloc (ok := fun _ => True) _ _) trivial⟩
    | some c0 =>
      rw [hop] at hmap HOP
      obtain ⟨cw, co, cl, cn, ct⟩ := c0
      rw [show opAt n (tk ts s1.at_) = some (co, ct) from hmap.symm] at hfin
      unfold conV at HOP
      simp only at HOP hfin
      have hkd : (tk ts s1.at_).kind ≠ 0 := by
        intro hk; unfold opA at hop; rw [hk, if_neg (by decide)] at hop; cases hop
      have HCT := Lib.hid (show ct = true → n = 2 from opAt_turned hmap.symm)
      by_cases h200 : s1.n = 200
      · rw [if_pos h200] at hfin
        subst hfin
        have HP := Lib.hid (fun W (k : Below wr.heap.size wr W) => pproduce_bad b g cap s1.at_ s1.open_ ts.length W (by have h := hp.below k; rw [h200] at h; exact h))
        have HO := Lib.hid hO
        clear hh hx hfa hp hs1 hO hop hmap hkk hN2 hA2 ho1 h200 hkd
        go_wp2_with fail
        refine HOP.out.mono ?_
        rintro e v0 ⟨rfl, b0⟩
        have b2 := b0.alloc b0.size (.cells #[.string (S cw), .int .i64 co, .int .i64 cl, .int .i64 cn, .bool ct] 96)
        have HD := Lib.hid (HP.out _ b2)
        have HO2 := Lib.hid (HO.out.trans (Only.of_below (b := b) b2))
        clear b0 b2 HP HO HOP
        go_wp2_with fail
        refine HD.out.mono ?_
        rintro e v1 ⟨rfl, b1⟩
        have HO3 := Lib.hid (HO2.out.trans (Only.of_below (b := b) b1))
        clear b1
        unfold panS
        go_wp2_with fail
        exact ⟨rfl, HO3.out, rfl⟩
      rw [if_neg h200] at hfin
      have h200' : s1.n < 200 := by omega
      have hs3 : StOk ts ⟨s1.at_ + 1, s1.n + 1, s1.open_⟩ := ⟨HE.out.ends.next hs1.at_ hkd, by show s1.n + 1 ≤ 200; omega, hs1.op⟩
      have HL := Lib.hid (HREC.out ⟨s1.at_ + 1, s1.n + 1, s1.open_⟩ hs3 ho1)
      have hadv := fun y s4 hr => HRK.out ⟨s1.at_ + 1, s1.n + 1, s1.open_⟩ y s4 hs3 hr
      have hni2 : (s1.at_ : Int) < 8001 := by have := HE.out.len; omega
      have hwr : lvN b wr = (200 - (s1.n : Int)).toNat := lvN_psr hp
      have HH := Lib.hid hh
      have HXX := Lib.hid hx
      have HFA := Lib.hid hfa
      have HP := Lib.hid hp
      have HO := Lib.hid hO
      clear hh hx hfa hp hs1 hO hop hmap h200 hkd hs3 hA2
      cases hr : rec ⟨s1.at_ + 1, s1.n + 1, s1.open_⟩ with
      | bad er a =>
        rw [hr] at hfin HL
        have hf2 : R.bad er a = FIN := hfin
        subst hf2
        clear hfin hr hadv hwr hkk hN2 ho1
        go_wp2_with fail
        refine HOP.out.mono ?_
        rintro e v0 ⟨rfl, b0⟩
        have b2 := b0.alloc b0.size (.cells #[.string (S cw), .int .i64 co, .int .i64 cl, .int .i64 cn, .bool ct] 96)
        have hk0 : Bc (v0.alloc (.cells #[.string (S cw), .int .i64 co, .int .i64 cl, .int .i64 cn, .bool ct] 96)) v0.heap.size ⟨cw, co, cl, cn, ct⟩ := heap_alloc_new v0 _
        have h2 := HP.out.below b2
        have ho2 := HO.out.trans (Only.of_below (b := b) b2)
        have hx2 := HXX.out.keep (Kept.of_below (ok := fun _ => True) b2) trivial
        have hh2 := HH.out.keep (Kept.of_below (ok := fun _ => True) b2) trivial
        have hf2 := HFA.out.keep (Kept.of_below b2)
        have hX1 : X < v0.heap.size := Nat.lt_of_lt_of_le HXX.out.lt b0.size
        have HPD := Lib.hid (pproduce_ok b g cap s1.at_ s1.open_ s1.n ts.length _ h2 h200')
        clear b0 b2 HOP HP HO HXX HH HFA
        go_wp2_with fail
        refine HPD.out.mono ?_
        rintro e v1 ⟨rfl, o1, h1⟩
        have c1 := h1.c1
        have fz := h1.fz
        have hneX : ¬ v0.heap.size = b := by omega
        have o2 := o1.set' 1 (.int .i64 ((s1.at_ : Int) + 1))
        have ho3 := ho2.trans o2
        have HLL := Lib.hid (HL.out (v1.setCell ⟨b, 1, none⟩ (.int .i64 ((s1.at_ : Int) + 1))) (h1.set1 ((s1.at_ : Int) + 1)) (ho3.ts HT.out HE.out.ne) (HC.out.only ho3 HE.out.con))
        have HO4 := Lib.hid ho3
        have HX4 := Lib.hid (hx2.keep o2.kept (fun e => hbX e.symm))
        have HH4 := Lib.hid (hh2.keep o2.kept hne1)
        have HK4 := Lib.hid (hk0.keep o2.kept hneX)
        have HF4 := Lib.hid (hf2.keep (o2.keptB (by show ¬ (w.heap.size ≤ b ∧ b ≠ w.heap.size ∧ b ≠ X); omega)))
        have HS4 := Lib.hid (show v0.heap.size < (v1.setCell ⟨b, 1, none⟩ (.int .i64 ((s1.at_ : Int) + 1))).heap.size from (Array.getElem?_eq_some_iff.1 HK4.out).1)
        clear o1 o2 ho2 h2 h1 hx2 hh2 hk0 hf2 ho3 HL HPD h200'
        go_wp2_with fail
        refine HLL.out.mono ?_
        rintro e v2 ⟨o3, rfl⟩
        have HO5 := Lib.hid (HO4.out.trans o3)
        clear o3
        unfold panS
        go_wp2_with fail
        exact ⟨rfl, HO5.out, rfl⟩
      | ok y s4 =>
        rw [hr] at hfin HL
        have ha := Lib.hid (hadv y s4 hr)
        have HKK := Lib.hid hkk
        have HWR := Lib.hid hwr
        have HO1 := Lib.hid ho1
        have HF := Lib.hid (show (if n = 2 then R.ok (opT co ct x y) s4 else loopR rec ts n kk (opT co ct x y) s4) = FIN from hfin)
        clear hfin hr hadv hkk hwr hN2 ho1
        cases ct with
        | false => 
        go_wp2_with fail
        refine HOP.out.mono ?_
        rintro e v0 ⟨rfl, b0⟩
        have b2 := b0.alloc b0.size (.cells #[.string (S cw), .int .i64 co, .int .i64 cl, .int .i64 cn, .bool false] 96)
        have hk0 : Bc (v0.alloc (.cells #[.string (S cw), .int .i64 co, .int .i64 cl, .int .i64 cn, .bool false] 96)) v0.heap.size ⟨cw, co, cl, cn, false⟩ := heap_alloc_new v0 _
        have h2 := HP.out.below b2
        have ho2 := HO.out.trans (Only.of_below (b := b) b2)
        have hx2 := HXX.out.keep (Kept.of_below (ok := fun _ => True) b2) trivial
        have hh2 := HH.out.keep (Kept.of_below (ok := fun _ => True) b2) trivial
        have hf2 := HFA.out.keep (Kept.of_below b2)
        have hX1 : X < v0.heap.size := Nat.lt_of_lt_of_le HXX.out.lt b0.size
        have HPD := Lib.hid (pproduce_ok b g cap s1.at_ s1.open_ s1.n ts.length _ h2 h200')
        clear b0 b2 HOP HP HO HXX HH HFA
        go_wp2_with fail
        refine HPD.out.mono ?_
        rintro e v1 ⟨rfl, o1, h1⟩
        have c1 := h1.c1
        have fz := h1.fz
        have hneX : ¬ v0.heap.size = b := by omega
        have o2 := o1.set' 1 (.int .i64 ((s1.at_ : Int) + 1))
        have ho3 := ho2.trans o2
        have HLL := Lib.hid (HL.out (v1.setCell ⟨b, 1, none⟩ (.int .i64 ((s1.at_ : Int) + 1))) (h1.set1 ((s1.at_ : Int) + 1)) (ho3.ts HT.out HE.out.ne) (HC.out.only ho3 HE.out.con))
        have HO4 := Lib.hid ho3
        have HX4 := Lib.hid (hx2.keep o2.kept (fun e => hbX e.symm))
        have HH4 := Lib.hid (hh2.keep o2.kept hne1)
        have HK4 := Lib.hid (hk0.keep o2.kept hneX)
        have HF4 := Lib.hid (hf2.keep (o2.keptB (by show ¬ (w.heap.size ≤ b ∧ b ≠ w.heap.size ∧ b ≠ X); omega)))
        have HS4 := Lib.hid (show v0.heap.size < (v1.setCell ⟨b, 1, none⟩ (.int .i64 ((s1.at_ : Int) + 1))).heap.size from (Array.getElem?_eq_some_iff.1 HK4.out).1)
        clear o1 o2 ho2 h2 h1 hx2 hh2 hk0 hf2 ho3 HL HPD h200'
        go_wp2_with fail
        refine HLL.out.mono ?_
        rintro e v2 ⟨o5, qy, cy, rfl, hfy, h5⟩
        have hx5 := HX4.out.keep o5.kept (fun e => hbX e.symm)
        have hh5 := HH4.out.keep o5.kept hne1
        have hk5 := HK4.out.keep o5.kept hneX
        have hf5 := HF4.out.keep (o5.keptB (by show ¬ (w.heap.size ≤ b ∧ b ≠ w.heap.size ∧ b ≠ X); omega))
        have hlx := hx5.lt
        have hlh := hh5.lt
        have hlk : v0.heap.size < v2.heap.size := (Array.getElem?_eq_some_iff.1 hk5).1
        have p0 := hx5.c0
        have p1 := hx5.c1
        have p2 := hx5.c2
        have p3 := hx5.c3
        have pf := hx5.fz
        have r0 := hh5.c0
        have r1 := hh5.c1
        have r2 := hh5.c2
        have r3 := hh5.c3
        have rf := hh5.fz
        have k1 : v2.cell? ⟨v0.heap.size, 1, none⟩ = some (.int .i64 co) := cell_of_row v2 v0.heap.size 1 _ _ (0, 0) hk5
        have k4 : v2.cell? ⟨v0.heap.size, 4, none⟩ = some (.bool false) := cell_of_row v2 v0.heap.size 4 _ _ (0, 0) hk5
        have zx : ∀ o j, (v2.alloc o).cell? ⟨X, j, none⟩ = v2.cell? ⟨X, j, none⟩ := fun o j => Kept.cell (Kept.alloc (ok := fun _ => True) v2 o) trivial hlx
        have zh : ∀ o j, (v2.alloc o).cell? ⟨w.heap.size, j, none⟩ = v2.cell? ⟨w.heap.size, j, none⟩ := fun o j => Kept.cell (Kept.alloc (ok := fun _ => True) v2 o) trivial hlh
        have zk : ∀ o j, (v2.alloc o).cell? ⟨v0.heap.size, j, none⟩ = v2.cell? ⟨v0.heap.size, j, none⟩ := fun o j => Kept.cell (Kept.alloc (ok := fun _ => True) v2 o) trivial hlk
        have zf : ∀ o j, (v2.alloc o).frozen? ⟨X, j, none⟩ = false := fun o j => (hx5.keep (Kept.alloc (ok := fun _ => True) v2 o) trivial).fz j
        have zg : ∀ o j, (v2.alloc o).frozen? ⟨w.heap.size, j, none⟩ = false := fun o j => (hh5.keep (Kept.alloc (ok := fun _ => True) v2 o) trivial).fz j
        have hnXH : ¬ X = w.heap.size := by omega
        have hnHX : ¬ w.heap.size = X := by omega
        have hnZX : ¬ v0.heap.size = X := by omega
        have hnXZ : ¬ X = v0.heap.size := by omega
        have hnYX : ¬ v2.heap.size = X := by omega
        have hnXY : ¬ X = v2.heap.size := by omega
        have HX5 := Lib.hid hx5
        have HH5 := Lib.hid hh5
        have HF5 := Lib.hid hf5
        have HFY := Lib.hid hfy
        have HP5 := Lib.hid h5
        have HO5 := Lib.hid (HO4.out.trans o5)
        have HW5 := Lib.hid o5.size
        clear hx5 hh5 hk5 hf5 hfy h5 o5 HO4 HX4 HH4 HK4 HF4 HLL
        unfold exprC
        by_cases hn2 : n = 2
        · have hnb : ((n : Int) == 2) = true := by rw [hn2]; rfl
          go_wp2_with fail
          simp only [Exit.jump]
          refine bodyPost_ret (res_expr rfl _ _ w.heap.size _ _ _ _ rfl (lvW2_bx HH5.out hnHX)) rfl ?_
          have hf : R.ok (opT co false x y) s4 = FIN := by have h := HF.out; rw [if_pos hn2] at h; exact h
          rw [← hf]
          refine ⟨lvW2_only HO5.out (Nat.le_of_lt hwX) (Nat.le_refl _), some ⟨v2.heap.size + 1, 0, none⟩, 2, rfl, ?_, HP5.out.keep (lvW2_kept (ok := fun g => g ≠ w.heap.size ∧ g ≠ X) (by simp) (by simp)) ⟨hne2, hbX⟩⟩
          exact FAt.mono (fun _ _ hg => hg.1) _ _ (lvP_row (co := co) (turned := false) (c := c) (cy := cy) (lvW2_kept (by simp) (by simp)) lvW2_new HF5.out HFY.out hwX (by have := HS4.out; have := hX1; omega) HW5.out)
        · have hnb : ((n : Int) == 2) = false := by rw [beq_eq_false_iff_ne]; omega
          go_wp2_with fail
          go_step3
          obtain ⟨hL, hM⟩ := lvP_next (co := co) (turned := false) (c := c) (cy := cy) (V := lvW v2 X co (.cells #[.int .i64 y.op, .int .i64 y.num, .string (S y.text), .slice qy y.args.len cy] 24) (two8 x.op x.num x.text q x.args.len c y.op y.num y.text qy y.args.len cy)) hlt (lvW_only HO5.out (Nat.le_of_lt hwX)) (HH5.out.keep (lvW_kept (ok := (· ≠ X)) (by simp)) hnHX) (lvW_bx HX5.out) (lvW_kept (by simp)) lvW_new HF5.out HFY.out hwX (by have := HS4.out; have := hX1; omega) HW5.out HP5.out ha.out HO1.out HS.out.op HKK.out HWR.out hn2 HF.out
          exact ⟨rfl, ⟨X, opT co false x y, s4, kk, some ⟨v2.heap.size + 1, 0, none⟩, 2, _, _, _, _, _, _, _, _, _, _, _, _, _, _, _, _, _, _, _, _, _, _, _, _, _, _, _, _, _, _, _, _, _, _, _, _, _, _, _, _, _, _, _, _, _, _, rfl, hL⟩, hM⟩
        | true => 
        go_wp2_with fail
        refine HOP.out.mono ?_
        rintro e v0 ⟨rfl, b0⟩
        have b2 := b0.alloc b0.size (.cells #[.string (S cw), .int .i64 co, .int .i64 cl, .int .i64 cn, .bool true] 96)
        have hk0 : Bc (v0.alloc (.cells #[.string (S cw), .int .i64 co, .int .i64 cl, .int .i64 cn, .bool true] 96)) v0.heap.size ⟨cw, co, cl, cn, true⟩ := heap_alloc_new v0 _
        have h2 := HP.out.below b2
        have ho2 := HO.out.trans (Only.of_below (b := b) b2)
        have hx2 := HXX.out.keep (Kept.of_below (ok := fun _ => True) b2) trivial
        have hh2 := HH.out.keep (Kept.of_below (ok := fun _ => True) b2) trivial
        have hf2 := HFA.out.keep (Kept.of_below b2)
        have hX1 : X < v0.heap.size := Nat.lt_of_lt_of_le HXX.out.lt b0.size
        have HPD := Lib.hid (pproduce_ok b g cap s1.at_ s1.open_ s1.n ts.length _ h2 h200')
        clear b0 b2 HOP HP HO HXX HH HFA
        go_wp2_with fail
        refine HPD.out.mono ?_
        rintro e v1 ⟨rfl, o1, h1⟩
        have c1 := h1.c1
        have fz := h1.fz
        have hneX : ¬ v0.heap.size = b := by omega
        have o2 := o1.set' 1 (.int .i64 ((s1.at_ : Int) + 1))
        have ho3 := ho2.trans o2
        have HLL := Lib.hid (HL.out (v1.setCell ⟨b, 1, none⟩ (.int .i64 ((s1.at_ : Int) + 1))) (h1.set1 ((s1.at_ : Int) + 1)) (ho3.ts HT.out HE.out.ne) (HC.out.only ho3 HE.out.con))
        have HO4 := Lib.hid ho3
        have HX4 := Lib.hid (hx2.keep o2.kept (fun e => hbX e.symm))
        have HH4 := Lib.hid (hh2.keep o2.kept hne1)
        have HK4 := Lib.hid (hk0.keep o2.kept hneX)
        have HF4 := Lib.hid (hf2.keep (o2.keptB (by show ¬ (w.heap.size ≤ b ∧ b ≠ w.heap.size ∧ b ≠ X); omega)))
        have HS4 := Lib.hid (show v0.heap.size < (v1.setCell ⟨b, 1, none⟩ (.int .i64 ((s1.at_ : Int) + 1))).heap.size from (Array.getElem?_eq_some_iff.1 HK4.out).1)
        clear o1 o2 ho2 h2 h1 hx2 hh2 hk0 hf2 ho3 HL HPD h200'
        go_wp2_with fail
        refine HLL.out.mono ?_
        rintro e v2 ⟨o5, qy, cy, rfl, hfy, h5⟩
        have hx5 := HX4.out.keep o5.kept (fun e => hbX e.symm)
        have hh5 := HH4.out.keep o5.kept hne1
        have hk5 := HK4.out.keep o5.kept hneX
        have hf5 := HF4.out.keep (o5.keptB (by show ¬ (w.heap.size ≤ b ∧ b ≠ w.heap.size ∧ b ≠ X); omega))
        have hlx := hx5.lt
        have hlh := hh5.lt
        have hlk : v0.heap.size < v2.heap.size := (Array.getElem?_eq_some_iff.1 hk5).1
        have p0 := hx5.c0
        have p1 := hx5.c1
        have p2 := hx5.c2
        have p3 := hx5.c3
        have pf := hx5.fz
        have r0 := hh5.c0
        have r1 := hh5.c1
        have r2 := hh5.c2
        have r3 := hh5.c3
        have rf := hh5.fz
        have k1 : v2.cell? ⟨v0.heap.size, 1, none⟩ = some (.int .i64 co) := cell_of_row v2 v0.heap.size 1 _ _ (0, 0) hk5
        have k4 : v2.cell? ⟨v0.heap.size, 4, none⟩ = some (.bool true) := cell_of_row v2 v0.heap.size 4 _ _ (0, 0) hk5
        have zx : ∀ o j, (v2.alloc o).cell? ⟨X, j, none⟩ = v2.cell? ⟨X, j, none⟩ := fun o j => Kept.cell (Kept.alloc (ok := fun _ => True) v2 o) trivial hlx
        have zh : ∀ o j, (v2.alloc o).cell? ⟨w.heap.size, j, none⟩ = v2.cell? ⟨w.heap.size, j, none⟩ := fun o j => Kept.cell (Kept.alloc (ok := fun _ => True) v2 o) trivial hlh
        have zk : ∀ o j, (v2.alloc o).cell? ⟨v0.heap.size, j, none⟩ = v2.cell? ⟨v0.heap.size, j, none⟩ := fun o j => Kept.cell (Kept.alloc (ok := fun _ => True) v2 o) trivial hlk
        have zf : ∀ o j, (v2.alloc o).frozen? ⟨X, j, none⟩ = false := fun o j => (hx5.keep (Kept.alloc (ok := fun _ => True) v2 o) trivial).fz j
        have zg : ∀ o j, (v2.alloc o).frozen? ⟨w.heap.size, j, none⟩ = false := fun o j => (hh5.keep (Kept.alloc (ok := fun _ => True) v2 o) trivial).fz j
        have hnXH : ¬ X = w.heap.size := by omega
        have hnHX : ¬ w.heap.size = X := by omega
        have hnZX : ¬ v0.heap.size = X := by omega
        have hnXZ : ¬ X = v0.heap.size := by omega
        have hnYX : ¬ v2.heap.size = X := by omega
        have hnXY : ¬ X = v2.heap.size := by omega
        have HX5 := Lib.hid hx5
        have HK5 := Lib.hid hk5
        have HH5 := Lib.hid hh5
        have HF5 := Lib.hid hf5
        have HFY := Lib.hid hfy
        have HP5 := Lib.hid h5
        have HO5 := Lib.hid (HO4.out.trans o5)
        have HW5 := Lib.hid o5.size
        clear hx5 hh5 hk5 hf5 hfy h5 o5 HO4 HX4 HH4 HK4 HF4 HLL
        unfold exprC
        have hn2 : n = 2 := HCT.out (by simp)
        have hnb : ((n : Int) == 2) = true := by rw [hn2]; rfl
        obtain ⟨W7, hW7⟩ : ∃ W7, W7 = (put4 v2 X (.int .i64 y.op) (.int .i64 y.num) (.string (S y.text)) (.slice qy y.args.len cy)).alloc (.cells #[.int .i64 x.op, .int .i64 x.num, .string (S x.text), .slice q x.args.len c] 24) := ⟨_, rfl⟩
        have hs7 : W7.heap.size = v2.heap.size + 1 := by rw [hW7]; simp [put4]
        have hB7 : Bx W7 v2.heap.size (.int .i64 x.op) (.int .i64 x.num) (.string (S x.text)) (.slice q x.args.len c) := by
          rw [hW7]
          have h := Bx.new (put4 v2 X (.int .i64 y.op) (.int .i64 y.num) (.string (S y.text)) (.slice qy y.args.len cy)) (.int .i64 x.op) (.int .i64 x.num) (.string (S x.text)) (.slice q x.args.len c)
          rw [put4_size] at h
          exact h
        have hX7 : Bx W7 X (.int .i64 y.op) (.int .i64 y.num) (.string (S y.text)) (.slice qy y.args.len cy) := by
          rw [hW7]
          exact (HX5.out.put _ _ _ _).keep (Kept.alloc (ok := fun _ => True) _ _) trivial
        have hH7 : Bx W7 w.heap.size y0 y1 y2 y3 := by
          rw [hW7]
          exact (HH5.out.keep (Kept.put (ok := (· ≠ X)) v2 X _ _ _ _ (by simp)) hnHX).keep (Kept.alloc (ok := fun _ => True) _ _) trivial
        have hk7 : Bc W7 v0.heap.size ⟨cw, co, cl, cn, true⟩ := by
          rw [hW7]
          exact (HK5.out.keep (Kept.put (ok := (· ≠ X)) v2 X _ _ _ _ (by simp)) hnZX).keep (Kept.alloc (ok := fun _ => True) _ _) trivial
        have lB7 := hB7.lt
        have lX7 := hX7.lt
        have lH7 := hH7.lt
        have s0 := hX7.c0
        have s1c := hX7.c1
        have s2c := hX7.c2
        have s3c := hX7.c3
        have sf := hX7.fz
        have t0 := hB7.c0
        have t1 := hB7.c1
        have t2 := hB7.c2
        have t3 := hB7.c3
        have h0c := hH7.c0
        have h1c := hH7.c1
        have h2c := hH7.c2
        have h3c := hH7.c3
        have hff := hH7.fz
        have k7 : W7.cell? ⟨v0.heap.size, 1, none⟩ = some (.int .i64 co) := cell_of_row W7 v0.heap.size 1 _ _ (0, 0) hk7
        have qX : ∀ o j, (W7.alloc o).cell? ⟨X, j, none⟩ = W7.cell? ⟨X, j, none⟩ := fun o j => Kept.cell (Kept.alloc (ok := fun _ => True) W7 o) trivial lX7
        have qH : ∀ o j, (W7.alloc o).cell? ⟨w.heap.size, j, none⟩ = W7.cell? ⟨w.heap.size, j, none⟩ := fun o j => Kept.cell (Kept.alloc (ok := fun _ => True) W7 o) trivial lH7
        have qf : ∀ o j, (W7.alloc o).frozen? ⟨X, j, none⟩ = false := fun o j => (hX7.keep (Kept.alloc (ok := fun _ => True) W7 o) trivial).fz j
        have qg : ∀ o j, (W7.alloc o).frozen? ⟨w.heap.size, j, none⟩ = false := fun o j => (hH7.keep (Kept.alloc (ok := fun _ => True) W7 o) trivial).fz j
        have HW7 := Lib.hid hW7
        have HS7 := Lib.hid hs7
        unfold put4 at HW7
        clear hW7 hs7 hB7 hX7 hH7 hk7
        go_upto_region 12 with fail
        rw [← HW7.out]
        clear p0 p1 p2 p3 pf r0 r1 r2 r3 rf k1 k4 zx zh zk zf zg
        go_wp2_with fail
        simp only [Exit.jump]
        rw [HS7.out, HW7.out]
        refine bodyPost_ret (res_expr rfl _ _ w.heap.size _ _ _ _ rfl (lvT_bx HH5.out hnHX)) rfl ?_
        have hf : R.ok (opT co true x y) s4 = FIN := by have h := HF.out; rw [if_pos hn2] at h; exact h
        rw [← hf]
        refine ⟨lvT_only HO5.out (Nat.le_of_lt hwX) (Nat.le_refl _), some ⟨v2.heap.size + 1, 0, none⟩, 2, rfl, ?_, HP5.out.keep (lvT_kept (ok := fun g => g ≠ w.heap.size ∧ g ≠ X) (by simp) (by simp)) ⟨hne2, hbX⟩⟩
        exact FAt.mono (fun _ _ hg => hg.1) _ _ (lvP_row (co := co) (turned := true) (c := c) (cy := cy) (lvT_kept (by simp) (by simp)) lvT_new HF5.out HFY.out hwX (by have := HS4.out; have := hX1; omega) HW5.out)
end Go.Proofs.YtlmmfhbdebfgkaaGreatDoor.Ex
