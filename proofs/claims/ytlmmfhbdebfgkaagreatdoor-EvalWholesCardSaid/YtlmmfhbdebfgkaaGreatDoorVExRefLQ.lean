/-
  ExRefL, ExRefM.
-/
import Derived.Test.YtlmmfhbdebfgkaaGreatDoorVExRefV
set_option linter.unusedVariables false
set_option linter.unusedSimpArgs false
set_option maxRecDepth 100000
set_option maxHeartbeats 4000000
namespace Go.Proofs.YtlmmfhbdebfgkaaGreatDoor.Ex
open Go.RowKit
open Lx
def lvM (b : Nat) (w : World) : Nat := match w.cell? ⟨b, 4, none⟩, w.cell? ⟨b, 2, none⟩ with
  | some (.int _ e), some (.int _ n) => if e = 0 then 300 - n.toNat else 0
  | _, _ => 0
theorem lvM_rdg {w : World} {b g cap len : Nat} {a n o bad fault : Int} (h : Rdg w b g cap len a n o bad fault) : lvM b w = if bad = 0 then 300 - n.toNat else 0 := by
  unfold lvM
  rw [h.c4, h.c2]
def two8 (o n : Int) (t : List UInt8) (q : Option Addr) (k c : Nat) (o' n' : Int) (t' : List UInt8) (q' : Option Addr) (k' c' : Nat) : Obj :=
  .cells #[.int .i64 o, .int .i64 n, .string (S t), .slice q k c, .int .i64 o', .int .i64 n', .string (S t'), .slice q' k' c'] 24
theorem FAt.two {W : World} {ok : Nat → Prop} {x y : T} {N : Nat} {q q' : Option Addr} {c c' : Nat} (hb : W.heap[N]? = some (two8 x.op x.num x.text q x.args.len c y.op y.num y.text q' y.args.len c')) (hN : ok N) (hf : FAt W ok x.args q) (hf' : FAt W ok y.args q') :
    FAt W ok (two x y) (some ⟨N, 0, none⟩) := by
  have hl := (Array.getElem?_eq_some_iff.1 hb).1
  have hc := fun j => cell_of_row W N j _ _ (0, 0) hb
  exact ⟨N, 0, q, c, rfl, hN, hl, hc 0, hc 1, hc 2, hc 3, hf, N, 4, q', c', rfl, hN, hl, hc 4, hc 5, hc 6, hc 7, hf', trivial⟩
def lvW (w5 : World) (X : Nat) (op : Int) (B : Obj) (o8 : Obj) : World :=
  ((put4 w5 X (.int .i64 op) (.int .i64 0) (.string ⟨#[]⟩) (.slice (some ⟨w5.heap.size + 1, 0, none⟩) 2 2)).alloc B).alloc o8
section
variable {b g cap : Nat} {ts : List TA} {w w5 : World} {op : Int} {B o8 : Obj} {X : Nat} {x0 x1 x2 x3 : Value}
theorem lvW_kept {ok : Nat → Prop} (hX : ¬ ok X) : Kept ok w5 (lvW w5 X op B o8) := ((Kept.put w5 X _ _ _ _ hX).trans (Kept.alloc _ _)).trans (Kept.alloc _ _)
theorem lvW_only (hO : Only b w w5) (hX : w.heap.size ≤ X) : Only b w (lvW w5 X op B o8) := ((hO.put X hX _ _ _ _).alloc _).alloc _
theorem lvW_bx (hx : Bx w5 X x0 x1 x2 x3) : Bx (lvW w5 X op B o8) X (.int .i64 op) (.int .i64 0) (.string (S [])) (.slice (some ⟨w5.heap.size + 1, 0, none⟩) 2 2) :=
  ((hx.put _ _ _ _).keep (Kept.alloc (ok := fun _ => True) _ _) trivial).keep (Kept.alloc (ok := fun _ => True) _ _) trivial
theorem lvW_new : (lvW w5 X op B o8).heap[w5.heap.size + 1]? = some o8 := by
  have h := heap_alloc_new ((put4 w5 X (.int .i64 op) (.int .i64 0) (.string ⟨#[]⟩) (.slice (some ⟨w5.heap.size + 1, 0, none⟩) 2 2)).alloc B) o8
  have e : ((put4 w5 X (.int .i64 op) (.int .i64 0) (.string ⟨#[]⟩) (.slice (some ⟨w5.heap.size + 1, 0, none⟩) 2 2)).alloc B).heap.size = w5.heap.size + 1 := by simp [put4]
  rw [e] at h
  exact h
end
def LvS (b g cap : Nat) (ts : List TA) (rec : St → R) (n : Nat) (o0 lo H X : Nat) (FIN : R) (wr : World) : Prop :=
  ∃ o nm t q k c, Bx wr X (.int .i64 o) (.int .i64 nm) (.string (S t)) (.slice q k c) ∧
    ((∃ x s kk, x.op = o ∧ x.num = nm ∧ x.text = t ∧ x.args.len = k ∧ FAt wr (fun g => lo ≤ g ∧ g ≠ H ∧ g ≠ X) x.args q ∧ Rdg wr b g cap ts.length s.at_ s.n s.open_ 0 0 ∧ StOk ts s ∧ s.open_ = o0 ∧ 201 ≤ kk + s.n ∧ loopR rec ts n kk x s = FIN) ∨
     (∃ er a : Nat, er ≠ 0 ∧ (∃ a' n' o', Rdg wr b g cap ts.length a' n' o' (er : Int) (a : Int)) ∧ FIN = .bad er a))
def lvW2 (w5 : World) (X H : Nat) (op : Int) (B : Obj) (o8 : Obj) : World :=
  ((put4 (put4 w5 X (.int .i64 op) (.int .i64 0) (.string ⟨#[]⟩) (.slice (some ⟨w5.heap.size + 1, 0, none⟩) 2 2)) H (.int .i64 op) (.int .i64 0) (.string ⟨#[]⟩) (.slice (some ⟨w5.heap.size + 1, 0, none⟩) 2 2)).alloc B).alloc o8
section
variable {b g cap : Nat} {ts : List TA} {w w5 : World} {op : Int} {B o8 : Obj} {X H : Nat} {x0 x1 x2 x3 : Value}
theorem lvW2_kept {ok : Nat → Prop} (hX : ¬ ok X) (hH : ¬ ok H) : Kept ok w5 (lvW2 w5 X H op B o8) := (((Kept.put w5 X _ _ _ _ hX).trans (Kept.put _ H _ _ _ _ hH)).trans (Kept.alloc _ _)).trans (Kept.alloc _ _)
theorem lvW2_only (hO : Only b w w5) (hX : w.heap.size ≤ X) (hH : w.heap.size ≤ H) : Only b w (lvW2 w5 X H op B o8) := (((hO.put X hX _ _ _ _).put H hH _ _ _ _).alloc _).alloc _
theorem lvW2_bx (hx : Bx w5 H x0 x1 x2 x3) (hne : H ≠ X) : Bx (lvW2 w5 X H op B o8) H (.int .i64 op) (.int .i64 0) (.string (S [])) (.slice (some ⟨w5.heap.size + 1, 0, none⟩) 2 2) :=
  (((hx.keep (Kept.put (ok := (· ≠ X)) w5 X _ _ _ _ (by simp)) hne).put _ _ _ _).keep (Kept.alloc (ok := fun _ => True) _ _) trivial).keep (Kept.alloc (ok := fun _ => True) _ _) trivial
theorem lvW2_new : (lvW2 w5 X H op B o8).heap[w5.heap.size + 1]? = some o8 := by
  have h := heap_alloc_new ((put4 (put4 w5 X (.int .i64 op) (.int .i64 0) (.string ⟨#[]⟩) (.slice (some ⟨w5.heap.size + 1, 0, none⟩) 2 2)) H (.int .i64 op) (.int .i64 0) (.string ⟨#[]⟩) (.slice (some ⟨w5.heap.size + 1, 0, none⟩) 2 2)).alloc B) o8
  have e : ((put4 (put4 w5 X (.int .i64 op) (.int .i64 0) (.string ⟨#[]⟩) (.slice (some ⟨w5.heap.size + 1, 0, none⟩) 2 2)) H (.int .i64 op) (.int .i64 0) (.string ⟨#[]⟩) (.slice (some ⟨w5.heap.size + 1, 0, none⟩) 2 2)).alloc B).heap.size = w5.heap.size + 1 := by simp [put4]
  rw [e] at h
  exact h
end
def opT (op : Int) (turned : Bool) (x y : T) : T := ⟨op, 0, [], if turned = true then Ex.two y x else Ex.two x y⟩
theorem lv_next {b g cap : Nat} {ts : List TA} {rec : St → R} {n o0 : Nat} {w w5 V : World} {X lo5 kk : Nat} {op : Int} {turned : Bool} {x : T} {s2 s3 : St} {q : Option Addr} {FIN : R} {oy ny : Int} {ty : List UInt8} {qy : Option Addr} {ky cy c : Nat}
    (hV : Bx V X (.int .i64 op) (.int .i64 0) (.string (S [])) (.slice (some ⟨w5.heap.size + 1, 0, none⟩) 2 2))
    (hk : Kept (fun g => g ≠ w.heap.size ∧ g ≠ X) w5 V) (hnew : V.heap[w5.heap.size + 1]? = some (if turned = true then two8 oy ny ty qy ky cy x.op x.num x.text q x.args.len c else two8 x.op x.num x.text q x.args.len c oy ny ty qy ky cy))
    (hfa : FAt w5 (fun g => w.heap.size ≤ g ∧ g ≠ w.heap.size ∧ g ≠ X) x.args q) (hp : Post b g cap ts lo5 (rec s3) oy ny ty qy ky w5) (hX : w.heap.size < X) (hl : X < lo5) (hl5 : lo5 ≤ w5.heap.size) (hb : b < w.heap.size)
    (hs3 : s3.n = s2.n + 1) (ho : s3.open_ = o0) (ho20 : o0 ≤ 20) (hadv : ∀ y s4, rec s3 = .ok y s4 → Adv ts s3 s4 s3.open_) (hkk : 201 ≤ kk + 1 + s2.n) (hs200 : s2.n ≤ 200) (h2 : n ≠ 2)
    (hfin : ((rec s3).then fun y s4 => if n = 2 then .ok (opT op turned x y) s4 else loopR rec ts n kk (opT op turned x y) s4) = FIN) :
    LvS b g cap ts rec n o0 w.heap.size w.heap.size X FIN V ∧ lvM b V < 300 - s2.n := by
  cases hr : rec s3 with
  | ok y s4 =>
    rw [hr] at hp hfin
    obtain ⟨e1, e2, e3, e4, hfy, hrd⟩ := hp
    subst e1 e2 e3 e4
    have ha := hadv y s4 hr
    have hN : (fun g => w.heap.size ≤ g ∧ g ≠ w.heap.size ∧ g ≠ X) (w5.heap.size + 1) := ⟨by omega, by omega, by omega⟩
    have hfy2 : FAt w5 (fun g => w.heap.size ≤ g ∧ g ≠ w.heap.size ∧ g ≠ X) y.args qy := FAt.mono (fun g _ hg => by simp at hg ⊢; omega) _ _ hfy
    have hfx3 := hfa.keep (hk.mono fun g hg => ⟨hg.2.1, hg.2.2⟩)
    have hfy3 := hfy2.keep (hk.mono fun g hg => ⟨hg.2.1, hg.2.2⟩)
    have hrd2 := hrd.keep hk ⟨by omega, by omega⟩
    have hsn := ha.n
    have hle := ha.le
    refine ⟨⟨op, 0, [], some ⟨w5.heap.size + 1, 0, none⟩, 2, 2, hV, .inl ⟨opT op turned x y, s4, kk, rfl, rfl, rfl, by cases turned <;> rfl, ?_, hrd2, ha.ok (by omega), by rw [ha.op, ho], by omega, ?_⟩⟩, ?_⟩
    · cases turned with
      | true => exact FAt.two hnew hN hfy3 hfx3
      | false => exact FAt.two hnew hN hfx3 hfy3
    · have : (R.ok y s4).then (fun y s4 => if n = 2 then .ok (opT op turned x y) s4 else loopR rec ts n kk (opT op turned x y) s4) = (if n = 2 then .ok (opT op turned x y) s4 else loopR rec ts n kk (opT op turned x y) s4) := rfl
      rw [this, if_neg h2] at hfin
      exact hfin
    · rw [lvM_rdg hrd2, if_pos rfl]
      omega
  | bad er a =>
    rw [hr] at hp hfin
    obtain ⟨he, a', n', o', hrd⟩ := hp
    have hrd2 := hrd.keep hk ⟨by omega, by omega⟩
    refine ⟨⟨op, 0, [], some ⟨w5.heap.size + 1, 0, none⟩, 2, 2, hV, .inr ⟨er, a, he, ⟨a', n', o', hrd2⟩, hfin.symm⟩⟩, ?_⟩
    rw [lvM_rdg hrd2, if_neg (by omega)]
    omega
theorem lv_last {b g cap : Nat} {ts : List TA} {rec : St → R} {w w5 V : World} {X lo5 kk : Nat} {op : Int} {turned : Bool} {x : T} {s3 : St} {q : Option Addr} {FIN : R} {oy ny : Int} {ty : List UInt8} {qy : Option Addr} {ky cy c : Nat}
    (hk : Kept (fun g => g ≠ w.heap.size ∧ g ≠ X) w5 V) (hnew : V.heap[w5.heap.size + 1]? = some (if turned = true then two8 oy ny ty qy ky cy x.op x.num x.text q x.args.len c else two8 x.op x.num x.text q x.args.len c oy ny ty qy ky cy))
    (hfa : FAt w5 (fun g => w.heap.size ≤ g ∧ g ≠ w.heap.size ∧ g ≠ X) x.args q) (hp : Post b g cap ts lo5 (rec s3) oy ny ty qy ky w5) (hX : w.heap.size < X) (hl : X < lo5) (hl5 : lo5 ≤ w5.heap.size) (hb : b < w.heap.size)
    (hfin : ((rec s3).then fun y s4 => if 2 = 2 then .ok (opT op turned x y) s4 else loopR rec ts 2 kk (opT op turned x y) s4) = FIN) :
    Post b g cap ts w.heap.size FIN op 0 [] (some ⟨w5.heap.size + 1, 0, none⟩) 2 V := by
  cases hr : rec s3 with
  | ok y s4 =>
    rw [hr] at hp hfin
    obtain ⟨e1, e2, e3, e4, hfy, hrd⟩ := hp
    subst e1 e2 e3 e4
    have hN : (fun g => w.heap.size ≤ g ∧ g ≠ w.heap.size ∧ g ≠ X) (w5.heap.size + 1) := ⟨by omega, by omega, by omega⟩
    have hfy2 : FAt w5 (fun g => w.heap.size ≤ g ∧ g ≠ w.heap.size ∧ g ≠ X) y.args qy := FAt.mono (fun g _ hg => by simp at hg ⊢; omega) _ _ hfy
    have hfx3 := hfa.keep (hk.mono fun g hg => ⟨hg.2.1, hg.2.2⟩)
    have hfy3 := hfy2.keep (hk.mono fun g hg => ⟨hg.2.1, hg.2.2⟩)
    have hrd2 := hrd.keep hk ⟨by omega, by omega⟩
    subst hfin
    have hall : FAt V (fun g => w.heap.size ≤ g ∧ g ≠ w.heap.size ∧ g ≠ X) (opT op turned x y).args (some ⟨w5.heap.size + 1, 0, none⟩) := by
      cases turned with
      | true => exact FAt.two hnew hN hfy3 hfx3
      | false => exact FAt.two hnew hN hfx3 hfy3
    exact ⟨rfl, rfl, rfl, by cases turned <;> rfl, FAt.mono (fun g _ hg => hg.1) _ _ hall, hrd2⟩
  | bad er a =>
    rw [hr] at hp hfin
    obtain ⟨he, a', n', o', hrd⟩ := hp
    subst hfin
    exact ⟨he, a', n', o', hrd.keep hk ⟨by omega, by omega⟩⟩
theorem rlevel_5 (b g cap : Nat) (ts : List TA) (r : R) (s : St) (w : World) (h : Rdg w b g cap ts.length s.at_ s.n s.open_ 0 0) (ht : TsAt w g ts)
    (HP : ∀ w1, Rdg w1 b g cap ts.length s.at_ s.n s.open_ 0 0 → TsAt w1 g ts → Calls Tryz.prog 138 #[.pointer (some ⟨b, 0, none⟩)] w1 fun e w' => ResA b g cap ts w1 r e w') :
    Calls Tryz.prog 83 #[.pointer (some ⟨b, 0, none⟩), .int .i64 5] w fun e w' => ResA b g cap ts w r e w' := by
  have H := Lib.hid h
  have HT := Lib.hid ht
  have hlt := h.lt
  have HP1 := Lib.hid HP
  have HB0 := Lib.hid ((Below.refl w.heap.size w).alloc (Nat.le_refl _) (.cells #[.int .i64 0, .int .i64 0, .string ⟨#[]⟩, .slice none 0 0] 24))
  have HX0 := Lib.hid (Bx.new w (.int .i64 0) (.int .i64 0) (.string ⟨#[]⟩) (.slice none 0 0))
  clear h ht HP
  go_enter Tryz.func83, Tryz.ntmps83
  go_wp2_with fail
  refine (HP1.out _ (H.out.below HB0.out) (HT.out.below HB0.out)).mono ?_
  rintro e w3 ⟨o3, o, n, t, q, k, c, rfl, hp⟩
  have hx3 := HX0.out.keep o3.kept (show w.heap.size ≠ b by omega)
  have f3 := hx3.fz
  have p0 := hx3.c0
  have p1 := hx3.c1
  have p2 := hx3.c2
  have p3 := hx3.c3
  have HX3 := Lib.hid (hx3.put (.int .i64 o) (.int .i64 n) (.string (S t)) (.slice q k c))
  have hH2 := HX0.out.lt
  have HP3 := Lib.hid ((hp.keep (Kept.put w3 w.heap.size (.int .i64 o) (.int .i64 n) (.string (S t)) (.slice q k c) (by omega))).low HB0.out.size)
  have HO3 := Lib.hid (((Only.of_below HB0.out).trans o3).put w.heap.size (Nat.le_refl _) (.int .i64 o) (.int .i64 n) (.string (S t)) (.slice q k c))
  clear hx3 o3 hp hH2
  go_wp2_with fail
  refine bodyPost_ret (res_expr rfl _ _ w.heap.size _ _ _ _ rfl HX3.out) rfl ?_
  exact ⟨HO3.out, o, n, t, q, k, c, rfl, HP3.out⟩
end Go.Proofs.YtlmmfhbdebfgkaaGreatDoor.Ex
namespace Go.Proofs.YtlmmfhbdebfgkaaGreatDoor.Ex
open Go.RowKit
open Lx
theorem opOf_pos {n : Nat} {s : List UInt8} {op : Int} {tu : Bool} (h : opOf n s = some (op, tu)) : 20 ≤ op ∧ op ≤ 41 := by
  unfold opOf at h
  repeat' split at h
  all_goals first
    | (cases h; decide)
    | cases h
theorem opAt_small {n : Nat} {t : TA} {op : Int} {tu : Bool} (h : opAt n t = some (op, tu)) : 20 ≤ op ∧ op ≤ 41 := by
  unfold opAt at h
  split at h
  · exact opOf_pos h
  · cases h
theorem op_small {n : Nat} {t : TA} {op : Int} {tu : Bool} (h : opAt n t = some (op, tu)) : op ≤ 41 := (opAt_small h).2
theorem opAt_ne {n : Nat} {t : TA} {op : Int} {tu : Bool} (h : opAt n t = some (op, tu)) : (op == 0) = false := by
  have := (opAt_small h).1
  rw [beq_eq_false_iff_ne]; omega
theorem rlevel_lo (b g cap : Nat) (ts : List TA) (he : Ends ts) (rec : St → R) (hrk : RecOk ts rec) (n : Nat) (hn4 : n ≤ 4) (s : St) (w : World) (h : Rdg w b g cap ts.length s.at_ s.n s.open_ 0 0) (ht : TsAt w g ts) (hg : g ≠ b) (hs : StOk ts s) (hn : ts.length ≤ 8001)
    (HR : ∀ s1 : St, StOk ts s1 → s1.open_ = s.open_ → ∀ w1, Rdg w1 b g cap ts.length s1.at_ s1.n s1.open_ 0 0 → TsAt w1 g ts → Calls Tryz.prog 83 #[.pointer (some ⟨b, 0, none⟩), .int .i64 ((n : Int) + 1)] w1 fun e w' => ResA b g cap ts w1 (rec s1) e w') :
    Calls Tryz.prog 83 #[.pointer (some ⟨b, 0, none⟩), .int .i64 n] w fun e w' => ResA b g cap ts w ((rec s).then fun x s1 => loopR rec ts n 201 x s1) e w' := by
  obtain ⟨FIN, hFIN⟩ : ∃ F, ((rec s).then fun x s1 => loopR rec ts n 201 x s1) = F := ⟨_, rfl⟩
  rw [hFIN]
  have H := Lib.hid h
  have HT := Lib.hid ht
  have hlt := h.lt
  have hne : ¬ b = w.heap.size := by omega
  have hne2 : ¬ w.heap.size = b := by omega
  have HG := Lib.hid hg
  have HREC := Lib.hid HR
  have HRK := Lib.hid hrk
  have HE := Lib.hid he
  have HS := Lib.hid hs
  have HN := Lib.hid hn
  have HFIN := Lib.hid hFIN
  have hni : (n : Int) ≤ 4 := by omega
  have hn5 : ((n : Int) == 5) = false := by rw [beq_eq_false_iff_ne]; omega
  have HB0 := Lib.hid ((Below.refl w.heap.size w).alloc (Nat.le_refl _) (.cells #[.int .i64 0, .int .i64 0, .string ⟨#[]⟩, .slice none 0 0] 24))
  have HX0 := Lib.hid (Bx.new w (.int .i64 0) (.int .i64 0) (.string ⟨#[]⟩) (.slice none 0 0))
  clear h ht HR hrk he hs hn hFIN hg
  go_enter Tryz.func83, Tryz.ntmps83
  go_wp2_with fail
  refine (HREC.out s HS.out rfl _ (H.out.below HB0.out) (HT.out.below HB0.out)).mono ?_
  rintro e w1 ⟨o1, o, nm, t, q, k, c, rfl, hp⟩
  have hH0 := HX0.out.lt
  have hx1 := HX0.out.keep o1.kept hne2
  have hsz1 := o1.size
  have HO1 := Lib.hid ((Only.of_below HB0.out).trans o1)
  obtain ⟨X, hX⟩ : ∃ X, w1.heap.size = X := ⟨_, rfl⟩
  have hXH : w.heap.size < X := by rw [← hX]; exact hx1.lt
  have hbx := Bx.new w1 (.int .i64 o) (.int .i64 nm) (.string (S t)) (.slice q k c)
  rw [hX] at hbx
  have HXX := Lib.hid hbx
  have HO2 := Lib.hid (HO1.out.alloc (.cells #[.int .i64 o, .int .i64 nm, .string (S t), .slice q k c] 24))
  have HH2 := Lib.hid (hx1.keep (Kept.alloc (ok := fun _ => True) w1 (.cells #[.int .i64 o, .int .i64 nm, .string (S t), .slice q k c] 24)) trivial)
  have hst : LvS b g cap ts rec n s.open_ w.heap.size w.heap.size X FIN (w1.alloc (.cells #[.int .i64 o, .int .i64 nm, .string (S t), .slice q k c] 24)) := by
    refine ⟨o, nm, t, q, k, c, hbx, ?_⟩
    have hf := HFIN.out
    cases hr : rec s with
    | ok x s1 =>
      rw [hr] at hp hf
      obtain ⟨e1, e2, e3, e4, hfa, hrd⟩ := hp
      have hadv := HRK.out s x s1 HS.out hr
      refine .inl ⟨x, s1, 201, e1, e2, e3, e4, ?_, hrd.keep (Kept.alloc (ok := fun _ => True) _ _) trivial, hadv.ok HS.out.op, hadv.op, by omega, hf⟩
      have hfa2 := FAt.mono (ok' := fun g => (w.heap.size ≤ g ∧ g ≠ w.heap.size ∧ g ≠ X) ∧ g < w1.heap.size) (fun g hg1 hg2 => ⟨⟨by simp at hg2; omega, by simp at hg2; omega, by omega⟩, hg1⟩) _ _ hfa
      exact FAt.mono (fun g _ hg => hg.1) _ _ (hfa2.keep (Kept.alloc w1 _))
    | bad er a =>
      rw [hr] at hp hf
      obtain ⟨h1, a', n', o', hrd⟩ := hp
      exact .inr ⟨er, a, h1, ⟨a', n', o', hrd.keep (Kept.alloc (ok := fun _ => True) _ _) trivial⟩, hf.symm⟩
  have HST := Lib.hid hst
  clear hst hp hx1 o1 hbx
  go_wp2_with fail
  go_loopw [6] (fun x wr => Only b w wr ∧ (∃ a b c d, Bx wr w.heap.size a b c d) ∧ LvS b g cap ts rec n s.open_ w.heap.size w.heap.size X FIN wr) (fun x wr => lvM b wr)
  case atStart => exact ⟨HO2.out, ⟨_, _, _, _, HH2.out⟩, HST.out⟩
  case round =>
    obtain ⟨hO, ⟨ha, hb, hc, hd, hh⟩, o, nm, t, q, k, c, hx, hcase⟩ := hrel
    have hXlt := hx.lt
    have hHlt := hh.lt
    rcases hcase with ⟨x, s2, kk, e1, e2, e3, e4, hfa, hrd, hs2, ho2, hkk, hfin⟩ | ⟨er, a, her, ⟨a', n', o', hrd⟩, hfin⟩
    · subst e1 e2 e3 e4
      have d4 := hrd.c4
      have hN2 := hs2.n
      have HTS := Lib.hid (hO.ts HT.out HG.out)
      have HRD := Lib.hid hrd
      have HSO := Lib.hid hs2
      have HFA := Lib.hid hfa
      have HHH := Lib.hid hh
      have HXX := Lib.hid hx
      have HOO := Lib.hid hO
      cases kk with
      | zero => omega
      | succ kk =>
        have HOP := Lib.hid (fun wz (k1 : Rdg wz b g cap ts.length s2.at_ s2.n s2.open_ 0 0) (k2 : TsAt wz g ts) => rop_any b g cap s2.at_ s2.n s2.open_ 0 0 ts wz k1 k2 hs2.at_ HN.out n hn4)
        unfold loopR at hfin
        cases hop : opAt n (tk ts s2.at_) with
        | none =>
          rw [hop] at HOP hfin
          simp only [opC] at HOP
          simp only at hfin
          clear hrd hs2 hfa hh hx hO hop
          go_wp2_with fail
          refine (HOP.out _ HRD.out HTS.out).mono ?_
          rintro e w2 ⟨rfl, b2⟩
          have hh := HHH.out.keep (Kept.of_below (ok := fun _ => True) b2) trivial
          have hx := HXX.out.keep (Kept.of_below (ok := fun _ => True) b2) trivial
          have hO := HOO.out.trans (Only.of_below b2)
          have hrd := HRD.out.below b2
          have hfa := HFA.out.keep (Kept.of_below b2)
          have HXF := Lib.hid (hh.put (.int .i64 x.op) (.int .i64 x.num) (.string (S x.text)) (.slice q x.args.len c))
          have HOF := Lib.hid (hO.put w.heap.size (Nat.le_refl _) (.int .i64 x.op) (.int .i64 x.num) (.string (S x.text)) (.slice q x.args.len c))
          have HPF := Lib.hid (show Post b g cap ts w.heap.size (.ok x s2) x.op x.num x.text q x.args.len (put4 w2 w.heap.size (.int .i64 x.op) (.int .i64 x.num) (.string (S x.text)) (.slice q x.args.len c)) from ⟨rfl, rfl, rfl, rfl, FAt.mono (fun g _ hg => hg.1) _ _ (hfa.keep (Kept.put _ w.heap.size _ _ _ _ (by simp))), hrd.keep (Kept.put (ok := (· ≠ w.heap.size)) _ w.heap.size _ _ _ _ (by simp)) hne⟩)
          have f5 := hh.fz
          have p0 := hh.c0
          have p1 := hh.c1
          have p2 := hh.c2
          have p3 := hh.c3
          have y5 := hx.fz
          have y0 := hx.c0
          have y1 := hx.c1
          have y2 := hx.c2
          have y3 := hx.c3
          clear hh hx hO hrd hfa b2
          go_wp2_with fail
          try simp only [Exit.inBlock, Exit.then]
          refine bodyPost_ret (res_expr rfl _ _ w.heap.size _ _ _ _ rfl HXF.out) rfl ?_
          rw [← hfin]
          exact ⟨HOF.out, _, _, _, _, _, _, rfl, HPF.out⟩
        | some ot =>
          obtain ⟨op, turned⟩ := ot
          rw [hop] at HOP hfin
          simp only [opC] at HOP
          simp only at hfin
          have hop0 : (op == 0) = false := opAt_ne hop
          have hnx := HE.out.next hs2.at_ (by rw [opAt_kind hop]; decide)
          have hai : (s2.at_ : Int) ≤ 8001 := by have := hs2.at_; have := HN.out; omega
          by_cases h200 : s2.n = 200
          · rw [if_pos h200] at hfin
            have HND := Lib.hid (fun (w1 : World) (k : Rdg w1 b g cap ts.length s2.at_ s2.n s2.open_ 0 0) => rnode_no b g cap ts.length s2.at_ s2.open_ 0 w1 (by rw [h200] at k; exact k))
            clear hrd hs2 hfa hh hx hO hop h200
            go_wp2_with fail
            refine (HOP.out _ HRD.out HTS.out).mono ?_
            rintro e w2 ⟨rfl, b2⟩
            have HHB := Lib.hid (HHH.out.keep (Kept.of_below (ok := fun _ => True) b2) trivial)
            have HXB := Lib.hid (HXX.out.keep (Kept.of_below (ok := fun _ => True) b2) trivial)
            have HOB := Lib.hid (HOO.out.trans (Only.of_below b2))
            have HRB := Lib.hid (HRD.out.below b2)
            clear b2
            go_wp2_with fail
            refine (HND.out _ HRB.out).mono ?_
            rintro e w3 ⟨rfl, ⟨nn, hrd⟩, o3⟩
            have hh := HHB.out.keep o3.kept hne2
            have hx := HXB.out.keep o3.kept (show X ≠ b by omega)
            have hO := HOB.out.trans o3
            have a1 := hrd.c1
            have a4 := hrd.c4
            have az := hrd.fz
            have hXb2 : ¬ X = b := by omega
            have hbX2 : ¬ b = X := by omega
            have hHX2 : ¬ w.heap.size = X := by omega
            have hXH2 : ¬ X = w.heap.size := by omega
            have HXF := Lib.hid ((hh.keep (Only.set b w3 1 (.int .i64 ((s2.at_ : Int) + 1))).kept hne2).put (.int .i64 x.op) (.int .i64 x.num) (.string (S x.text)) (.slice q x.args.len c))
            have HOF := Lib.hid ((hO.set' 1 (.int .i64 ((s2.at_ : Int) + 1))).put w.heap.size (Nat.le_refl _) (.int .i64 x.op) (.int .i64 x.num) (.string (S x.text)) (.slice q x.args.len c))
            have HRF := Lib.hid ((hrd.set1 ((s2.at_ : Int) + 1)).keep (Kept.put (ok := (· ≠ w.heap.size)) _ w.heap.size (.int .i64 x.op) (.int .i64 x.num) (.string (S x.text)) (.slice q x.args.len c) (by simp)) hne)
            have f5 := hh.fz
            have p0 := hh.c0
            have p1 := hh.c1
            have p2 := hh.c2
            have p3 := hh.c3
            have y5 := hx.fz
            have y0 := hx.c0
            have y1 := hx.c1
            have y2 := hx.c2
            have y3 := hx.c3
            clear hh hx hO hrd o3
            go_wp2_with fail
            try simp only [Exit.inBlock, Exit.then]
            refine bodyPost_ret (res_expr rfl _ _ w.heap.size _ _ _ _ rfl HXF.out) rfl ?_
            rw [← hfin]
            exact ⟨HOF.out, _, _, _, _, _, _, rfl, by decide, _, _, _, HRF.out⟩
          · rw [if_neg h200] at hfin
            have hs3 : StOk ts ⟨s2.at_ + 1, s2.n + 1, s2.open_⟩ := ⟨hnx, by simp; omega, hs2.op⟩
            have HND := Lib.hid (fun (w1 : World) (k : Rdg w1 b g cap ts.length s2.at_ s2.n s2.open_ 0 0) => rnode_ok b g cap ts.length s2.at_ s2.open_ 0 s2.n w1 k (by omega))
            have HR3 := Lib.hid (HREC.out ⟨s2.at_ + 1, s2.n + 1, s2.open_⟩ hs3 ho2)
            have HA := Lib.hid (show (s2.at_ : Int) + 1 = ((s2.at_ + 1 : Nat) : Int) by omega)
            have HADV := Lib.hid (fun y s4 hy => HRK.out _ y s4 hs3 hy)
            have HS3 := Lib.hid hs3
            have HFIN2 := Lib.hid hfin
            have HKK := Lib.hid hkk
            have hop1 := op_small hop
            have hNb := hs2.n
            have HMZ := Lib.hid (lvM_rdg hrd)
            clear hrd hs2 hfa hh hx hO hop hs3 hfin
            go_wp2_with fail
            refine (HOP.out _ HRD.out HTS.out).mono ?_
            rintro e w2 ⟨rfl, b2⟩
            have HHB := Lib.hid (HHH.out.keep (Kept.of_below (ok := fun _ => True) b2) trivial)
            have HXB := Lib.hid (HXX.out.keep (Kept.of_below (ok := fun _ => True) b2) trivial)
            have HOB := Lib.hid (HOO.out.trans (Only.of_below b2))
            have HRB := Lib.hid (HRD.out.below b2)
            have HFB := Lib.hid (HFA.out.keep (Kept.of_below b2))
            clear b2
            go_wp2_with fail
            refine (HND.out _ HRB.out).mono ?_
            rintro e w3 ⟨rfl, r3, o3⟩
            have a1 := r3.c1
            have a4 := r3.c4
            have az := r3.fz
            have O4 : Only b w3 (w3.setCell ⟨b, 1, none⟩ (.int .i64 ((s2.at_ + 1 : Nat) : Int))) := Only.set b w3 1 _
            have HRC := Lib.hid (r3.set1 ((s2.at_ + 1 : Nat) : Int))
            have HHC := Lib.hid ((HHB.out.keep o3.kept hne2).keep O4.kept hne2)
            have HXC := Lib.hid ((HXB.out.keep o3.kept (show X ≠ b by omega)).keep O4.kept (show X ≠ b by omega))
            have HOC := Lib.hid ((HOB.out.trans o3).trans O4)
            have HFC := Lib.hid ((HFB.out.keep (o3.keptB (show ¬ (w.heap.size ≤ b ∧ b ≠ w.heap.size ∧ b ≠ X) by omega))).keep (O4.keptB (show ¬ (w.heap.size ≤ b ∧ b ≠ w.heap.size ∧ b ≠ X) by omega)))
            clear r3 o3 O4
            go_wp2_with fail
            rw [HA.out]
            refine (HR3.out _ HRC.out (HOC.out.ts HT.out HG.out)).mono ?_
            rintro e w5 ⟨o5, oy, ny, ty, qy, ky, cy, rfl, hp⟩
            have hh := HHC.out.keep o5.kept hne2
            have hx := HXC.out.keep o5.kept (show X ≠ b by omega)
            have hO := HOC.out.trans o5
            have hfa := HFC.out.keep (o5.keptB (show ¬ (w.heap.size ≤ b ∧ b ≠ w.heap.size ∧ b ≠ X) by omega))
            have hXb2 : ¬ X = b := by omega
            have hbX2 : ¬ b = X := by omega
            have hHX2 : ¬ w.heap.size = X := by omega
            have hXH2 : ¬ X = w.heap.size := by omega
            have hX5 := hx.lt
            have hH5 := hh.lt
            have zx : ∀ o j, (w5.alloc o).cell? ⟨X, j, none⟩ = w5.cell? ⟨X, j, none⟩ := fun o j => Kept.cell (Kept.alloc (ok := fun _ => True) w5 o) trivial hX5
            have zh : ∀ o j, (w5.alloc o).cell? ⟨w.heap.size, j, none⟩ = w5.cell? ⟨w.heap.size, j, none⟩ := fun o j => Kept.cell (Kept.alloc (ok := fun _ => True) w5 o) trivial hH5
            have f5 := hh.fz
            have p0 := hh.c0
            have p1 := hh.c1
            have p2 := hh.c2
            have p3 := hh.c3
            have y5 := hx.fz
            have y0 := hx.c0
            have y1 := hx.c1
            have y2 := hx.c2
            have y3 := hx.c3
            have HL5 := Lib.hid (show (w3.setCell ⟨b, 1, none⟩ (.int .i64 ((s2.at_ + 1 : Nat) : Int))).heap.size ≤ w5.heap.size from o5.size)
            have HL4 := Lib.hid (show X < (w3.setCell ⟨b, 1, none⟩ (.int .i64 ((s2.at_ + 1 : Nat) : Int))).heap.size from HXC.out.lt)
            have HHF := Lib.hid hh
            have HXG := Lib.hid hx
            have HOG := Lib.hid hO
            have HFG := Lib.hid hfa
            have HPG := Lib.hid hp
            have HBB := Lib.hid (fun a' n' (o' : Int) bad fault (k : Rdg w5 b g cap ts.length a' n' o' bad fault) => k)
            clear hh hx hO hfa hp o5
            by_cases h2 : n = 2
            · subst h2
              cases turned with
              | true =>
                go_wp2_with fail
                try simp only [Exit.inBlock, Exit.then]
                refine bodyPost_ret (res_expr rfl _ _ w.heap.size _ _ _ _ rfl (lvW2_bx HHF.out hHX2)) rfl ?_
                exact ⟨lvW2_only HOG.out (Nat.le_of_lt hXH) (Nat.le_refl _), op, 0, [], _, 2, 2, rfl, lv_last (kk := kk) (turned := true) (lvW2_kept (fun h => h.2 rfl) (fun h => h.1 rfl)) lvW2_new HFG.out HPG.out hXH HL4.out HL5.out hlt HFIN2.out⟩
              | false =>
                go_wp2_with fail
                try simp only [Exit.inBlock, Exit.then]
                refine bodyPost_ret (res_expr rfl _ _ w.heap.size _ _ _ _ rfl (lvW2_bx HHF.out hHX2)) rfl ?_
                exact ⟨lvW2_only HOG.out (Nat.le_of_lt hXH) (Nat.le_refl _), op, 0, [], _, 2, 2, rfl, lv_last (kk := kk) (turned := false) (lvW2_kept (fun h => h.2 rfl) (fun h => h.1 rfl)) lvW2_new HFG.out HPG.out hXH HL4.out HL5.out hlt HFIN2.out⟩
            · have h2i : ((n : Int) == 2) = false := by rw [beq_eq_false_iff_ne]; omega
              cases turned with
              | true =>
                go_wp2_with fail
                have HLV := Lib.hid (lv_next (n := n) (turned := true) (lvW_bx HXG.out) (lvW_kept (ok := fun g => g ≠ w.heap.size ∧ g ≠ X) (w5 := w5) (X := X) (op := op) (B := .cells #[.int .i64 oy, .int .i64 ny, .string (S ty), .slice qy ky cy] 24) (o8 := two8 oy ny ty qy ky cy x.op x.num x.text q x.args.len c) (fun h => h.2 rfl)) lvW_new HFG.out HPG.out hXH HL4.out HL5.out hlt rfl ho2 HS.out.op HADV.out HKK.out hNb h2 HFIN2.out)
                go_roundw
                case rel => exact ⟨lvW_only HOG.out (Nat.le_of_lt hXH), ⟨_, _, _, _, HHF.out.keep (lvW_kept (ok := (· ≠ X)) (by simp)) hHX2⟩, HLV.out.1⟩
                case measure =>
                  have hm : lvM b wr = 300 - s2.n := by simpa using HMZ.out
                  rw [hm]
                  exact HLV.out.2
              | false =>
                go_wp2_with fail
                have HLV := Lib.hid (lv_next (n := n) (turned := false) (lvW_bx HXG.out) (lvW_kept (ok := fun g => g ≠ w.heap.size ∧ g ≠ X) (w5 := w5) (X := X) (op := op) (B := .cells #[.int .i64 oy, .int .i64 ny, .string (S ty), .slice qy ky cy] 24) (o8 := two8 x.op x.num x.text q x.args.len c oy ny ty qy ky cy) (fun h => h.2 rfl)) lvW_new HFG.out HPG.out hXH HL4.out HL5.out hlt rfl ho2 HS.out.op HADV.out HKK.out hNb h2 HFIN2.out)
                go_roundw
                case rel => exact ⟨lvW_only HOG.out (Nat.le_of_lt hXH), ⟨_, _, _, _, HHF.out.keep (lvW_kept (ok := (· ≠ X)) (by simp)) hHX2⟩, HLV.out.1⟩
                case measure =>
                  have hm : lvM b wr = 300 - s2.n := by simpa using HMZ.out
                  rw [hm]
                  exact HLV.out.2
    · have d4 := hrd.c4
      have her2 : ((er : Int) == 0) = false := by rw [beq_eq_false_iff_ne]; omega
      have HXF := Lib.hid (hh.put (.int .i64 o) (.int .i64 nm) (.string (S t)) (.slice q k c))
      have HOF := Lib.hid (hO.put w.heap.size (Nat.le_refl _) (.int .i64 o) (.int .i64 nm) (.string (S t)) (.slice q k c))
      have HPF := Lib.hid (hrd.keep (Kept.put (ok := (· ≠ w.heap.size)) _ w.heap.size (.int .i64 o) (.int .i64 nm) (.string (S t)) (.slice q k c) (by simp)) hne)
      have f5 := hh.fz
      have p0 := hh.c0
      have p1 := hh.c1
      have p2 := hh.c2
      have p3 := hh.c3
      have y5 := hx.fz
      have y0 := hx.c0
      have y1 := hx.c1
      have y2 := hx.c2
      have y3 := hx.c3
      have HFI := Lib.hid hfin
      clear hh hx hO hrd hfin
      go_wp2_with fail
      try simp only [Exit.inBlock, Exit.then]
      refine bodyPost_ret (res_expr rfl _ _ w.heap.size _ _ _ _ rfl HXF.out) rfl ?_
      rw [HFI.out]
      exact ⟨HOF.out, _, _, _, _, _, _, rfl, her, _, _, _, HPF.out⟩
end Go.Proofs.YtlmmfhbdebfgkaaGreatDoor.Ex
