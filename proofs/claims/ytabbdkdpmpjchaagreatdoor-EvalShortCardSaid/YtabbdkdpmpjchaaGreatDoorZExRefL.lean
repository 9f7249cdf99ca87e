/- ExRefL -/
import Derived.Test.YtabbdkdpmpjchaaGreatDoorZExRefV
namespace Go.Proofs.YtabbdkdpmpjchaaGreatDoor.Ex
open Go.RowKit
open Lx
def lvM (b : Nat) (w : World) : Nat := match w.cell? ⟨b, 4, none⟩, w.cell? ⟨b, 2, none⟩ with
  | some (.int _ e), some (.int _ n) => if e = 0 then 300 - n.toNat else 0
  | _, _ => 0
theorem lvM_rdg {w : World} {b g cap len : Nat} {a n o bad fault : Int} (h : Rdg w b g cap len a n o bad fault) : lvM b w = if bad = 0 then 300 - n.toNat else 0 := by
  unfold lvM
  rw [h.c4, h.c2]
def two8 (o n : Int) (t : List UInt8) (q : Option Addr) (k c : Nat) (o' n' : Int) (t' : List UInt8) (q' : Option Addr) (k' c' : Nat) : Obj :=
  .cells #[.int .i64 o, .int .i64 n, .string (S t), .slice q k c, .int .i64 o', .int .i64 n', .string (S t'), .slice q' k' c'] 24
theorem FAt.two {W : World} {ok : Nat → Prop} {x y : T} {N : Nat} {q q' : Option Addr} {c c' : Nat} (hb : W.heap[N]? = some (two8 x.op x.num x.text q x.args.len c y.op y.num y.text q' y.args.len c')) (hN : ok N) (hf : FAt W ok x.args q) (hf' : FAt W ok y.args q') :
    FAt W ok (two x y) (some ⟨N, 0, none⟩) := by
  have hl := (Array.getElem?_eq_some_iff.1 hb).1
  have hc := fun j => cell_of_row W N j _ _ (0, 0) hb
  exact ⟨N, 0, q, c, rfl, hN, hl, hc 0, hc 1, hc 2, hc 3, hf, N, 4, q', c', rfl, hN, hl, hc 4, hc 5, hc 6, hc 7, hf', trivial⟩
def lvW (w5 : World) (X : Nat) (op : Int) (B : Obj) (o8 : Obj) : World :=
  ((put4 w5 X (.int .i64 op) (.int .i64 0) (.string ⟨#[]⟩) (.slice (some ⟨w5.heap.size + 1, 0, none⟩) 2 2)).alloc B).alloc o8
section
variable {b g cap : Nat} {ts : List TA} {w w5 : World} {op : Int} {B o8 : Obj} {X : Nat} {x0 x1 x2 x3 : Value}
theorem lvW_kept {ok : Nat → Prop} (hX : ¬ ok X) : Kept ok w5 (lvW w5 X op B o8) := ((Kept.put w5 X _ _ _ _ hX).trans (Kept.alloc _ _)).trans (Kept.alloc _ _)
theorem lvW_only (hO : Only b w w5) (hX : w.heap.size ≤ X) : Only b w (lvW w5 X op B o8) := ((hO.put X hX _ _ _ _).alloc _).alloc _
theorem lvW_bx (hx : Bx w5 X x0 x1 x2 x3) : Bx (lvW w5 X op B o8) X (.int .i64 op) (.int .i64 0) (.string (S [])) (.slice (some ⟨w5.heap.size + 1, 0, none⟩) 2 2) :=
  ((hx.put _ _ _ _).keep (Kept.alloc (ok := fun _ => True) _ _) trivial).keep (Kept.alloc (ok := fun _ => True) _ _) trivial
theorem lvW_new : (lvW w5 X op B o8).heap[w5.heap.size + 1]? = some o8 := by
  have h := heap_alloc_new ((put4 w5 X (.int .i64 op) (.int .i64 0) (.string ⟨#[]⟩) (.slice (some ⟨w5.heap.size + 1, 0, none⟩) 2 2)).alloc B) o8
  have e : ((put4 w5 X (.int .i64 op) (.int .i64 0) (.string ⟨#[]⟩) (.slice (some ⟨w5.heap.size + 1, 0, none⟩) 2 2)).alloc B).heap.size = w5.heap.size + 1 := by simp [put4]
  rw [e] at h
  exact h
end
def LvS (b g cap : Nat) (ts : List TA) (rec : St → R) (n : Nat) (o0 lo H X : Nat) (FIN : R) (wr : World) : Prop :=
  ∃ o nm t q k c, Bx wr X (.int .i64 o) (.int .i64 nm) (.string (S t)) (.slice q k c) ∧
    ((∃ x s kk, x.op = o ∧ x.num = nm ∧ x.text = t ∧ x.args.len = k ∧ FAt wr (fun g => lo ≤ g ∧ g ≠ H ∧ g ≠ X) x.args q ∧ Rdg wr b g cap ts.length s.at_ s.n s.open_ 0 0 ∧ StOk ts s ∧ s.open_ = o0 ∧ 201 ≤ kk + s.n ∧ loopR rec ts n kk x s = FIN) ∨
     (∃ er a : Nat, er ≠ 0 ∧ (∃ a' n' o', Rdg wr b g cap ts.length a' n' o' (er : Int) (a : Int)) ∧ FIN = .bad er a))
def lvW2 (w5 : World) (X H : Nat) (op : Int) (B : Obj) (o8 : Obj) : World :=
  ((put4 (put4 w5 X (.int .i64 op) (.int .i64 0) (.string ⟨#[]⟩) (.slice (some ⟨w5.heap.size + 1, 0, none⟩) 2 2)) H (.int .i64 op) (.int .i64 0) (.string ⟨#[]⟩) (.slice (some ⟨w5.heap.size + 1, 0, none⟩) 2 2)).alloc B).alloc o8
section
variable {b g cap : Nat} {ts : List TA} {w w5 : World} {op : Int} {B o8 : Obj} {X H : Nat} {x0 x1 x2 x3 : Value}
theorem lvW2_kept {ok : Nat → Prop} (hX : ¬ ok X) (hH : ¬ ok H) : Kept ok w5 (lvW2 w5 X H op B o8) := (((Kept.put w5 X _ _ _ _ hX).trans (Kept.put _ H _ _ _ _ hH)).trans (Kept.alloc _ _)).trans (Kept.alloc _ _)
theorem lvW2_only (hO : Only b w w5) (hX : w.heap.size ≤ X) (hH : w.heap.size ≤ H) : Only b w (lvW2 w5 X H op B o8) := (((hO.put X hX _ _ _ _).put H hH _ _ _ _).alloc _).alloc _
theorem lvW2_bx (hx : Bx w5 H x0 x1 x2 x3) (hne : H ≠ X) : Bx (lvW2 w5 X H op B o8) H (.int .i64 op) (.int .i64 0) (.string (S [])) (.slice (some ⟨w5.heap.size + 1, 0, none⟩) 2 2) :=
  (((hx.keep (Kept.put (ok := (· ≠ X)) w5 X _ _ _ _ (by simp)) hne).put _ _ _ _).keep (Kept.alloc (ok := fun _ => True) _ _) trivial).keep (Kept.alloc (ok := fun _ => True) _ _) trivial
theorem lvW2_new : (lvW2 w5 X H op B o8).heap[w5.heap.size + 1]? = some o8 := by
  have h := heap_alloc_new ((put4 (put4 w5 X (.int .i64 op) (.int .i64 0) (.string ⟨#[]⟩) (.slice (some ⟨w5.heap.size + 1, 0, none⟩) 2 2)) H (.int .i64 op) (.int .i64 0) (.string ⟨#[]⟩) (.slice (some ⟨w5.heap.size + 1, 0, none⟩) 2 2)).alloc B) o8
  have e : ((put4 (put4 w5 X (.int .i64 op) (.int .i64 0) (.string ⟨#[]⟩) (.slice (some ⟨w5.heap.size + 1, 0, none⟩) 2 2)) H (.int .i64 op) (.int .i64 0) (.string ⟨#[]⟩) (.slice (some ⟨w5.heap.size + 1, 0, none⟩) 2 2)).alloc B).heap.size = w5.heap.size + 1 := by simp [put4]
  rw [e] at h
  exact h
end
def opT (op : Int) (turned : Bool) (x y : T) : T := ⟨op, 0, [], if turned = true then Ex.two y x else Ex.two x y⟩
theorem lv_next {b g cap : Nat} {ts : List TA} {rec : St → R} {n o0 : Nat} {w w5 V : World} {X lo5 kk : Nat} {op : Int} {turned : Bool} {x : T} {s2 s3 : St} {q : Option Addr} {FIN : R} {oy ny : Int} {ty : List UInt8} {qy : Option Addr} {ky cy c : Nat}
    (hV : Bx V X (.int .i64 op) (.int .i64 0) (.string (S [])) (.slice (some ⟨w5.heap.size + 1, 0, none⟩) 2 2))
    (hk : Kept (fun g => g ≠ w.heap.size ∧ g ≠ X) w5 V) (hnew : V.heap[w5.heap.size + 1]? = some (if turned = true then two8 oy ny ty qy ky cy x.op x.num x.text q x.args.len c else two8 x.op x.num x.text q x.args.len c oy ny ty qy ky cy))
    (hfa : FAt w5 (fun g => w.heap.size ≤ g ∧ g ≠ w.heap.size ∧ g ≠ X) x.args q) (hp : Post b g cap ts lo5 (rec s3) oy ny ty qy ky w5) (hX : w.heap.size < X) (hl : X < lo5) (hl5 : lo5 ≤ w5.heap.size) (hb : b < w.heap.size)
    (hs3 : s3.n = s2.n + 1) (ho : s3.open_ = o0) (ho20 : o0 ≤ 20) (hadv : ∀ y s4, rec s3 = .ok y s4 → Adv ts s3 s4 s3.open_) (hkk : 201 ≤ kk + 1 + s2.n) (hs200 : s2.n ≤ 200) (h2 : n ≠ 2)
    (hfin : ((rec s3).then fun y s4 => if n = 2 then .ok (opT op turned x y) s4 else loopR rec ts n kk (opT op turned x y) s4) = FIN) :
    LvS b g cap ts rec n o0 w.heap.size w.heap.size X FIN V ∧ lvM b V < 300 - s2.n := by
  cases hr : rec s3 with
  | ok y s4 =>
    rw [hr] at hp hfin
    obtain ⟨e1, e2, e3, e4, hfy, hrd⟩ := hp
    subst e1 e2 e3 e4
    have ha := hadv y s4 hr
    have hN : (fun g => w.heap.size ≤ g ∧ g ≠ w.heap.size ∧ g ≠ X) (w5.heap.size + 1) := ⟨by omega, by omega, by omega⟩
    have hfy2 : FAt w5 (fun g => w.heap.size ≤ g ∧ g ≠ w.heap.size ∧ g ≠ X) y.args qy := FAt.mono (fun g _ hg => by simp at hg ⊢; omega) _ _ hfy
    have hfx3 := hfa.keep (hk.mono fun g hg => ⟨hg.2.1, hg.2.2⟩)
    have hfy3 := hfy2.keep (hk.mono fun g hg => ⟨hg.2.1, hg.2.2⟩)
    have hrd2 := hrd.keep hk ⟨by omega, by omega⟩
    have hsn := ha.n
    have hle := ha.le
    refine ⟨⟨op, 0, [], some ⟨w5.heap.size + 1, 0, none⟩, 2, 2, hV, .inl ⟨opT op turned x y, s4, kk, rfl, rfl, rfl, by cases turned <;> rfl, ?_, hrd2, ha.ok (by omega), by rw [ha.op, ho], by omega, ?_⟩⟩, ?_⟩
    · cases turned with
      | true => exact FAt.two hnew hN hfy3 hfx3
      | false => exact FAt.two hnew hN hfx3 hfy3
    · have : (R.ok y s4).then (fun y s4 => if n = 2 then .ok (opT op turned x y) s4 else loopR rec ts n kk (opT op turned x y) s4) = (if n = 2 then .ok (opT op turned x y) s4 else loopR rec ts n kk (opT op turned x y) s4) := rfl
      rw [this, if_neg h2] at hfin
      exact hfin
    · rw [lvM_rdg hrd2, if_pos rfl]
      omega
  | bad er a =>
    rw [hr] at hp hfin
    obtain ⟨he, a', n', o', hrd⟩ := hp
    have hrd2 := hrd.keep hk ⟨by omega, by omega⟩
    refine ⟨⟨op, 0, [], some ⟨w5.heap.size + 1, 0, none⟩, 2, 2, hV, .inr ⟨er, a, he, ⟨a', n', o', hrd2⟩, hfin.symm⟩⟩, ?_⟩
    rw [lvM_rdg hrd2, if_neg (by omega)]
    omega
theorem lv_last {b g cap : Nat} {ts : List TA} {rec : St → R} {w w5 V : World} {X lo5 kk : Nat} {op : Int} {turned : Bool} {x : T} {s3 : St} {q : Option Addr} {FIN : R} {oy ny : Int} {ty : List UInt8} {qy : Option Addr} {ky cy c : Nat}
    (hk : Kept (fun g => g ≠ w.heap.size ∧ g ≠ X) w5 V) (hnew : V.heap[w5.heap.size + 1]? = some (if turned = true then two8 oy ny ty qy ky cy x.op x.num x.text q x.args.len c else two8 x.op x.num x.text q x.args.len c oy ny ty qy ky cy))
    (hfa : FAt w5 (fun g => w.heap.size ≤ g ∧ g ≠ w.heap.size ∧ g ≠ X) x.args q) (hp : Post b g cap ts lo5 (rec s3) oy ny ty qy ky w5) (hX : w.heap.size < X) (hl : X < lo5) (hl5 : lo5 ≤ w5.heap.size) (hb : b < w.heap.size)
    (hfin : ((rec s3).then fun y s4 => if 2 = 2 then .ok (opT op turned x y) s4 else loopR rec ts 2 kk (opT op turned x y) s4) = FIN) :
    Post b g cap ts w.heap.size FIN op 0 [] (some ⟨w5.heap.size + 1, 0, none⟩) 2 V := by
  cases hr : rec s3 with
  | ok y s4 =>
    rw [hr] at hp hfin
    obtain ⟨e1, e2, e3, e4, hfy, hrd⟩ := hp
    subst e1 e2 e3 e4
    have hN : (fun g => w.heap.size ≤ g ∧ g ≠ w.heap.size ∧ g ≠ X) (w5.heap.size + 1) := ⟨by omega, by omega, by omega⟩
    have hfy2 : FAt w5 (fun g => w.heap.size ≤ g ∧ g ≠ w.heap.size ∧ g ≠ X) y.args qy := FAt.mono (fun g _ hg => by simp at hg ⊢; omega) _ _ hfy
    have hfx3 := hfa.keep (hk.mono fun g hg => ⟨hg.2.1, hg.2.2⟩)
    have hfy3 := hfy2.keep (hk.mono fun g hg => ⟨hg.2.1, hg.2.2⟩)
    have hrd2 := hrd.keep hk ⟨by omega, by omega⟩
    subst hfin
    have hall : FAt V (fun g => w.heap.size ≤ g ∧ g ≠ w.heap.size ∧ g ≠ X) (opT op turned x y).args (some ⟨w5.heap.size + 1, 0, none⟩) := by
      cases turned with
      | true => exact FAt.two hnew hN hfy3 hfx3
      | false => exact FAt.two hnew hN hfx3 hfy3
    exact ⟨rfl, rfl, rfl, by cases turned <;> rfl, FAt.mono (fun g _ hg => hg.1) _ _ hall, hrd2⟩
  | bad er a =>
    rw [hr] at hp hfin
    obtain ⟨he, a', n', o', hrd⟩ := hp
    subst hfin
    exact ⟨he, a', n', o', hrd.keep hk ⟨by omega, by omega⟩⟩
set_option maxRecDepth 100000 in
set_option maxHeartbeats 2000000 in
theorem rlevel_5 (b g cap : Nat) (ts : List TA) (r : R) (s : St) (w : World) (h : Rdg w b g cap ts.length s.at_ s.n s.open_ 0 0) (ht : TsAt w g ts)
    (HP : ∀ w1, Rdg w1 b g cap ts.length s.at_ s.n s.open_ 0 0 → TsAt w1 g ts → Calls Tryz.prog 142 #[.pointer (some ⟨b, 0, none⟩)] w1 fun e w' => ResA b g cap ts w1 r e w') :
    Calls Tryz.prog 94 #[.pointer (some ⟨b, 0, none⟩), .int .i64 5] w fun e w' => ResA b g cap ts w r e w' := by
  have H := Lib.hid h
  have HT := Lib.hid ht
  have hlt := h.lt
  have HP1 := Lib.hid HP
  have HB0 := Lib.hid ((Below.refl w.heap.size w).alloc (Nat.le_refl _) (.cells #[.int .i64 0, .int .i64 0, .string ⟨#[]⟩, .slice none 0 0] 24))
  have HX0 := Lib.hid (Bx.new w (.int .i64 0) (.int .i64 0) (.string ⟨#[]⟩) (.slice none 0 0))
  clear h ht HP
  go_enter Tryz.func94, Tryz.ntmps94
  go_wp2_with fail
  refine (HP1.out _ (H.out.below HB0.out) (HT.out.below HB0.out)).mono ?_
  rintro e w3 ⟨o3, o, n, t, q, k, c, rfl, hp⟩
  have hx3 := HX0.out.keep o3.kept (show w.heap.size ≠ b by omega)
  have f3 := hx3.fz
  have p0 := hx3.c0
  have p1 := hx3.c1
  have p2 := hx3.c2
  have p3 := hx3.c3
  have HX3 := Lib.hid (hx3.put (.int .i64 o) (.int .i64 n) (.string (S t)) (.slice q k c))
  have hH2 := HX0.out.lt
  have HP3 := Lib.hid ((hp.keep (Kept.put w3 w.heap.size (.int .i64 o) (.int .i64 n) (.string (S t)) (.slice q k c) (by omega))).low HB0.out.size)
  have HO3 := Lib.hid (((Only.of_below HB0.out).trans o3).put w.heap.size (Nat.le_refl _) (.int .i64 o) (.int .i64 n) (.string (S t)) (.slice q k c))
  clear hx3 o3 hp hH2
  go_wp2_with fail
  refine bodyPost_ret (res_expr rfl _ _ w.heap.size _ _ _ _ rfl HX3.out) rfl ?_
  exact ⟨HO3.out, o, n, t, q, k, c, rfl, HP3.out⟩
end Go.Proofs.YtabbdkdpmpjchaaGreatDoor.Ex
