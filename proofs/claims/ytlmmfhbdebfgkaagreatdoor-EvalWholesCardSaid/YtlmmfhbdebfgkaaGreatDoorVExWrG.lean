/-
  ExWrG.
-/
import Derived.Test.YtlmmfhbdebfgkaaGreatDoorVExWrDQ
set_option linter.unusedVariables false
set_option linter.unusedSimpArgs false
set_option maxRecDepth 100000
set_option maxHeartbeats 8000000
namespace Go.Proofs.YtlmmfhbdebfgkaaGreatDoor.Ex
open Go.RowKit
open Lx Va
structure WPre (w0 : World) (b : Nat) (t : T) (l : List UInt8) (o d : Nat) (p : Option Addr) (w : World) : Prop where
  ho : o + t.tx.open_ ≤ 100000
  hl : l.length + t.tx.text.length ≤ 1000000000
  hod : o ≤ d
  hW : Wr w b l o d
  h0 : Below w0.heap.size w0 w
  hF : FAt w (Oth w b) t.args p
def WPost (b : Nat) (t : T) (l : List UInt8) (o d : Nat) (w : World) (e : Ending) (w' : World) : Prop := e = .returned (.tuple #[]) ∧ Wr w' b (l ++ t.tx.text) o (max d (o + t.tx.open_) : Nat) ∧ Wk b w w'
theorem WPre.boxed {w0 : World} {b : Nat} {t : T} {l : List UInt8} {o d : Nat} {p : Option Addr} {w : World} (h : WPre w0 b t l o d p w) (hle : w0.heap.size ≤ b) (ob : Obj) : WPre w0 b t l o d p (w.alloc ob) ∧ Wk b w (w.alloc ob) := by
  have k := Wk.of_below h.hW.lt ((Below.refl w.heap.size w).alloc (Nat.le_refl _) ob)
  exact ⟨⟨h.ho, h.hl, h.hod, h.hW.alloc ob, h.h0.trans (k.below.mono hle), FAt.wk k h.hF⟩, k⟩
theorem WPre.later {w0 : World} {b : Nat} {t : T} {l : List UInt8} {o d : Nat} {p : Option Addr} {w w' : World} (h : WPre w0 b t l o d p w) (hle : w0.heap.size ≤ b) (k : Below w.heap.size w w') : WPre w0 b t l o d p w' ∧ Wk b w w' := by
  have k := Wk.of_below h.hW.lt k
  exact ⟨⟨h.ho, h.hl, h.hod, h.hW.below (by assumption), h.h0.trans (k.below.mono hle), FAt.wk k h.hF⟩, k⟩
theorem tree_list (w0 : World) (b : Nat) (B : Base w0 b) (num : Int) (tx : List UInt8) (A : F) (hA : WtAll w0 b A) (hlen : A.len ≤ 281474976710656) (l : List UInt8) (o d : Nat) (p : Option Addr) (c : Nat) (w : World) (h : WPre w0 b ⟨5, num, tx, A⟩ l o d p w) :
    Calls Tryz.prog 22 #[.pointer (some ⟨b, 0, none⟩), .agg #[.int .i64 5, .int .i64 num, .string (S tx), .slice p A.len c]] w (WPost b ⟨5, num, tx, A⟩ l o d w) := by
  have hN : T.tx ⟨5, num, tx, A⟩ = ⟨5, [91] ++ commas (txF A) ++ [93], most (txF A) + 1⟩ := rfl
  unfold WPost
  obtain ⟨h1, k1⟩ := h.boxed B.le (.cells #[.int .i64 5, .int .i64 num, .string (S tx), .slice p A.len c] 24)
  have hbx := Bx.new w (.int .i64 5) (.int .i64 num) (.string (S tx)) (.slice p A.len c)
  have HCO := Lib.hid (constructOf_any 5 _ (B.consAt h1.h0))
  rw [show conOf 5 = none from rfl] at HCO
  have HK1 := Lib.hid k1
  have H1 := Lib.hid h1
  have HBX := Lib.hid hbx
  have HB := Lib.hid B
  have HA := Lib.hid hA
  rw [hN]
  simp only
  clear h h1 k1 hbx hA
  go_enter Tryz.func22, Tryz.ntmps22
  go_wp2_with fail
  refine HCO.out.mono ?_
  rintro e w2 ⟨rfl, b2⟩
  obtain ⟨h2, k2⟩ := H1.out.later HB.out.le b2
  have hx2 := HBX.out.keep (Kept.of_below (ok := fun _ => True) b2) trivial
  have p0 := hx2.c0
  have p3 := hx2.c3
  have zb : ∀ o j, (w2.alloc o).cell? ⟨w.heap.size, j, none⟩ = w2.cell? ⟨w.heap.size, j, none⟩ := fun o j => Kept.cell (Kept.alloc (ok := fun _ => True) w2 o) trivial hx2.lt
  have hne : ¬ w.heap.size = w2.heap.size := by have := hx2.lt; omega
  obtain ⟨h3, k3⟩ := h2.boxed HB.out.le (.cells #[.string (S []), .int .i64 0, .int .i64 0, .int .i64 0, .bool false] 96)
  have HK3 := Lib.hid ((HK1.out.trans k2).trans k3)
  have ho3 := h3.ho
  have hl3 := h3.hl
  rw [hN] at ho3 hl3
  simp only at ho3 hl3
  have HE := Lib.hid (enclosed_any w0 b HB.out [91] [93] A HA.out hlen l o d p c _ (by omega) (by simp at hl3 ⊢; omega) h3.hod h3.hW h3.h0 h3.hF)
  unfold conV
  clear b2 h2 k2 hx2 h3 k3
  go_wp2_with fail
  refine HE.out.mono ?_
  rintro e w4 ⟨rfl, hw4, k4⟩
  have HW4 := Lib.hid hw4
  have HK4 := Lib.hid (HK3.out.trans k4)
  clear hw4 k4
  go_wp2_with fail
  go_end0
  refine ⟨rfl, ?_, HK4.out⟩
  have hfin := HW4.out
  rw [show o + 1 + most (txF A) = o + (most (txF A) + 1) by omega] at hfin
  simpa using hfin
theorem conOf_leaf {op : Int} (h : 1 ≤ op ∧ op ≤ 7) : conOf op = none := by
  have h7 : op = 1 ∨ op = 2 ∨ op = 3 ∨ op = 4 ∨ op = 5 ∨ op = 6 ∨ op = 7 := by omega
  rcases h7 with rfl | rfl | rfl | rfl | rfl | rfl | rfl <;> rfl
theorem tree_leaf (w0 : World) (b : Nat) (B : Base w0 b) (op num : Int) (tx : List UInt8) (A : F) (hop : 1 ≤ op ∧ op ≤ 7) (hne5 : op ≠ 5) (hf : formedB op num tx A.len = true) (hn : namedB op tx = true) (hnum : num ≤ 9223372036854775807) (l : List UInt8) (o d : Nat) (p : Option Addr) (c : Nat) (w : World) (h : WPre w0 b ⟨op, num, tx, A⟩ l o d p w) :
    Calls Tryz.prog 22 #[.pointer (some ⟨b, 0, none⟩), .agg #[.int .i64 op, .int .i64 num, .string (S tx), .slice p (F.len A) c]] w (WPost b ⟨op, num, tx, A⟩ l o d w) := by
  have hN : T.tx ⟨op, num, tx, A⟩ = ⟨op, leafL op num tx, 0⟩ := by
    unfold T.tx nodeTx
    simp only
    rw [if_neg (by omega), if_neg (by omega), if_neg (by omega), if_neg (by omega), if_neg (by omega), if_pos (by omega)]
  have hcon := conOf_leaf hop
  have HLF := Lib.hid (fun w1 (k : Tab w1) => leaf_any op num tx p A.len c hop hne5 hf hn hnum w1 k)
  have h5 : (op == 5) = false := by rw [beq_eq_false_iff_ne]; exact hne5
  unfold WPost
  obtain ⟨h1, k1⟩ := h.boxed B.le (.cells #[.int .i64 op, .int .i64 num, .string (S tx), .slice p (F.len A) c] 24)
  have hbx := Bx.new w (.int .i64 op) (.int .i64 num) (.string (S tx)) (.slice p (F.len A) c)
  have HCO := Lib.hid (constructOf_any op _ (B.consAt h1.h0))
  rw [hcon] at HCO
  have HK1 := Lib.hid k1
  have H1 := Lib.hid h1
  have HBX := Lib.hid hbx
  have HOE := Lib.hid (Oth.new h.hW (.cells #[.int .i64 op, .int .i64 num, .string (S tx), .slice p (F.len A) c] 24))
  have HB := Lib.hid B
  rw [hN]
  simp only
  clear h h1 k1 hbx
  go_enter Tryz.func22, Tryz.ntmps22
  go_wp2_with fail
  refine HCO.out.mono ?_
  rintro e w2 ⟨rfl, b2⟩
  obtain ⟨h2, k2⟩ := H1.out.later HB.out.le b2
  have hx2 := HBX.out.keep (Kept.of_below (ok := fun _ => True) b2) trivial
  have zb : ∀ o j, (w2.alloc o).cell? ⟨w.heap.size, j, none⟩ = w2.cell? ⟨w.heap.size, j, none⟩ := fun o j => Kept.cell (Kept.alloc (ok := fun _ => True) w2 o) trivial hx2.lt
  have hne : ¬ w.heap.size = w2.heap.size := by have := hx2.lt; omega
  obtain ⟨h3, k3⟩ := h2.boxed HB.out.le (.cells #[.string (S []), .int .i64 0, .int .i64 0, .int .i64 0, .bool false] 96)
  have HK3 := Lib.hid ((HK1.out.trans k2).trans k3)
  have ho3 := h3.ho
  have hl3 := h3.hl
  rw [hN] at ho3 hl3
  simp only at ho3 hl3
  obtain ⟨_, hoe2⟩ := k2.block w.heap.size (by simp) HOE.out
  obtain ⟨e3, hoe3⟩ := k3.block w.heap.size hx2.lt hoe2
  have HOE3 := Lib.hid hoe3
  have HBE3 := Lib.hid (show Bx _ w.heap.size _ _ _ _ from e3.trans hx2)
  have p0 := hx2.c0
  have p1 := hx2.c1
  have p2 := hx2.c2
  have p3 := hx2.c3
  have HL := Lib.hid (HLF.out _ (HB.out.tabAt h3.h0.drew))
  have HD := Lib.hid (show WPre w0 b _ l o d p _ from ⟨h3.ho, h3.hl, h3.hod, h3.hW.drew, h3.h0.drew, FAt.wk (Wk.refl b _).drew h3.hF⟩)
  have HKD := Lib.hid (HK3.out.drew)
  have HBED := Lib.hid (show Bx (w2.alloc (.cells #[.string (S []), .int .i64 0, .int .i64 0, .int .i64 0, .bool false] 96)).drew w.heap.size _ _ _ _ from HBE3.out)
  have HOED := Lib.hid (show Oth (w2.alloc (.cells #[.string (S []), .int .i64 0, .int .i64 0, .int .i64 0, .bool false] 96)).drew b w.heap.size from HOE3.out)
  have HL3 := Lib.hid (show w.heap.size < (w2.alloc (.cells #[.string (S []), .int .i64 0, .int .i64 0, .int .i64 0, .bool false] 96)).drew.heap.size from HBE3.out.lt)
  have H3 := Lib.hid h3
  unfold conV
  clear b2 h2 k2 hx2 h3 k3 hoe2 hoe3 e3
  go_wp2_with fail
  go_region_held3 (fun w' => w'.cell? ⟨w.heap.size, 0, none⟩ = some (.int .i64 op) ∧ w'.cell? ⟨w.heap.size, 1, none⟩ = some (.int .i64 num) ∧ w'.cell? ⟨w.heap.size, 2, none⟩ = some (.string (S tx)) ∧ w'.cell? ⟨w.heap.size, 3, none⟩ = some (.slice p A.len c))
    (first | assumption | (exact ⟨HBE3.out.c0, HBE3.out.c1, HBE3.out.c2, HBE3.out.c3⟩) | go_keep)
    (first
      | (go_at_call 39; refine HL.out.mono ?_; rintro e w5 ⟨rfl, b5⟩; obtain ⟨h5, k5⟩ := HD.out.later HB.out.le b5; have hx5 := HBED.out.keep (Kept.of_below (ok := fun _ => True) b5) trivial; have s5 := And.intro hx5.c0 (And.intro hx5.c1 (And.intro hx5.c2 hx5.c3)); have HWS := Lib.hid (wwrite_k b l (leafL op num tx) o d w5 h5.hW (by omega)); have HK5 := Lib.hid (HKD.out.trans k5); have HOE5 := Lib.hid ((k5.block w.heap.size HL3.out HOED.out).2); have HBE5 := Lib.hid hx5; clear b5 h5 k5 hx5)
      | (go_at_call 38; refine HWS.out.mono ?_; rintro e w6 ⟨rfl, hw6, k6⟩; have hx6 := (k6.block w.heap.size HBE5.out.lt HOE5.out).1.trans HBE5.out; have hx7 : Bx w6 w.heap.size _ _ _ _ := hx6; have s6 := And.intro hx7.c0 (And.intro hx7.c1 (And.intro hx7.c2 hx7.c3)); have HW6 := Lib.hid hw6; have HK6 := Lib.hid (HK5.out.trans k6); clear hw6 k6 hx6 hx7))
  go_wp2_with fail
  go_end0
  refine ⟨rfl, ?_, HK6.out⟩
  have hfin := HW6.out
  have hod := HD.out.hod
  rw [show max d (o + 0) = d by omega]
  exact hfin
theorem tree_call (w0 : World) (b : Nat) (B : Base w0 b) (op num : Int) (tx : List UInt8) (A : F) (hA : WtAll w0 b A) (hlen : A.len ≤ 281474976710656) (kw : List UInt8) (ko kn : Int) (kt : Bool) (hcon : conOf op = some ⟨kw, ko, 6, kn, kt⟩) (hkw : kw.length ≤ 10) (h5 : (op == 5) = false) (hN : T.tx ⟨op, num, tx, A⟩ = ⟨op, kw ++ [40] ++ commas (txF A) ++ [41], most (txF A) + 1⟩) (l : List UInt8) (o d : Nat) (p : Option Addr) (c : Nat) (w : World) (h : WPre w0 b ⟨op, num, tx, A⟩ l o d p w) :
    Calls Tryz.prog 22 #[.pointer (some ⟨b, 0, none⟩), .agg #[.int .i64 op, .int .i64 num, .string (S tx), .slice p (F.len A) c]] w (WPost b ⟨op, num, tx, A⟩ l o d w) := by
  have HA := Lib.hid hA
  clear hA
  unfold WPost
  obtain ⟨h1, k1⟩ := h.boxed B.le (.cells #[.int .i64 op, .int .i64 num, .string (S tx), .slice p (F.len A) c] 24)
  have hbx := Bx.new w (.int .i64 op) (.int .i64 num) (.string (S tx)) (.slice p (F.len A) c)
  have HCO := Lib.hid (constructOf_any op _ (B.consAt h1.h0))
  rw [hcon] at HCO
  have HK1 := Lib.hid k1
  have H1 := Lib.hid h1
  have HBX := Lib.hid hbx
  have HOE := Lib.hid (Oth.new h.hW (.cells #[.int .i64 op, .int .i64 num, .string (S tx), .slice p (F.len A) c] 24))
  have HB := Lib.hid B
  rw [hN]
  simp only
  clear h h1 k1 hbx
  go_enter Tryz.func22, Tryz.ntmps22
  go_wp2_with fail
  refine HCO.out.mono ?_
  rintro e w2 ⟨rfl, b2⟩
  obtain ⟨h2, k2⟩ := H1.out.later HB.out.le b2
  have hx2 := HBX.out.keep (Kept.of_below (ok := fun _ => True) b2) trivial
  have zb : ∀ o j, (w2.alloc o).cell? ⟨w.heap.size, j, none⟩ = w2.cell? ⟨w.heap.size, j, none⟩ := fun o j => Kept.cell (Kept.alloc (ok := fun _ => True) w2 o) trivial hx2.lt
  have hne : ¬ w.heap.size = w2.heap.size := by have := hx2.lt; omega
  obtain ⟨h3, k3⟩ := h2.boxed HB.out.le (.cells #[.string (S kw), .int .i64 ko, .int .i64 6, .int .i64 kn, .bool kt] 96)
  have HK3 := Lib.hid ((HK1.out.trans k2).trans k3)
  have ho3 := h3.ho
  have hl3 := h3.hl
  rw [hN] at ho3 hl3
  simp only at ho3 hl3
  obtain ⟨_, hoe2⟩ := k2.block w.heap.size (by simp) HOE.out
  obtain ⟨e3, hoe3⟩ := k3.block w.heap.size hx2.lt hoe2
  have HOE3 := Lib.hid hoe3
  have HBE3 := Lib.hid (show Bx _ w.heap.size _ _ _ _ from e3.trans hx2)
  have HOC3 := Lib.hid (Oth.new h2.hW (.cells #[.string (S kw), .int .i64 ko, .int .i64 6, .int .i64 kn, .bool kt] 96))
  have HBC3 := Lib.hid (show Bc (w2.alloc (.cells #[.string (S kw), .int .i64 ko, .int .i64 6, .int .i64 kn, .bool kt] 96)) w2.heap.size ⟨kw, ko, 6, kn, kt⟩ from heap_alloc_new w2 _)
  have p0 := hx2.c0
  have p1 := hx2.c1
  have p2 := hx2.c2
  have p3 := hx2.c3
  have HE := Lib.hid (enclosed_any w0 b HB.out (kw ++ [40]) [41] A HA.out hlen l o d p c _ (by omega) (by simp at hl3 ⊢; omega) h3.hod h3.hW h3.h0 h3.hF)
  have HSUM := Lib.hid (S_append kw [40])
  have hks : (S kw).size = kw.length := S_size kw
  rw [← S_append] at HE
  unfold conV
  clear b2 h2 k2 hx2 h3 k3 hoe2 hoe3 e3
  go_wp2_with fail
  refine HE.out.mono ?_
  rintro e w4 ⟨rfl, hw4, k4⟩
  have HW4 := Lib.hid hw4
  have HK4 := Lib.hid (HK3.out.trans k4)
  clear hw4 k4
  go_wp2_with fail
  go_end0
  refine ⟨rfl, ?_, HK4.out⟩
  have hfin := HW4.out
  rw [show o + 1 + most (txF A) = o + (most (txF A) + 1) by omega] at hfin
  simpa using hfin
theorem tree_un (w0 : World) (b : Nat) (B : Base w0 b) (op num : Int) (tx : List UInt8) (x : T) (hx : WtC w0 b x) (hlen : x.args.len ≤ 281474976710656) (kw : List UInt8) (ko kn : Int) (kt : Bool) (hcon : conOf op = some ⟨kw, ko, 5, kn, kt⟩) (hkw : kw.length ≤ 10) (h5 : (op == 5) = false) (hN : T.tx ⟨op, num, tx, .cons x.op x.num x.text x.args .nil⟩ = ⟨op, kw ++ (x.tx.within 5).1, (x.tx.within 5).2 + 1⟩) (l : List UInt8) (o d : Nat) (p : Option Addr) (c : Nat) (w : World) (h : WPre w0 b ⟨op, num, tx, (.cons x.op x.num x.text x.args .nil)⟩ l o d p w) :
    Calls Tryz.prog 22 #[.pointer (some ⟨b, 0, none⟩), .agg #[.int .i64 op, .int .i64 num, .string (S tx), .slice p 1 c]] w (WPost b ⟨op, num, tx, (.cons x.op x.num x.text x.args .nil)⟩ l o d w) := by
  unfold WPost
  obtain ⟨h1, k1⟩ := h.boxed B.le (.cells #[.int .i64 op, .int .i64 num, .string (S tx), .slice p 1 c] 24)
  have hbx := Bx.new w (.int .i64 op) (.int .i64 num) (.string (S tx)) (.slice p 1 c)
  have HCO := Lib.hid (constructOf_any op _ (B.consAt h1.h0))
  rw [hcon] at HCO
  have HK1 := Lib.hid k1
  have H1 := Lib.hid h1
  have HBX := Lib.hid hbx
  have HOE := Lib.hid (Oth.new h.hW (.cells #[.int .i64 op, .int .i64 num, .string (S tx), .slice p 1 c] 24))
  have HB := Lib.hid B
  rw [hN]
  simp only
  have H0B := Lib.hid h.h0
  clear h h1 k1 hbx
  go_enter Tryz.func22, Tryz.ntmps22
  go_wp2_with fail
  refine HCO.out.mono ?_
  rintro e w2 ⟨rfl, b2⟩
  obtain ⟨h2, k2⟩ := H1.out.later HB.out.le b2
  have hx2 := HBX.out.keep (Kept.of_below (ok := fun _ => True) b2) trivial
  have zb : ∀ o j, (w2.alloc o).cell? ⟨w.heap.size, j, none⟩ = w2.cell? ⟨w.heap.size, j, none⟩ := fun o j => Kept.cell (Kept.alloc (ok := fun _ => True) w2 o) trivial hx2.lt
  have hne : ¬ w.heap.size = w2.heap.size := by have := hx2.lt; omega
  obtain ⟨h3, k3⟩ := h2.boxed HB.out.le (.cells #[.string (S kw), .int .i64 ko, .int .i64 5, .int .i64 kn, .bool kt] 96)
  have HK3 := Lib.hid ((HK1.out.trans k2).trans k3)
  have ho3 := h3.ho
  have hl3 := h3.hl
  rw [hN] at ho3 hl3
  simp only at ho3 hl3
  obtain ⟨_, hoe2⟩ := k2.block w.heap.size (by simp) HOE.out
  obtain ⟨e3, hoe3⟩ := k3.block w.heap.size hx2.lt hoe2
  have HOE3 := Lib.hid hoe3
  have HBE3 := Lib.hid (show Bx _ w.heap.size _ _ _ _ from e3.trans hx2)
  have HOC3 := Lib.hid (Oth.new h2.hW (.cells #[.string (S kw), .int .i64 ko, .int .i64 5, .int .i64 kn, .bool kt] 96))
  have HBC3 := Lib.hid (show Bc (w2.alloc (.cells #[.string (S kw), .int .i64 ko, .int .i64 5, .int .i64 kn, .bool kt] 96)) w2.heap.size ⟨kw, ko, 5, kn, kt⟩ from heap_alloc_new w2 _)
  have p0 := hx2.c0
  have p1 := hx2.c1
  have p2 := hx2.c2
  have p3 := hx2.c3
  have HE := Lib.hid (enter_any b l o d (by omega) _ h3.hW)
  have H3 := Lib.hid h3
  unfold conV
  clear b2 h2 k2 hx2 h3 k3 hoe2 hoe3 e3
  go_wp2_with fail
  refine HE.out.mono ?_
  rintro e w4 ⟨rfl, hw4, k4⟩
  obtain ⟨e4, oe4⟩ := k4.block _ HBE3.out.lt HOE3.out
  obtain ⟨c4, oc4⟩ := k4.block _ (by simp) HOC3.out
  have be4 : Bx w4 w.heap.size _ _ _ _ := e4.trans HBE3.out
  have bc4 := c4.trans HBC3.out
  have r0 := cell_of_row w4 w2.heap.size 0 _ _ (0, 0) bc4
  have HBE4 := Lib.hid be4
  have HOE4 := Lib.hid oe4
  have HF4 := Lib.hid (FAt.wk k4 H3.out.hF)
  have HWS := Lib.hid (wwrite_k b l kw (o + 1 : Nat) (max d (o + 1) : Nat) w4.drew hw4.drew (by omega))
  have HK4 := Lib.hid (HK3.out.trans k4)
  have HX51 := Lib.hid (fun (w5 : World) (k : Wk b w4 w5) => show w5.cell? ⟨w2.heap.size, 0, none⟩ = some (.string (S kw)) from cell_of_row w5 w2.heap.size 0 _ _ (0, 0) ((k.block _ (by exact World.block_lt_of_cell? w4 _ r0) oc4).1.trans bc4))
  clear hw4 k4 e4 oe4 c4 oc4 be4 bc4
  go_wp2_with fail
  go_region_held3 (fun w' => w'.cell? ⟨w2.heap.size, 0, none⟩ = some (.string (S kw)))
    (first | assumption | go_keep)
    (first
      | (go_at_call 38; refine HWS.out.mono ?_; rintro e w5 ⟨rfl, hw5, k5d⟩; have k5 := (Wk.refl b w4).drew.trans k5d; have hx5 := HX51.out _ k5; have HW5 := Lib.hid hw5; have HK50 := Lib.hid k5; clear hw5 k5 k5d))
  have hw5 := HW5.out
  have k5 := HK50.out
  have be5 : Bx w5 w.heap.size _ _ _ _ := (k5.block _ HBE4.out.lt HOE4.out).1.trans HBE4.out
  have s0 := be5.c0
  have s1 := be5.c1
  have s2 := be5.c2
  have s3 := be5.c3
  have hf5 := FAt.wk k5 HF4.out
  obtain ⟨g, kk, q, cc, rfl, hgk, hgl, f0, f1, f2, f3, hfa, _⟩ := hf5
  have HK5 := Lib.hid (HK4.out.trans k5)
  have H05 := Lib.hid (H0B.out.trans (HK5.out.below.mono HB.out.le))
  have HOP := Lib.hid (operand_any w0 b HB.out x hx hlen 5 (l ++ kw) (o + 1) (max d (o + 1)) q cc w5 (by omega) (by simp at hl3 ⊢; omega) (by omega) hw5 H05.out hfa)
  clear hw5 k5 be5 hfa
  go_wp2_with fail
  refine HOP.out.mono ?_
  rintro e w6 ⟨rfl, hw6, k6⟩
  have c2 := hw6.c2
  have f2 := hw6.fz 2
  have HA1 := Lib.hid (show ((o + 1 : Nat) : Int) - 1 = (o : Int) by omega)
  obtain ⟨hW7, hK7⟩ := hw6.set2' (o' := (o : Int))
  have HW7 := Lib.hid hW7
  have HK7 := Lib.hid ((HK5.out.trans k6).trans hK7)
  have hoi : ((o + 1 : Nat) : Int) ≤ 100001 := by omega
  have hoj : (0 : Int) ≤ ((o + 1 : Nat) : Int) := by omega
  generalize ((o + 1 : Nat) : Int) = O1 at *
  clear hw6 k6 hW7 hK7
  go_wp2_with fail
  go_end0
  rw [HA1.out]
  refine ⟨rfl, ?_, HK7.out⟩
  have hfin := HW7.out
  rw [show max (max d (o + 1)) (o + 1 + (x.tx.within 5).2) = max d (o + ((x.tx.within 5).2 + 1)) by omega] at hfin
  simpa using hfin
theorem tree_bin (w0 : World) (b : Nat) (B : Base w0 b) (op num : Int) (tx : List UInt8) (x y : T) (hx : WtC w0 b x) (hy : WtC w0 b y) (hlx : x.args.len ≤ 281474976710656) (hly : y.args.len ≤ 281474976710656) (kw : List UInt8) (ko kn : Int) (kt : Bool) (lv : Nat) (hlv : lv ≤ 4) (hcon : conOf op = some ⟨kw, ko, lv, kn, kt⟩) (hkw : kw.length ≤ 10) (h5 : (op == 5) = false) (hN : T.tx ⟨op, num, tx, .cons x.op x.num x.text x.args (.cons y.op y.num y.text y.args .nil)⟩ = ⟨op, (x.tx.within (if lv = 2 then 3 else lv)).1 ++ [32] ++ kw ++ [32] ++ (y.tx.within (lv + 1)).1, max (x.tx.within (if lv = 2 then 3 else lv)).2 (y.tx.within (lv + 1)).2⟩) (l : List UInt8) (o d : Nat) (p : Option Addr) (c : Nat) (w : World) (h : WPre w0 b ⟨op, num, tx, (.cons x.op x.num x.text x.args (.cons y.op y.num y.text y.args .nil))⟩ l o d p w) :
    Calls Tryz.prog 22 #[.pointer (some ⟨b, 0, none⟩), .agg #[.int .i64 op, .int .i64 num, .string (S tx), .slice p 2 c]] w (WPost b ⟨op, num, tx, (.cons x.op x.num x.text x.args (.cons y.op y.num y.text y.args .nil))⟩ l o d w) := by
  obtain ⟨PP, hPP⟩ : ∃ P, P = x.tx.within (if lv = 2 then 3 else lv) := ⟨_, rfl⟩
  obtain ⟨QQ, hQQ⟩ : ∃ Q, Q = y.tx.within (lv + 1) := ⟨_, rfl⟩
  rw [← hPP, ← hQQ] at hN
  have HPP := Lib.hid hPP
  have HQQ := Lib.hid hQQ
  clear hPP hQQ
  unfold WPost
  obtain ⟨h1, k1⟩ := h.boxed B.le (.cells #[.int .i64 op, .int .i64 num, .string (S tx), .slice p 2 c] 24)
  have hbx := Bx.new w (.int .i64 op) (.int .i64 num) (.string (S tx)) (.slice p 2 c)
  have HCO := Lib.hid (constructOf_any op _ (B.consAt h1.h0))
  rw [hcon] at HCO
  have HK1 := Lib.hid k1
  have H1 := Lib.hid h1
  have HBX := Lib.hid hbx
  have HOE := Lib.hid (Oth.new h.hW (.cells #[.int .i64 op, .int .i64 num, .string (S tx), .slice p 2 c] 24))
  have HB := Lib.hid B
  rw [hN]
  simp only
  clear h h1 k1 hbx
  go_enter Tryz.func22, Tryz.ntmps22
  go_wp2_with fail
  refine HCO.out.mono ?_
  rintro e w2 ⟨rfl, b2⟩
  obtain ⟨h2, k2⟩ := H1.out.later HB.out.le b2
  have hx2 := HBX.out.keep (Kept.of_below (ok := fun _ => True) b2) trivial
  have zb : ∀ o j, (w2.alloc o).cell? ⟨w.heap.size, j, none⟩ = w2.cell? ⟨w.heap.size, j, none⟩ := fun o j => Kept.cell (Kept.alloc (ok := fun _ => True) w2 o) trivial hx2.lt
  have hne : ¬ w.heap.size = w2.heap.size := by have := hx2.lt; omega
  obtain ⟨h3, k3⟩ := h2.boxed HB.out.le (.cells #[.string (S kw), .int .i64 ko, .int .i64 lv, .int .i64 kn, .bool kt] 96)
  have HK3 := Lib.hid ((HK1.out.trans k2).trans k3)
  have ho3 := h3.ho
  have hl3 := h3.hl
  rw [hN] at ho3 hl3
  simp only at ho3 hl3
  obtain ⟨_, hoe2⟩ := k2.block w.heap.size (by simp) HOE.out
  obtain ⟨e3, hoe3⟩ := k3.block w.heap.size hx2.lt hoe2
  have HOE3 := Lib.hid hoe3
  have HBE3 := Lib.hid (show Bx _ w.heap.size _ _ _ _ from e3.trans hx2)
  have HOC3 := Lib.hid (Oth.new h2.hW (.cells #[.string (S kw), .int .i64 ko, .int .i64 lv, .int .i64 kn, .bool kt] 96))
  have HBC3 := Lib.hid (show Bc (w2.alloc (.cells #[.string (S kw), .int .i64 ko, .int .i64 lv, .int .i64 kn, .bool kt] 96)) w2.heap.size ⟨kw, ko, lv, kn, kt⟩ from heap_alloc_new w2 _)
  have p0 := hx2.c0
  have p1 := hx2.c1
  have p2 := hx2.c2
  have p3 := hx2.c3
  obtain ⟨g, kk, q, cc, rfl, hgk, hgl, f0, f1, f2, f3, hfa, hfr⟩ := h3.hF
  obtain ⟨g', kk', q', cc', he, hgk', hgl', f0', f1', f2', f3', hfa', _⟩ := hfr
  injection he with he
  injection he with he1 he2 _
  subst he1 he2
  have HS0 := Lib.hid (show (w2.alloc (.cells #[.string (S kw), .int .i64 ko, .int .i64 lv, .int .i64 kn, .bool kt] 96)).cell? ⟨w2.heap.size, 0, none⟩ = some (.string (S kw)) ∧ (w2.alloc (.cells #[.string (S kw), .int .i64 ko, .int .i64 lv, .int .i64 kn, .bool kt] 96)).cell? ⟨w2.heap.size, 1, none⟩ = some (.int .i64 ko) ∧ (w2.alloc (.cells #[.string (S kw), .int .i64 ko, .int .i64 lv, .int .i64 kn, .bool kt] 96)).cell? ⟨w2.heap.size, 2, none⟩ = some (.int .i64 lv) ∧ (w2.alloc (.cells #[.string (S kw), .int .i64 ko, .int .i64 lv, .int .i64 kn, .bool kt] 96)).cell? ⟨w2.heap.size, 3, none⟩ = some (.int .i64 kn) ∧ (w2.alloc (.cells #[.string (S kw), .int .i64 ko, .int .i64 lv, .int .i64 kn, .bool kt] 96)).cell? ⟨w2.heap.size, 4, none⟩ = some (.bool kt) ∧ (w2.alloc (.cells #[.string (S kw), .int .i64 ko, .int .i64 lv, .int .i64 kn, .bool kt] 96)).cell? ⟨w.heap.size, 3, none⟩ = some (.slice (some ⟨g, kk, none⟩) 2 c) ∧ (w2.alloc (.cells #[.string (S kw), .int .i64 ko, .int .i64 lv, .int .i64 kn, .bool kt] 96)).cell? ⟨g, kk, none⟩ = some (.int .i64 x.op) ∧ (w2.alloc (.cells #[.string (S kw), .int .i64 ko, .int .i64 lv, .int .i64 kn, .bool kt] 96)).cell? ⟨g, kk + 1, none⟩ = some (.int .i64 x.num) ∧ (w2.alloc (.cells #[.string (S kw), .int .i64 ko, .int .i64 lv, .int .i64 kn, .bool kt] 96)).cell? ⟨g, kk + 2, none⟩ = some (.string (S x.text)) ∧ (w2.alloc (.cells #[.string (S kw), .int .i64 ko, .int .i64 lv, .int .i64 kn, .bool kt] 96)).cell? ⟨g, kk + 3, none⟩ = some (.slice q x.args.len cc) ∧ (w2.alloc (.cells #[.string (S kw), .int .i64 ko, .int .i64 lv, .int .i64 kn, .bool kt] 96)).cell? ⟨g, kk + 4, none⟩ = some (.int .i64 y.op) ∧ (w2.alloc (.cells #[.string (S kw), .int .i64 ko, .int .i64 lv, .int .i64 kn, .bool kt] 96)).cell? ⟨g, kk + 4 + 1, none⟩ = some (.int .i64 y.num) ∧ (w2.alloc (.cells #[.string (S kw), .int .i64 ko, .int .i64 lv, .int .i64 kn, .bool kt] 96)).cell? ⟨g, kk + 4 + 2, none⟩ = some (.string (S y.text)) ∧ (w2.alloc (.cells #[.string (S kw), .int .i64 ko, .int .i64 lv, .int .i64 kn, .bool kt] 96)).cell? ⟨g, kk + 4 + 3, none⟩ = some (.slice q' y.args.len cc') from ⟨cell_of_row _ w2.heap.size 0 _ _ (0, 0) HBC3.out, cell_of_row _ w2.heap.size 1 _ _ (0, 0) HBC3.out, cell_of_row _ w2.heap.size 2 _ _ (0, 0) HBC3.out, cell_of_row _ w2.heap.size 3 _ _ (0, 0) HBC3.out, cell_of_row _ w2.heap.size 4 _ _ (0, 0) HBC3.out, HBE3.out.c3, f0, f1, f2, f3, f0', f1', f2', f3'⟩)
  have HSK := Lib.hid (fun (w' : World) (k : Wk b (w2.alloc (.cells #[.string (S kw), .int .i64 ko, .int .i64 lv, .int .i64 kn, .bool kt] 96)).drew w') => show w'.cell? ⟨w2.heap.size, 0, none⟩ = some (.string (S kw)) ∧ w'.cell? ⟨w2.heap.size, 1, none⟩ = some (.int .i64 ko) ∧ w'.cell? ⟨w2.heap.size, 2, none⟩ = some (.int .i64 lv) ∧ w'.cell? ⟨w2.heap.size, 3, none⟩ = some (.int .i64 kn) ∧ w'.cell? ⟨w2.heap.size, 4, none⟩ = some (.bool kt) ∧ w'.cell? ⟨w.heap.size, 3, none⟩ = some (.slice (some ⟨g, kk, none⟩) 2 c) ∧ w'.cell? ⟨g, kk, none⟩ = some (.int .i64 x.op) ∧ w'.cell? ⟨g, kk + 1, none⟩ = some (.int .i64 x.num) ∧ w'.cell? ⟨g, kk + 2, none⟩ = some (.string (S x.text)) ∧ w'.cell? ⟨g, kk + 3, none⟩ = some (.slice q x.args.len cc) ∧ w'.cell? ⟨g, kk + 4, none⟩ = some (.int .i64 y.op) ∧ w'.cell? ⟨g, kk + 4 + 1, none⟩ = some (.int .i64 y.num) ∧ w'.cell? ⟨g, kk + 4 + 2, none⟩ = some (.string (S y.text)) ∧ w'.cell? ⟨g, kk + 4 + 3, none⟩ = some (.slice q' y.args.len cc') from by
    obtain ⟨h01, h02, h03, h04, h05, h06, h07, h08, h09, h10, h11, h12, h13, h14⟩ := HS0.out
    have ec : w'.heap[w2.heap.size]? = (w2.alloc (.cells #[.string (S kw), .int .i64 ko, .int .i64 lv, .int .i64 kn, .bool kt] 96)).heap[w2.heap.size]? := (k.block _ (by show _ < (w2.alloc (.cells #[.string (S kw), .int .i64 ko, .int .i64 lv, .int .i64 kn, .bool kt] 96)).heap.size; simp) HOC3.out).1
    have ee : w'.heap[w.heap.size]? = (w2.alloc (.cells #[.string (S kw), .int .i64 ko, .int .i64 lv, .int .i64 kn, .bool kt] 96)).heap[w.heap.size]? := (k.block _ HBE3.out.lt HOE3.out).1
    have eg : w'.heap[g]? = (w2.alloc (.cells #[.string (S kw), .int .i64 ko, .int .i64 lv, .int .i64 kn, .bool kt] 96)).heap[g]? := (k.block _ hgl hgk).1
    unfold World.cell? at *
    simp only [ec, ee, eg] at *
    exact ⟨h01, h02, h03, h04, h05, h06, h07, h08, h09, h10, h11, h12, h13, h14⟩)
  have hl6 : ((lv : Int) == 6) = false := by rw [beq_eq_false_iff_ne]; omega
  have hl5 : ((lv : Int) == 5) = false := by rw [beq_eq_false_iff_ne]; omega
  have HE := Lib.hid (binary_any w0 b HB.out ⟨kw, ko, lv, kn, kt⟩ lv rfl (by omega) hkw x y hx hy hlx hly l o d q q' cc cc' _ PP QQ HPP.out HQQ.out (by omega) (by omega) hl3 h3.hod h3.hW.drew h3.h0.drew (FAt.wk (Wk.refl b _).drew hfa) (FAt.wk (Wk.refl b _).drew hfa'))
  have H3 := Lib.hid h3
  unfold conV
  clear b2 h2 k2 hx2 h3 k3 hoe2 hoe3 e3
  go_wp2_with fail
  go_region_held3 (fun w' => w'.cell? ⟨w2.heap.size, 0, none⟩ = some (.string (S kw)) ∧ w'.cell? ⟨w2.heap.size, 1, none⟩ = some (.int .i64 ko) ∧ w'.cell? ⟨w2.heap.size, 2, none⟩ = some (.int .i64 lv) ∧ w'.cell? ⟨w2.heap.size, 3, none⟩ = some (.int .i64 kn) ∧ w'.cell? ⟨w2.heap.size, 4, none⟩ = some (.bool kt) ∧ w'.cell? ⟨w.heap.size, 3, none⟩ = some (.slice (some ⟨g, kk, none⟩) 2 c) ∧ w'.cell? ⟨g, kk, none⟩ = some (.int .i64 x.op) ∧ w'.cell? ⟨g, kk + 1, none⟩ = some (.int .i64 x.num) ∧ w'.cell? ⟨g, kk + 2, none⟩ = some (.string (S x.text)) ∧ w'.cell? ⟨g, kk + 3, none⟩ = some (.slice q x.args.len cc) ∧ w'.cell? ⟨g, kk + 4, none⟩ = some (.int .i64 y.op) ∧ w'.cell? ⟨g, kk + 4 + 1, none⟩ = some (.int .i64 y.num) ∧ w'.cell? ⟨g, kk + 4 + 2, none⟩ = some (.string (S y.text)) ∧ w'.cell? ⟨g, kk + 4 + 3, none⟩ = some (.slice q' y.args.len cc'))
    (first | assumption | (exact HS0.out) | go_keep)
    (first
      | (go_at_call 42; refine HE.out.mono ?_; rintro e w4 ⟨rfl, hw4, k4⟩; have s4 := HSK.out _ k4; have HW4 := Lib.hid hw4; have HK4 := Lib.hid (HK3.out.drew.trans k4); clear hw4 k4))
  go_wp2_with fail
  go_end0
  refine ⟨rfl, ?_, HK4.out⟩
  have hfin := HW4.out
  simpa using hfin
end Go.Proofs.YtlmmfhbdebfgkaaGreatDoor.Ex
