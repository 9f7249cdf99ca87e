/-
  The document's own answer whether two things are the same, where they are.
-/
import Derived.Test.YtkdhchdhgmaolaaZTzW
import Derived.Test.YtkdhchdhgmaolaaZCdSeq
import Derived.Test.YtkdhchdhgmaolaaZTzD
namespace Go.Proofs.Ytkdhchdhgmaolaa.Cd
open Go.RowKit
open Pk Va
set_option linter.unusedVariables false
set_option linter.unusedSimpArgs false

theorem good_call {P : Program} {f : FuncId} {args : Array Value} {W0 W : World} {R : Ending → Prop} (k : Good W0 W) (h : Calls P f args W fun e w' => R e ∧ Below W.heap.size W w') : Calls P f args W fun e w' => R e ∧ Good W0 w' :=
  h.mono fun _ _ g => ⟨g.1, k.step g.2⟩
structure ROk (l : List V) : Prop where
  ok : ∀ v ∈ l, VOk v
  len : l.length ≤ 140737488355328
theorem sameL_self (l : List V) : sameL l l = true := (sameL_iff l l).2 rfl
theorem sameAll_refl (l : List V) (h : ROk l) (a b : Option Addr) (ca cb : Nat) (w : World) (ha : ValsAt w a l) (hb : ValsAt w b l) :
    Calls Try.prog 42 #[.slice a l.length ca, .slice b l.length cb] w fun e w' => e = .returned (.bool true) ∧ Below w.heap.size w w' := by
  have := refSameAll_any l l h.ok h.ok h.len a b ca cb w ha hb
  rwa [sameL_self] at this

set_option maxRecDepth 100000 in
theorem sameCounts_refl (l : List Int) (hl : l.length ≤ 140737488355328) (a b : Option Addr) (ca cb : Nat) (w : World) (ha : NumsAt w a l) (hb : NumsAt w b l) :
    Calls Try.prog 43 #[.slice a l.length ca, .slice b l.length cb] w fun e w' => e = .returned (.bool true) ∧ Below w.heap.size w w' := by
  have HX := Lib.hid ha
  have HY := Lib.hid hb
  clear ha hb
  go_enter Try.func43, Try.ntmps43
  go_wp2_with fail
  go_loopw [13] (fun i wr => ∃ k : Nat, k ≤ l.length ∧ i = .int .i64 k ∧ Below w.heap.size w wr) (fun i _ => l.length - (intOf i).toNat)
  case atStart => exact ⟨0, by omega, rfl, Below.refl _ _⟩
  case round =>
    obtain ⟨k, hk, rfl, hb⟩ := hrel
    have HB := Lib.hid hb
    clear hb
    by_cases hlt : k < l.length
    · obtain ⟨g1, o1, rfl, p0, hg1⟩ := HX.out k hlt
      obtain ⟨g2, o2, rfl, q0, hg2⟩ := HY.out k hlt
      have p1 := (HB.out.cell (p := ⟨g1, o1 + k, none⟩) hg1).trans p0
      have q1 := (HB.out.cell (p := ⟨g2, o2 + k, none⟩) hg2).trans q0
      have hki : (k : Int) < (l.length : Int) := by omega
      generalize l[k] = x at *
      clear p0 q0 HX HY
      have HBD := Lib.hid (show Below w.heap.size w wr.drew from ⟨HB.out.os, HB.out.tape, HB.out.output, HB.out.size, HB.out.block⟩)
      go_wp2_with fail
      go_region_with fail
      all_goals go_wp2_with fail
      all_goals go_roundw
      all_goals first
        | exact ⟨k + 1, by omega, by go_num, HBD.out⟩
        | (simp [intOf]; omega)
    · obtain rfl : k = l.length := by omega
      go_wp2_with fail
      go_ret
      exact ⟨rfl, HB.out⟩

set_option maxRecDepth 100000 in
set_option maxHeartbeats 4000000 in
theorem sameMail_refl (x : MailP) (hk : ROk x.key) (hf : ROk x.fields) (ka : Option Addr) (kc : Nat) (fa : Option Addr) (fc : Nat) (la : Option Addr) (lc : Nat) (ga : Option Addr) (gc : Nat) (w : World)
    (hka : ValsAt w ka x.key) (hfa : ValsAt w fa x.fields) (hla : ValsAt w la x.key) (hga : ValsAt w ga x.fields) :
    Calls Try.prog 15 #[.agg #[.int .i64 x.id, .string (S x.chan), .slice ka x.key.length kc, .slice fa x.fields.length fc], .agg #[.int .i64 x.id, .string (S x.chan), .slice la x.key.length lc, .slice ga x.fields.length gc]] w fun e w' => e = .returned (.bool true) ∧ Below w.heap.size w w' := by
  obtain ⟨W0, hW0⟩ : ∃ W0, W0 = (w.alloc (.cells #[.int .i64 x.id, .string (S x.chan), .slice ka x.key.length kc, .slice fa x.fields.length fc] 33)).alloc (.cells #[.int .i64 x.id, .string (S x.chan), .slice la x.key.length lc, .slice ga x.fields.length gc] 33) := ⟨_, rfl⟩
  have hb : Below w.heap.size w W0 := by rw [hW0]; exact ((Below.refl w.heap.size w).alloc (Nat.le_refl _) _).alloc (by simp) _
  have e0 : W0.heap[w.heap.size]? = some (.cells #[.int .i64 x.id, .string (S x.chan), .slice ka x.key.length kc, .slice fa x.fields.length fc] 33 (0, 0)) := by rw [hW0]; exact (((Below.refl _ _).alloc (Nat.le_refl _) _).block _ (by simp)).trans (heap_alloc_new w _)
  have e1 : W0.heap[w.heap.size + 1]? = some (.cells #[.int .i64 x.id, .string (S x.chan), .slice la x.key.length lc, .slice ga x.fields.length gc] 33 (0, 0)) := by rw [hW0]; have := heap_alloc_new (w.alloc (.cells #[.int .i64 x.id, .string (S x.chan), .slice ka x.key.length kc, .slice fa x.fields.length fc] 33)) (.cells #[.int .i64 x.id, .string (S x.chan), .slice la x.key.length lc, .slice ga x.fields.length gc] 33); rwa [show (w.alloc (.cells #[.int .i64 x.id, .string (S x.chan), .slice ka x.key.length kc, .slice fa x.fields.length fc] 33)).heap.size = w.heap.size + 1 by simp] at this
  have hka0 := hka.below hb
  have hfa0 := hfa.below hb
  have hla0 := hla.below hb
  have hga0 := hga.below hb
  have HKEEP := Lib.hid (fun W (k : Good W0 W) => show (W.cell? ⟨w.heap.size, 0, none⟩ = some (.int .i64 x.id) ∧ W.cell? ⟨w.heap.size, 1, none⟩ = some (.string (S x.chan)) ∧ W.cell? ⟨w.heap.size, 2, none⟩ = some (.slice ka x.key.length kc) ∧ W.cell? ⟨w.heap.size, 3, none⟩ = some (.slice fa x.fields.length fc)) ∧ (W.cell? ⟨w.heap.size + 1, 0, none⟩ = some (.int .i64 x.id) ∧ W.cell? ⟨w.heap.size + 1, 1, none⟩ = some (.string (S x.chan)) ∧ W.cell? ⟨w.heap.size + 1, 2, none⟩ = some (.slice la x.key.length lc) ∧ W.cell? ⟨w.heap.size + 1, 3, none⟩ = some (.slice ga x.fields.length gc)) from ⟨⟨cell_of_row W (w.heap.size) 0 _ _ (0, 0) ((k.block (w.heap.size) (lt_of_heapV e0)).trans e0), cell_of_row W (w.heap.size) 1 _ _ (0, 0) ((k.block (w.heap.size) (lt_of_heapV e0)).trans e0), cell_of_row W (w.heap.size) 2 _ _ (0, 0) ((k.block (w.heap.size) (lt_of_heapV e0)).trans e0), cell_of_row W (w.heap.size) 3 _ _ (0, 0) ((k.block (w.heap.size) (lt_of_heapV e0)).trans e0)⟩, ⟨cell_of_row W (w.heap.size + 1) 0 _ _ (0, 0) ((k.block (w.heap.size + 1) (lt_of_heapV e1)).trans e1), cell_of_row W (w.heap.size + 1) 1 _ _ (0, 0) ((k.block (w.heap.size + 1) (lt_of_heapV e1)).trans e1), cell_of_row W (w.heap.size + 1) 2 _ _ (0, 0) ((k.block (w.heap.size + 1) (lt_of_heapV e1)).trans e1), cell_of_row W (w.heap.size + 1) 3 _ _ (0, 0) ((k.block (w.heap.size + 1) (lt_of_heapV e1)).trans e1)⟩⟩)
  have HFIN := Lib.hid (fun (wr : World) (h : Good W0 wr) => hb.trans (h.mono hb.size))
  have HG0 := Lib.hid (Good.refl W0)
  have HC0 := Lib.hid (fun W (k : Good W0 W) => good_call (R := fun e => e = .returned (.bool true)) k (sameAll_refl x.key hk ka la kc lc W (hka0.below k) (hla0.below k)))
  have HC1 := Lib.hid (fun W (k : Good W0 W) => good_call (R := fun e => e = .returned (.bool true)) k (sameAll_refl x.fields hf fa ga fc gc W (hfa0.below k) (hga0.below k)))
  have HW0 := Lib.hid hW0
  clear hb e0 e1 hW0 hka hka0 hfa hfa0 hla hla0 hga hga0
  go_enter Try.func15, Try.ntmps15
  go_wp2_with fail
  rw [← HW0.out]
  refine (HC0.out _ HG0.out).mono ?_
  rintro e w1 ⟨rfl, b1⟩
  have HG1 := Lib.hid b1
  obtain ⟨⟨p0, p1, p2, p3⟩, ⟨q0, q1, q2, q3⟩⟩ := HKEEP.out _ HG1.out
  clear b1
  go_wp2_with fail
  refine (HC1.out _ HG1.out).mono ?_
  rintro e w2 ⟨rfl, b2⟩
  have HG2 := Lib.hid b2
  obtain ⟨⟨p0, p1, p2, p3⟩, ⟨q0, q1, q2, q3⟩⟩ := HKEEP.out _ HG2.out
  clear b2
  go_wp2_with fail
  go_ret
  exact ⟨rfl, HFIN.out _ HG2.out⟩
  
/-- A message's two rows. -/
structure MOk (m : MailP) : Prop where
  key : ROk m.key
  fields : ROk m.fields
set_option maxRecDepth 100000 in
set_option maxHeartbeats 4000000 in
theorem sameBox_refl (l : List MailP) (ok : ∀ m ∈ l, MOk m) (hl : l.length ≤ 140737488355328) (a b : Option Addr) (ca cb : Nat) (w : World) (ha : MailsAt w a l) (hb : MailsAt w b l) :
    Calls Try.prog 44 #[.slice a l.length ca, .slice b l.length cb] w fun e w' => e = .returned (.bool true) ∧ Below w.heap.size w w' := by
  have HX := Lib.hid ha
  have HY := Lib.hid hb
  have HOK := Lib.hid ok
  clear ha hb ok
  go_enter Try.func44, Try.ntmps44
  go_wp2_with fail
  go_loopw [13] (fun i wr => ∃ k : Nat, k ≤ l.length ∧ i = .int .i64 k ∧ Below w.heap.size w wr) (fun i _ => l.length - (intOf i).toNat)
  case atStart => exact ⟨0, by omega, rfl, Below.refl _ _⟩
  case round =>
    obtain ⟨k, hk, rfl, hb⟩ := hrel
    have HB := Lib.hid hb
    clear hb
    by_cases hlt : k < l.length
    · obtain ⟨g1, o1, ka, kc, fa, fc, rfl, hm1, hg1⟩ := HX.out k hlt
      obtain ⟨g2, o2, la, lc, ga, gc, rfl, hm2, hg2⟩ := HY.out k hlt
      have HBD := Lib.hid (show Below w.heap.size w wr.drew from ⟨HB.out.os, HB.out.tape, HB.out.output, HB.out.size, HB.out.block⟩)
      have hgw1 : g1 < wr.drew.heap.size := Nat.lt_of_lt_of_le hg1 HBD.out.size
      have hgw2 : g2 < wr.drew.heap.size := Nat.lt_of_lt_of_le hg2 HBD.out.size
      have hok := HOK.out l[k] (List.getElem_mem _)
      have hki : (k : Int) < (l.length : Int) := by omega
      have hm1 := hm1.below hg1 HBD.out
      have hm2 := hm2.below hg2 HBD.out
      generalize l[k] = x at *
      have hkeep : ∀ w7, Below wr.drew.heap.size wr.drew w7 → (w7.cell? ⟨g1, o1 + k * 4, none⟩ = some (.int .i64 x.id) ∧ w7.cell? ⟨g1, o1 + k * 4 + 1, none⟩ = some (.string (S x.chan)) ∧ w7.cell? ⟨g1, o1 + k * 4 + 2, none⟩ = some (.slice ka x.key.length kc) ∧ w7.cell? ⟨g1, o1 + k * 4 + 3, none⟩ = some (.slice fa x.fields.length fc)) ∧
          (w7.cell? ⟨g2, o2 + k * 4, none⟩ = some (.int .i64 x.id) ∧ w7.cell? ⟨g2, o2 + k * 4 + 1, none⟩ = some (.string (S x.chan)) ∧ w7.cell? ⟨g2, o2 + k * 4 + 2, none⟩ = some (.slice la x.key.length lc) ∧ w7.cell? ⟨g2, o2 + k * 4 + 3, none⟩ = some (.slice ga x.fields.length gc)) := fun w7 b7 => by
        obtain ⟨p0, p1, p2, p3, _, _⟩ := hm1.below hgw1 b7
        obtain ⟨q0, q1, q2, q3, _, _⟩ := hm2.below hgw2 b7
        exact ⟨⟨p0, p1, p2, p3⟩, ⟨q0, q1, q2, q3⟩⟩
      have HKEEP := Lib.hid hkeep
      have HST := Lib.hid (hkeep wr.drew (Below.refl _ _))
      have HC := Lib.hid (sameMail_refl x hok.key hok.fields ka kc fa fc la lc ga gc wr.drew hm1.2.2.2.2.1 hm1.2.2.2.2.2 hm2.2.2.2.2.1 hm2.2.2.2.2.2)
      clear hkeep hm1 hm2 hok HX HY HOK
      go_wp2_with fail
      go_region_held3 (fun w7 => (w7.cell? ⟨g1, o1 + k * 4, none⟩ = some (.int .i64 x.id) ∧ w7.cell? ⟨g1, o1 + k * 4 + 1, none⟩ = some (.string (S x.chan)) ∧ w7.cell? ⟨g1, o1 + k * 4 + 2, none⟩ = some (.slice ka x.key.length kc) ∧ w7.cell? ⟨g1, o1 + k * 4 + 3, none⟩ = some (.slice fa x.fields.length fc)) ∧
          (w7.cell? ⟨g2, o2 + k * 4, none⟩ = some (.int .i64 x.id) ∧ w7.cell? ⟨g2, o2 + k * 4 + 1, none⟩ = some (.string (S x.chan)) ∧ w7.cell? ⟨g2, o2 + k * 4 + 2, none⟩ = some (.slice la x.key.length lc) ∧ w7.cell? ⟨g2, o2 + k * 4 + 3, none⟩ = some (.slice ga x.fields.length gc)))
        (first | assumption | exact HST.out | exact HK7.out)
        (first | (go_at_call 15; refine HC.out.mono ?_; rintro e w7 ⟨rfl, b7⟩; have HB7 := Lib.hid b7; have HK7 := Lib.hid (HKEEP.out _ b7); clear b7))
      have HBN := Lib.hid (HBD.out.trans (HB7.out.mono HBD.out.size))
      go_wp2_with fail
      go_roundw
      case rel => exact ⟨k + 1, by omega, by go_num, HBN.out⟩
      case measure => simp [intOf]; omega
    · obtain rfl : k = l.length := by omega
      go_wp2_with fail
      go_ret
      exact ⟨rfl, HB.out⟩

set_option maxRecDepth 100000 in
set_option maxHeartbeats 4000000 in
theorem sameItem_refl (x : ItemP) (ha : ROk x.attrs) (hc : x.counts.length ≤ 140737488355328) (hm : ∀ m ∈ x.box, MOk m) (hbl : x.box.length ≤ 140737488355328) (aa : Option Addr) (ac : Nat) (ca : Option Addr) (cc : Nat) (ba : Option Addr) (bc : Nat) (aa2 : Option Addr) (ac2 : Nat) (ca2 : Option Addr) (cc2 : Nat) (ba2 : Option Addr) (bc2 : Nat) (w : World)
    (haa : ValsAt w aa x.attrs) (hca : NumsAt w ca x.counts) (hba : MailsAt w ba x.box) (haa2 : ValsAt w aa2 x.attrs) (hca2 : NumsAt w ca2 x.counts) (hba2 : MailsAt w ba2 x.box) :
    Calls Try.prog 16 #[.agg #[.int .i64 x.id, .string (S x.typ), .string (S x.state), .int .i64 x.since, .slice aa x.attrs.length ac, .slice ca x.counts.length cc, .slice ba x.box.length bc], .agg #[.int .i64 x.id, .string (S x.typ), .string (S x.state), .int .i64 x.since, .slice aa2 x.attrs.length ac2, .slice ca2 x.counts.length cc2, .slice ba2 x.box.length bc2]] w fun e w' => e = .returned (.bool true) ∧ Below w.heap.size w w' := by
  obtain ⟨W0, hW0⟩ : ∃ W0, W0 = (w.alloc (.cells #[.int .i64 x.id, .string (S x.typ), .string (S x.state), .int .i64 x.since, .slice aa x.attrs.length ac, .slice ca x.counts.length cc, .slice ba x.box.length bc] 41)).alloc (.cells #[.int .i64 x.id, .string (S x.typ), .string (S x.state), .int .i64 x.since, .slice aa2 x.attrs.length ac2, .slice ca2 x.counts.length cc2, .slice ba2 x.box.length bc2] 41) := ⟨_, rfl⟩
  have hb : Below w.heap.size w W0 := by rw [hW0]; exact ((Below.refl w.heap.size w).alloc (Nat.le_refl _) _).alloc (by simp) _
  have e0 : W0.heap[w.heap.size]? = some (.cells #[.int .i64 x.id, .string (S x.typ), .string (S x.state), .int .i64 x.since, .slice aa x.attrs.length ac, .slice ca x.counts.length cc, .slice ba x.box.length bc] 41 (0, 0)) := by rw [hW0]; exact (((Below.refl _ _).alloc (Nat.le_refl _) _).block _ (by simp)).trans (heap_alloc_new w _)
  have e1 : W0.heap[w.heap.size + 1]? = some (.cells #[.int .i64 x.id, .string (S x.typ), .string (S x.state), .int .i64 x.since, .slice aa2 x.attrs.length ac2, .slice ca2 x.counts.length cc2, .slice ba2 x.box.length bc2] 41 (0, 0)) := by rw [hW0]; have := heap_alloc_new (w.alloc (.cells #[.int .i64 x.id, .string (S x.typ), .string (S x.state), .int .i64 x.since, .slice aa x.attrs.length ac, .slice ca x.counts.length cc, .slice ba x.box.length bc] 41)) (.cells #[.int .i64 x.id, .string (S x.typ), .string (S x.state), .int .i64 x.since, .slice aa2 x.attrs.length ac2, .slice ca2 x.counts.length cc2, .slice ba2 x.box.length bc2] 41); rwa [show (w.alloc (.cells #[.int .i64 x.id, .string (S x.typ), .string (S x.state), .int .i64 x.since, .slice aa x.attrs.length ac, .slice ca x.counts.length cc, .slice ba x.box.length bc] 41)).heap.size = w.heap.size + 1 by simp] at this
  have haa0 := haa.below hb
  have hca0 := hca.below hb
  have hba0 := hba.below hb
  have haa20 := haa2.below hb
  have hca20 := hca2.below hb
  have hba20 := hba2.below hb
  have HKEEP := Lib.hid (fun W (k : Good W0 W) => show (W.cell? ⟨w.heap.size, 0, none⟩ = some (.int .i64 x.id) ∧ W.cell? ⟨w.heap.size, 1, none⟩ = some (.string (S x.typ)) ∧ W.cell? ⟨w.heap.size, 2, none⟩ = some (.string (S x.state)) ∧ W.cell? ⟨w.heap.size, 3, none⟩ = some (.int .i64 x.since) ∧ W.cell? ⟨w.heap.size, 4, none⟩ = some (.slice aa x.attrs.length ac) ∧ W.cell? ⟨w.heap.size, 5, none⟩ = some (.slice ca x.counts.length cc) ∧ W.cell? ⟨w.heap.size, 6, none⟩ = some (.slice ba x.box.length bc)) ∧ (W.cell? ⟨w.heap.size + 1, 0, none⟩ = some (.int .i64 x.id) ∧ W.cell? ⟨w.heap.size + 1, 1, none⟩ = some (.string (S x.typ)) ∧ W.cell? ⟨w.heap.size + 1, 2, none⟩ = some (.string (S x.state)) ∧ W.cell? ⟨w.heap.size + 1, 3, none⟩ = some (.int .i64 x.since) ∧ W.cell? ⟨w.heap.size + 1, 4, none⟩ = some (.slice aa2 x.attrs.length ac2) ∧ W.cell? ⟨w.heap.size + 1, 5, none⟩ = some (.slice ca2 x.counts.length cc2) ∧ W.cell? ⟨w.heap.size + 1, 6, none⟩ = some (.slice ba2 x.box.length bc2)) from ⟨⟨cell_of_row W (w.heap.size) 0 _ _ (0, 0) ((k.block (w.heap.size) (lt_of_heapV e0)).trans e0), cell_of_row W (w.heap.size) 1 _ _ (0, 0) ((k.block (w.heap.size) (lt_of_heapV e0)).trans e0), cell_of_row W (w.heap.size) 2 _ _ (0, 0) ((k.block (w.heap.size) (lt_of_heapV e0)).trans e0), cell_of_row W (w.heap.size) 3 _ _ (0, 0) ((k.block (w.heap.size) (lt_of_heapV e0)).trans e0), cell_of_row W (w.heap.size) 4 _ _ (0, 0) ((k.block (w.heap.size) (lt_of_heapV e0)).trans e0), cell_of_row W (w.heap.size) 5 _ _ (0, 0) ((k.block (w.heap.size) (lt_of_heapV e0)).trans e0), cell_of_row W (w.heap.size) 6 _ _ (0, 0) ((k.block (w.heap.size) (lt_of_heapV e0)).trans e0)⟩, ⟨cell_of_row W (w.heap.size + 1) 0 _ _ (0, 0) ((k.block (w.heap.size + 1) (lt_of_heapV e1)).trans e1), cell_of_row W (w.heap.size + 1) 1 _ _ (0, 0) ((k.block (w.heap.size + 1) (lt_of_heapV e1)).trans e1), cell_of_row W (w.heap.size + 1) 2 _ _ (0, 0) ((k.block (w.heap.size + 1) (lt_of_heapV e1)).trans e1), cell_of_row W (w.heap.size + 1) 3 _ _ (0, 0) ((k.block (w.heap.size + 1) (lt_of_heapV e1)).trans e1), cell_of_row W (w.heap.size + 1) 4 _ _ (0, 0) ((k.block (w.heap.size + 1) (lt_of_heapV e1)).trans e1), cell_of_row W (w.heap.size + 1) 5 _ _ (0, 0) ((k.block (w.heap.size + 1) (lt_of_heapV e1)).trans e1), cell_of_row W (w.heap.size + 1) 6 _ _ (0, 0) ((k.block (w.heap.size + 1) (lt_of_heapV e1)).trans e1)⟩⟩)
  have HFIN := Lib.hid (fun (wr : World) (h : Good W0 wr) => hb.trans (h.mono hb.size))
  have HG0 := Lib.hid (Good.refl W0)
  have HC0 := Lib.hid (fun W (k : Good W0 W) => good_call (R := fun e => e = .returned (.bool true)) k (sameAll_refl x.attrs ha aa aa2 ac ac2 W (haa0.below k) (haa20.below k)))
  have HC1 := Lib.hid (fun W (k : Good W0 W) => good_call (R := fun e => e = .returned (.bool true)) k (sameCounts_refl x.counts hc ca ca2 cc cc2 W (hca0.below k) (hca20.below k)))
  have HC2 := Lib.hid (fun W (k : Good W0 W) => good_call (R := fun e => e = .returned (.bool true)) k (sameBox_refl x.box hm hbl ba ba2 bc bc2 W (hba0.below k) (hba20.below k)))
  have HW0 := Lib.hid hW0
  clear hb e0 e1 hW0 haa haa0 hca hca0 hba hba0 haa2 haa20 hca2 hca20 hba2 hba20
  go_enter Try.func16, Try.ntmps16
  go_wp2_with fail
  rw [← HW0.out]
  refine (HC0.out _ HG0.out).mono ?_
  rintro e w1 ⟨rfl, b1⟩
  have HG1 := Lib.hid b1
  obtain ⟨⟨p0, p1, p2, p3, p4, p5, p6⟩, ⟨q0, q1, q2, q3, q4, q5, q6⟩⟩ := HKEEP.out _ HG1.out
  clear b1
  go_wp2_with fail
  refine (HC1.out _ HG1.out).mono ?_
  rintro e w2 ⟨rfl, b2⟩
  have HG2 := Lib.hid b2
  obtain ⟨⟨p0, p1, p2, p3, p4, p5, p6⟩, ⟨q0, q1, q2, q3, q4, q5, q6⟩⟩ := HKEEP.out _ HG2.out
  clear b2
  go_wp2_with fail
  refine (HC2.out _ HG2.out).mono ?_
  rintro e w3 ⟨rfl, b3⟩
  have HG3 := Lib.hid b3
  obtain ⟨⟨p0, p1, p2, p3, p4, p5, p6⟩, ⟨q0, q1, q2, q3, q4, q5, q6⟩⟩ := HKEEP.out _ HG3.out
  clear b3
  go_wp2_with fail
  go_ret
  exact ⟨rfl, HFIN.out _ HG3.out⟩
  
set_option maxRecDepth 100000 in
set_option maxHeartbeats 4000000 in
theorem sameDead_refl (x : DeadP) (hm : MOk x.mail) (ka : Option Addr) (kc : Nat) (fa : Option Addr) (fc : Nat) (la : Option Addr) (lc : Nat) (ga : Option Addr) (gc : Nat) (w : World)
    (hka : ValsAt w ka x.mail.key) (hfa : ValsAt w fa x.mail.fields) (hla : ValsAt w la x.mail.key) (hga : ValsAt w ga x.mail.fields) :
    Calls Try.prog 23 #[.agg #[.int .i64 x.n, .int .i64 x.mail.id, .string (S x.mail.chan), .slice ka x.mail.key.length kc, .slice fa x.mail.fields.length fc, .int .i64 x.reason], .agg #[.int .i64 x.n, .int .i64 x.mail.id, .string (S x.mail.chan), .slice la x.mail.key.length lc, .slice ga x.mail.fields.length gc, .int .i64 x.reason]] w fun e w' => e = .returned (.bool true) ∧ Below w.heap.size w w' := by
  obtain ⟨W0, hW0⟩ : ∃ W0, W0 = (w.alloc (.cells #[.int .i64 x.n, .int .i64 x.mail.id, .string (S x.mail.chan), .slice ka x.mail.key.length kc, .slice fa x.mail.fields.length fc, .int .i64 x.reason] 51)).alloc (.cells #[.int .i64 x.n, .int .i64 x.mail.id, .string (S x.mail.chan), .slice la x.mail.key.length lc, .slice ga x.mail.fields.length gc, .int .i64 x.reason] 51) := ⟨_, rfl⟩
  have hb : Below w.heap.size w W0 := by rw [hW0]; exact ((Below.refl w.heap.size w).alloc (Nat.le_refl _) _).alloc (by simp) _
  have e0 : W0.heap[w.heap.size]? = some (.cells #[.int .i64 x.n, .int .i64 x.mail.id, .string (S x.mail.chan), .slice ka x.mail.key.length kc, .slice fa x.mail.fields.length fc, .int .i64 x.reason] 51 (0, 0)) := by rw [hW0]; exact (((Below.refl _ _).alloc (Nat.le_refl _) _).block _ (by simp)).trans (heap_alloc_new w _)
  have e1 : W0.heap[w.heap.size + 1]? = some (.cells #[.int .i64 x.n, .int .i64 x.mail.id, .string (S x.mail.chan), .slice la x.mail.key.length lc, .slice ga x.mail.fields.length gc, .int .i64 x.reason] 51 (0, 0)) := by rw [hW0]; have := heap_alloc_new (w.alloc (.cells #[.int .i64 x.n, .int .i64 x.mail.id, .string (S x.mail.chan), .slice ka x.mail.key.length kc, .slice fa x.mail.fields.length fc, .int .i64 x.reason] 51)) (.cells #[.int .i64 x.n, .int .i64 x.mail.id, .string (S x.mail.chan), .slice la x.mail.key.length lc, .slice ga x.mail.fields.length gc, .int .i64 x.reason] 51); rwa [show (w.alloc (.cells #[.int .i64 x.n, .int .i64 x.mail.id, .string (S x.mail.chan), .slice ka x.mail.key.length kc, .slice fa x.mail.fields.length fc, .int .i64 x.reason] 51)).heap.size = w.heap.size + 1 by simp] at this
  have hka0 := hka.below hb
  have hfa0 := hfa.below hb
  have hla0 := hla.below hb
  have hga0 := hga.below hb
  have HKEEP := Lib.hid (fun W (k : Good W0 W) => show (W.cell? ⟨w.heap.size, 0, none⟩ = some (.int .i64 x.n) ∧ W.cell? ⟨w.heap.size, 1, none⟩ = some (.int .i64 x.mail.id) ∧ W.cell? ⟨w.heap.size, 2, none⟩ = some (.string (S x.mail.chan)) ∧ W.cell? ⟨w.heap.size, 3, none⟩ = some (.slice ka x.mail.key.length kc) ∧ W.cell? ⟨w.heap.size, 4, none⟩ = some (.slice fa x.mail.fields.length fc) ∧ W.cell? ⟨w.heap.size, 5, none⟩ = some (.int .i64 x.reason)) ∧ (W.cell? ⟨w.heap.size + 1, 0, none⟩ = some (.int .i64 x.n) ∧ W.cell? ⟨w.heap.size + 1, 1, none⟩ = some (.int .i64 x.mail.id) ∧ W.cell? ⟨w.heap.size + 1, 2, none⟩ = some (.string (S x.mail.chan)) ∧ W.cell? ⟨w.heap.size + 1, 3, none⟩ = some (.slice la x.mail.key.length lc) ∧ W.cell? ⟨w.heap.size + 1, 4, none⟩ = some (.slice ga x.mail.fields.length gc) ∧ W.cell? ⟨w.heap.size + 1, 5, none⟩ = some (.int .i64 x.reason)) from ⟨⟨cell_of_row W (w.heap.size) 0 _ _ (0, 0) ((k.block (w.heap.size) (lt_of_heapV e0)).trans e0), cell_of_row W (w.heap.size) 1 _ _ (0, 0) ((k.block (w.heap.size) (lt_of_heapV e0)).trans e0), cell_of_row W (w.heap.size) 2 _ _ (0, 0) ((k.block (w.heap.size) (lt_of_heapV e0)).trans e0), cell_of_row W (w.heap.size) 3 _ _ (0, 0) ((k.block (w.heap.size) (lt_of_heapV e0)).trans e0), cell_of_row W (w.heap.size) 4 _ _ (0, 0) ((k.block (w.heap.size) (lt_of_heapV e0)).trans e0), cell_of_row W (w.heap.size) 5 _ _ (0, 0) ((k.block (w.heap.size) (lt_of_heapV e0)).trans e0)⟩, ⟨cell_of_row W (w.heap.size + 1) 0 _ _ (0, 0) ((k.block (w.heap.size + 1) (lt_of_heapV e1)).trans e1), cell_of_row W (w.heap.size + 1) 1 _ _ (0, 0) ((k.block (w.heap.size + 1) (lt_of_heapV e1)).trans e1), cell_of_row W (w.heap.size + 1) 2 _ _ (0, 0) ((k.block (w.heap.size + 1) (lt_of_heapV e1)).trans e1), cell_of_row W (w.heap.size + 1) 3 _ _ (0, 0) ((k.block (w.heap.size + 1) (lt_of_heapV e1)).trans e1), cell_of_row W (w.heap.size + 1) 4 _ _ (0, 0) ((k.block (w.heap.size + 1) (lt_of_heapV e1)).trans e1), cell_of_row W (w.heap.size + 1) 5 _ _ (0, 0) ((k.block (w.heap.size + 1) (lt_of_heapV e1)).trans e1)⟩⟩)
  have HFIN := Lib.hid (fun (wr : World) (h : Good W0 wr) => hb.trans (h.mono hb.size))
  have HG0 := Lib.hid (Good.refl W0)
  have HC0 := Lib.hid (fun W (k : Good W0 W) => good_call (R := fun e => e = .returned (.bool true)) k (sameMail_refl x.mail hm.key hm.fields ka kc fa fc la lc ga gc W (hka0.below k) (hfa0.below k) (hla0.below k) (hga0.below k)))
  have HW0 := Lib.hid hW0
  clear hb e0 e1 hW0 hka hka0 hfa hfa0 hla hla0 hga hga0
  go_enter Try.func23, Try.ntmps23
  go_wp2_with fail
  rw [← HW0.out]
  refine (HC0.out _ HG0.out).mono ?_
  rintro e w1 ⟨rfl, b1⟩
  have HG1 := Lib.hid b1
  obtain ⟨⟨p0, p1, p2, p3, p4, p5⟩, ⟨q0, q1, q2, q3, q4, q5⟩⟩ := HKEEP.out _ HG1.out
  clear b1
  go_wp2_with fail
  go_ret
  exact ⟨rfl, HFIN.out _ HG1.out⟩
  
set_option maxRecDepth 100000 in
set_option maxHeartbeats 4000000 in
theorem sameEvent_refl (x : EventP) (ha : ROk x.attrs) (aa : Option Addr) (ac : Nat) (aa2 : Option Addr) (ac2 : Nat) (w : World)
    (haa : ValsAt w aa x.attrs) (haa2 : ValsAt w aa2 x.attrs) :
    Calls Try.prog 24 #[.agg #[.int .i64 x.n, .int .i64 x.tick, .string (S x.name), .int .i64 x.item, .string (S x.typ), .string (S x.state), .slice aa x.attrs.length ac], .agg #[.int .i64 x.n, .int .i64 x.tick, .string (S x.name), .int .i64 x.item, .string (S x.typ), .string (S x.state), .slice aa2 x.attrs.length ac2]] w fun e w' => e = .returned (.bool true) ∧ Below w.heap.size w w' := by
  obtain ⟨W0, hW0⟩ : ∃ W0, W0 = (w.alloc (.cells #[.int .i64 x.n, .int .i64 x.tick, .string (S x.name), .int .i64 x.item, .string (S x.typ), .string (S x.state), .slice aa x.attrs.length ac] 57)).alloc (.cells #[.int .i64 x.n, .int .i64 x.tick, .string (S x.name), .int .i64 x.item, .string (S x.typ), .string (S x.state), .slice aa2 x.attrs.length ac2] 57) := ⟨_, rfl⟩
  have hb : Below w.heap.size w W0 := by rw [hW0]; exact ((Below.refl w.heap.size w).alloc (Nat.le_refl _) _).alloc (by simp) _
  have e0 : W0.heap[w.heap.size]? = some (.cells #[.int .i64 x.n, .int .i64 x.tick, .string (S x.name), .int .i64 x.item, .string (S x.typ), .string (S x.state), .slice aa x.attrs.length ac] 57 (0, 0)) := by rw [hW0]; exact (((Below.refl _ _).alloc (Nat.le_refl _) _).block _ (by simp)).trans (heap_alloc_new w _)
  have e1 : W0.heap[w.heap.size + 1]? = some (.cells #[.int .i64 x.n, .int .i64 x.tick, .string (S x.name), .int .i64 x.item, .string (S x.typ), .string (S x.state), .slice aa2 x.attrs.length ac2] 57 (0, 0)) := by rw [hW0]; have := heap_alloc_new (w.alloc (.cells #[.int .i64 x.n, .int .i64 x.tick, .string (S x.name), .int .i64 x.item, .string (S x.typ), .string (S x.state), .slice aa x.attrs.length ac] 57)) (.cells #[.int .i64 x.n, .int .i64 x.tick, .string (S x.name), .int .i64 x.item, .string (S x.typ), .string (S x.state), .slice aa2 x.attrs.length ac2] 57); rwa [show (w.alloc (.cells #[.int .i64 x.n, .int .i64 x.tick, .string (S x.name), .int .i64 x.item, .string (S x.typ), .string (S x.state), .slice aa x.attrs.length ac] 57)).heap.size = w.heap.size + 1 by simp] at this
  have haa0 := haa.below hb
  have haa20 := haa2.below hb
  have HKEEP := Lib.hid (fun W (k : Good W0 W) => show (W.cell? ⟨w.heap.size, 0, none⟩ = some (.int .i64 x.n) ∧ W.cell? ⟨w.heap.size, 1, none⟩ = some (.int .i64 x.tick) ∧ W.cell? ⟨w.heap.size, 2, none⟩ = some (.string (S x.name)) ∧ W.cell? ⟨w.heap.size, 3, none⟩ = some (.int .i64 x.item) ∧ W.cell? ⟨w.heap.size, 4, none⟩ = some (.string (S x.typ)) ∧ W.cell? ⟨w.heap.size, 5, none⟩ = some (.string (S x.state)) ∧ W.cell? ⟨w.heap.size, 6, none⟩ = some (.slice aa x.attrs.length ac)) ∧ (W.cell? ⟨w.heap.size + 1, 0, none⟩ = some (.int .i64 x.n) ∧ W.cell? ⟨w.heap.size + 1, 1, none⟩ = some (.int .i64 x.tick) ∧ W.cell? ⟨w.heap.size + 1, 2, none⟩ = some (.string (S x.name)) ∧ W.cell? ⟨w.heap.size + 1, 3, none⟩ = some (.int .i64 x.item) ∧ W.cell? ⟨w.heap.size + 1, 4, none⟩ = some (.string (S x.typ)) ∧ W.cell? ⟨w.heap.size + 1, 5, none⟩ = some (.string (S x.state)) ∧ W.cell? ⟨w.heap.size + 1, 6, none⟩ = some (.slice aa2 x.attrs.length ac2)) from ⟨⟨cell_of_row W (w.heap.size) 0 _ _ (0, 0) ((k.block (w.heap.size) (lt_of_heapV e0)).trans e0), cell_of_row W (w.heap.size) 1 _ _ (0, 0) ((k.block (w.heap.size) (lt_of_heapV e0)).trans e0), cell_of_row W (w.heap.size) 2 _ _ (0, 0) ((k.block (w.heap.size) (lt_of_heapV e0)).trans e0), cell_of_row W (w.heap.size) 3 _ _ (0, 0) ((k.block (w.heap.size) (lt_of_heapV e0)).trans e0), cell_of_row W (w.heap.size) 4 _ _ (0, 0) ((k.block (w.heap.size) (lt_of_heapV e0)).trans e0), cell_of_row W (w.heap.size) 5 _ _ (0, 0) ((k.block (w.heap.size) (lt_of_heapV e0)).trans e0), cell_of_row W (w.heap.size) 6 _ _ (0, 0) ((k.block (w.heap.size) (lt_of_heapV e0)).trans e0)⟩, ⟨cell_of_row W (w.heap.size + 1) 0 _ _ (0, 0) ((k.block (w.heap.size + 1) (lt_of_heapV e1)).trans e1), cell_of_row W (w.heap.size + 1) 1 _ _ (0, 0) ((k.block (w.heap.size + 1) (lt_of_heapV e1)).trans e1), cell_of_row W (w.heap.size + 1) 2 _ _ (0, 0) ((k.block (w.heap.size + 1) (lt_of_heapV e1)).trans e1), cell_of_row W (w.heap.size + 1) 3 _ _ (0, 0) ((k.block (w.heap.size + 1) (lt_of_heapV e1)).trans e1), cell_of_row W (w.heap.size + 1) 4 _ _ (0, 0) ((k.block (w.heap.size + 1) (lt_of_heapV e1)).trans e1), cell_of_row W (w.heap.size + 1) 5 _ _ (0, 0) ((k.block (w.heap.size + 1) (lt_of_heapV e1)).trans e1), cell_of_row W (w.heap.size + 1) 6 _ _ (0, 0) ((k.block (w.heap.size + 1) (lt_of_heapV e1)).trans e1)⟩⟩)
  have HFIN := Lib.hid (fun (wr : World) (h : Good W0 wr) => hb.trans (h.mono hb.size))
  have HG0 := Lib.hid (Good.refl W0)
  have HC0 := Lib.hid (fun W (k : Good W0 W) => good_call (R := fun e => e = .returned (.bool true)) k (sameAll_refl x.attrs ha aa aa2 ac ac2 W (haa0.below k) (haa20.below k)))
  have HW0 := Lib.hid hW0
  clear hb e0 e1 hW0 haa haa0 haa2 haa20
  go_enter Try.func24, Try.ntmps24
  go_wp2_with fail
  rw [← HW0.out]
  refine (HC0.out _ HG0.out).mono ?_
  rintro e w1 ⟨rfl, b1⟩
  have HG1 := Lib.hid b1
  obtain ⟨⟨p0, p1, p2, p3, p4, p5, p6⟩, ⟨q0, q1, q2, q3, q4, q5, q6⟩⟩ := HKEEP.out _ HG1.out
  clear b1
  go_wp2_with fail
  go_ret
  exact ⟨rfl, HFIN.out _ HG1.out⟩
  
end Go.Proofs.Ytkdhchdhgmaolaa.Cd
