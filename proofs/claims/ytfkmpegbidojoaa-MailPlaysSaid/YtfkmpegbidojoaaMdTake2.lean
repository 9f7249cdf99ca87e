/-
  Take of a box of messages.
-/
import Derived.Test.YtfkmpegbidojoaaMdOffer
namespace Go.Proofs.Ytfkmpegbidojoaa.Md
open Go.RowKit
open Va
set_option linter.unusedVariables false
set_option linter.unusedSimpArgs false

theorem BoxAt.but {lo b c cap g : Nat} {w w' : World} {l : List MailP} (h : BoxAt lo w b c cap l) (hg : Blk w g 30) (k : ∀ j, j ≠ g → w'.heap[j]? = w.heap[j]?) : BoxAt lo w' b c cap l := by
  obtain ⟨buf, s, r, hc, hm⟩ := h.chan
  have hbb : Blk w b 68 := ⟨_, h.box⟩
  have hbg : b ≠ g := hbb.apart hg (by decide)
  have hcg : c ≠ g := fun e => not_chan (e ▸ hc) _ hg
  exact ⟨(k _ hbg).trans h.box, ⟨buf, s, r, (k _ hcg).trans hc, hm.agree fun j t ht _ hb => k j (fun e => not_blk hg (by decide) (by decide) t ht (e ▸ hb))⟩, h.room, h.cap_le, h.gb, h.gc⟩
theorem Onl.bput {c g : Nat} {w w1 : World} (h : Onl c w w1) (hg : w.heap.size ≤ g) (x y z u : Value) : Onl c w (bput w1 g x y z u) :=
  ⟨h.os, h.tape, h.output, by rw [bput_size]; exact h.size, fun k hk hne => (bput_other (by omega) _ _ _ _).trans (h.block k hk hne)⟩

/-- What Take hands out, and leaves. -/
def Took (lo b c cap : Nat) (l : List MailP) (e : Ending) (w' : World) : Prop :=
  match l with
  | [] => e = .returned (.tuple #[zM, .bool false]) ∧ BoxAt lo w' b c cap []
  | m :: r => ∃ ka kc fa fc, e = .returned (.tuple #[mV m ka kc fa fc, .bool true]) ∧ TwR lo w' ka m.key ∧ TwR lo w' fa m.fields ∧ BoxAt lo w' b c cap r

set_option maxRecDepth 100000 in
set_option maxHeartbeats 4000000 in
theorem take_any {lo b c cap : Nat} {w : World} {l : List MailP} (h : BoxAt lo w b c cap l) :
    Calls Try.prog 10 #[.pointer (some ⟨b, 0, none⟩)] w fun e w' => Took lo b c cap l e w' ∧ Onl c w w' := by
  have h1 : (w.alloc (.cells #[.int .i64 0, .string ⟨#[]⟩, .slice none 0 0, .slice none 0 0] 30)).heap[w.heap.size]? = _ := heap_alloc_new w _
  have kk := (Below.refl w.heap.size w).alloc (Nat.le_refl _) (.cells #[.int .i64 0, .string ⟨#[]⟩, .slice none 0 0, .slice none 0 0] 30)
  obtain ⟨W1, hW1⟩ : ∃ W1, W1 = w.alloc (.cells #[.int .i64 0, .string ⟨#[]⟩, .slice none 0 0, .slice none 0 0] 30) := ⟨_, rfl⟩
  rw [← hW1] at h1 kk
  have hb1 := h.below kk
  have e1 : BM W1 w.heap.size _ _ _ _ := h1
  have pb := hb1.c0
  have HE := Lib.hid e1
  have HO := Lib.hid (Onl.of_below (c := c) kk)
  have HB := Lib.hid hb1
  have HW := Lib.hid hW1
  have HLO := Lib.hid (Nat.le_trans h.gb (Nat.le_of_lt hb1.lt.1))
  obtain ⟨Pst, hPst⟩ : ∃ Pst : Ending → World → Prop, Pst = fun e w' => Took lo b c cap l e w' ∧ Onl c w w' := ⟨_, rfl⟩
  rw [← hPst]
  have HP := Lib.hid hPst
  clear e1 h1 kk h hW1 hPst
  refine Ch.calls_of_wpK Try.func10 rfl ?_
  simp only [Try.ntmps10, List.size_toArray, List.length_cons, List.length_nil, Nat.reduceAdd, Nat.reduceSub, Array.replicate_succ, Array.replicate_zero, List.push_toArray, List.append_toArray, List.nil_append, List.cons_append]
  refine Ch.wpK_seq fun K hK => ?_
  go_wp2_with fail
  rw [← HW.out]
  refine Ch.wpK_seq fun K hK => ?_
  go_wp2_with fail
  refine Ch.wpK_seq fun K hK => ?_
  go_wp2_with fail
  obtain ⟨buf, s, r, hc, hms⟩ := hb1.chan
  have HMS := Lib.hid hms
  have hsz := hms.1
  clear hms pb
  refine Ch.wpK_seq_k fun K hK => ?_
  refine Ch.wpK_region ?_
  show Ch.opsK _ _ _ [0, 1, 2] _ _
  cases l with
  | nil =>
    clear hb1
    have hb0 : buf = #[] := Array.eq_empty_of_size_eq_zero hsz
    subst hb0
    have z0 := HE.out.c0
    have z1 := HE.out.c1
    have z2 := HE.out.c2
    have z3 := HE.out.c3
    have f0 := HE.out.fz 0
    have f1 := HE.out.fz 1
    have f2 := HE.out.fz 2
    have f3 := HE.out.fz 3
    refine Ch.opsK_comm (v := .tuple #[goInt (-1), .bool false, zM]) (w1 := W1) (w2 := W1) (cases := #[Conc.rcase c zM]) (blocking := false) (shape := .select) rfl rfl (by simp [go_sem, execOp, Conc.rcase, Act.eval, zM]) (fun fr cs es hst => Conc.step_lone_select_default hst hc) ?_
    refine Ch.opsK_value (v := .int .i64 (-1)) (w1 := W1) rfl rfl (by simp [go_sem, execOp, Act.eval]) ?_
    refine Ch.opsK_value (v := .bool false) (w1 := W1) rfl rfl (by simp [go_sem, execOp, Act.eval, Act.put]) ?_
    refine Ch.opsK_nil ?_
    refine hK _ _ ?_
    refine Ch.wpK_of ?_
    go_wp2_with fail
    refine bodyPost_ret (v := .tuple #[zM, .bool false]) (res_bm2 rfl _ _ w.heap.size _ _ _ _ _ rfl (HE.out.put _ _ _ _) rfl) rfl ?_
    rw [HP.out]
    exact ⟨⟨rfl, HB.out.but HE.out.blk fun j hj => bput_other hj _ _ _ _⟩, HO.out.bput (Nat.le_refl _) _ _ _ _⟩
  | cons m rr =>
    obtain ⟨ka, kc, fa, fc, hv, tk, tf⟩ := HMS.out.2 0 m rfl
    have hgd : buf.getD 0 undef = mV m ka kc fa fc := by simp only [Array.getD_eq_getD_getElem?, hv]; rfl
    obtain ⟨W2, hW2⟩ : ∃ W2, W2 = W1.setChan c cap (buf.extract 1 buf.size) false s (r + 1) false := ⟨_, rfl⟩
    have hpos : 0 < buf.size := by rw [hsz]; simp
    have hcH : w.heap.size ≠ c := fun e => not_chan hc 30 (e ▸ HE.out.blk)
    have B2 := hb1.turn HMS.out.tail (by have := hb1.room; simp only [List.length_cons] at this; omega) s (r + 1)
    have E2 : BM (W1.setChan c cap (buf.extract 1 buf.size) false s (r + 1) false) w.heap.size _ _ _ _ := (setChan_other hcH).trans HE.out
    have O2 := HO.out.trans (Onl.chan W1 c cap (buf.extract 1 buf.size) false s (r + 1) false)
    have K2 : TwR lo (W1.setChan c cap (buf.extract 1 buf.size) false s (r + 1) false) ka m.key := tk.agree fun k t _ _ hb => setChan_other (fun e => not_chan hc t (e ▸ hb))
    have F2 : TwR lo (W1.setChan c cap (buf.extract 1 buf.size) false s (r + 1) false) fa m.fields := tf.agree fun k t _ _ hb => setChan_other (fun e => not_chan hc t (e ▸ hb))
    rw [← hW2] at B2 E2 O2 K2 F2
    have k3 := (Below.refl W2.heap.size W2).alloc (Nat.le_refl _) (.cells #[.int .i64 m.id, .string (S m.chan), .slice ka m.key.length kc, .slice fa m.fields.length fc] 30)
    have h3 : (W2.alloc (.cells #[.int .i64 m.id, .string (S m.chan), .slice ka m.key.length kc, .slice fa m.fields.length fc] 30)).heap[W2.heap.size]? = _ := heap_alloc_new W2 _
    obtain ⟨W3, hW3⟩ : ∃ W3, W3 = W2.alloc (.cells #[.int .i64 m.id, .string (S m.chan), .slice ka m.key.length kc, .slice fa m.fields.length fc] 30) := ⟨_, rfl⟩
    rw [← hW3] at k3 h3
    have E3 := Lib.hid (E2.below k3)
    have N3 : BM W3 W2.heap.size _ _ _ _ := h3
    have B3 := Lib.hid (B2.below k3)
    have O3 := Lib.hid (O2.trans (Onl.of_below (c := c) k3))
    have K3 := Lib.hid (TwR.below K2 k3)
    have F3 := Lib.hid (TwR.below F2 k3)
    have HW3 := Lib.hid hW3
    have HW2 := Lib.hid hW2
    have hAl : ∀ o, BM (W2.alloc o) w.heap.size _ _ _ _ := fun o => E2.below ((Below.refl W2.heap.size W2).alloc (Nat.le_refl _) o)
    have z0 := fun o => (hAl o).c0
    have f0 := fun o => (hAl o).fz 0
    have z1 := fun o => (hAl o).c1
    have f1 := fun o => (hAl o).fz 1
    have z2 := fun o => (hAl o).c2
    have f2 := fun o => (hAl o).fz 2
    have z3 := fun o => (hAl o).c3
    have f3 := fun o => (hAl o).fz 3
    clear hW3 k3 h3 N3 B2 E2 O2 K2 F2 tk tf hv hb1 hAl
    refine Ch.opsK_comm (v := .tuple #[goInt 0, .bool true, buf.getD 0 undef]) (w1 := W1) (w2 := W2) (cases := #[Conc.rcase c zM]) (blocking := false) (shape := .select) rfl rfl (by simp [go_sem, execOp, Conc.rcase, Act.eval, zM]) (fun fr cs es hst => by rw [HW2.out]; exact Conc.step_lone_select_recv_buf hst hc hpos) ?_
    rw [hgd]
    clear hW2 hgd
    refine Ch.opsK_value (v := .int .i64 0) (w1 := W2) rfl rfl (by simp [go_sem, execOp, Act.eval]) ?_
    refine Ch.opsK_value (v := .bool true) (w1 := W2) rfl rfl (by simp [go_sem, execOp, Act.eval, Act.put]) ?_
    refine Ch.opsK_nil ?_
    refine hK _ _ ?_
    refine Ch.wpK_of ?_
    unfold mV
    go_wp2_with fail
    rw [← HW3.out]
    refine bodyPost_ret (v := .tuple #[mV m ka kc fa fc, .bool true]) (res_bm2 rfl _ _ w.heap.size _ _ _ _ _ rfl (E3.out.put _ _ _ _) rfl) rfl ?_
    rw [HP.out]
    exact ⟨⟨ka, kc, fa, fc, rfl, K3.out.bput E3.out.blk, F3.out.bput E3.out.blk, B3.out.but E3.out.blk fun j hj => bput_other hj _ _ _ _⟩, O3.out.bput (Nat.le_refl _) _ _ _ _⟩

end Go.Proofs.Ytfkmpegbidojoaa.Md
