/-
  All of a box of messages.
-/
import Derived.Test.YtfkmpegbidojoaaMdRow
namespace Go.Proofs.Ytfkmpegbidojoaa.Md
open Go.RowKit
open Va
set_option linter.unusedVariables false
set_option linter.unusedSimpArgs false

/-- The box's channel, turned on by k, its rows as they were in w. -/
def Rot (lo : Nat) (w : World) (c cap : Nat) (l : List MailP) (k : Nat) (wr : World) : Prop :=
  ∃ buf s r, wr.heap[c]? = some (.chan cap buf false s r false) ∧ MsgsIn lo w buf (l.drop k ++ l.take k)
theorem TwR.onl {lo c : Nat} {w w' : World} {a : Option Addr} {vs : List V} (h : TwR lo w a vs) (hc : ∀ t, ¬ Blk w c t) (k : Onl c w w') : TwR lo w' a vs :=
  h.agree fun b t _ _ hb => k.block b hb.lt (fun e => hc t (e ▸ hb))
theorem drop_take {l : List MailP} {k : Nat} (hk : k < l.length) : l.drop k ++ l.take k = l[k] :: (l.drop (k + 1) ++ l.take k) := by
  rw [List.drop_eq_getElem_cons hk, List.cons_append]
theorem drop_take2 {l : List MailP} {k : Nat} (hk : k < l.length) : (l.drop (k + 1) ++ l.take k) ++ [l[k]] = l.drop (k + 1) ++ l.take (k + 1) := by
  rw [List.append_assoc, List.take_succ_eq_append_getElem hk]
/-- What All hands out, and leaves. -/
def Alled (lo b c cap : Nat) (l : List MailP) (w : World) (e : Ending) (w' : World) : Prop :=
  (∃ q d cp, e = .returned (.slice q d.length cp) ∧ d.map (·.m) = l ∧ OutAt w.heap.size w' q d cp) ∧ ∀ w3, (∀ k, k < w.heap.size → w3.heap[k]? = w'.heap[k]?) → BoxAt lo w3 b c cap l
/-- A round of All's is due. -/
def AllI (lo b c cap : Nat) (l : List MailP) (w : World) (n : Nat) (a : Act) (wr : World) : Prop :=
  ∃ (k : Nat) (q : Option Addr) (d : List MK) (cp : Nat) (ov iv x4 x8 x9 x10 x11 x12 x13 x14 x15 x16 x17 x18 x19 x20 x21 x22 x23 x24 x25 : Value), a = ⟨#[.pointer (some ⟨b, 0, none⟩), undef, .slice none 0 0, ov, x4, .pointer (some ⟨b, 0, none⟩), .int .i64 l.length, iv, x8, x9, x10, x11, x12, x13, x14, x15, x16, x17, x18, x19, x20, x21, x22, x23, x24, x25], []⟩ ∧ ov = .slice q d.length cp ∧ iv = .int .i64 k ∧
    k + n = l.length ∧ d.map (·.m) = l.take k ∧ OutAt w.heap.size wr q d cp ∧ Onl c w wr ∧ Rot lo w c cap l k wr

set_option maxRecDepth 100000 in
set_option maxHeartbeats 8000000 in
theorem all_any {lo b c cap : Nat} {w : World} {l : List MailP} (h : BoxAt lo w b c cap l) (hbig : ∀ m ∈ l, MBig m ∧ m.key.length ≤ 1000 ∧ m.fields.length ≤ 1000) :
    Calls Try.prog 14 #[.pointer (some ⟨b, 0, none⟩)] w fun e w' => Alled lo b c cap l w e w' ∧ Onl c w w' := by
  have HL := Lib.hid (len_any h)
  obtain ⟨Pst, hPst⟩ : ∃ Pst : Ending → World → Prop, Pst = fun e w' => Alled lo b c cap l w e w' ∧ Onl c w w' := ⟨_, rfl⟩
  rw [← hPst]
  have HP := Lib.hid hPst
  have HH := Lib.hid h
  have HBIG := Lib.hid hbig
  have hll : l.length ≤ 4096 := Nat.le_trans h.room h.cap_le
  obtain ⟨buf0, s0, r0, hc0, hm0⟩ := h.chan
  have HROT : Hid (Rot lo w c cap l 0 w) := Lib.hid ⟨buf0, s0, r0, hc0, by simpa using hm0⟩
  have HNC : Hid (∀ t, ¬ Blk w c t) := Lib.hid (not_chan hc0)
  clear h hPst hbig hc0 hm0
  refine Ch.calls_of_wpK Try.func14 rfl ?_
  simp only [Try.ntmps14, List.size_toArray, List.length_cons, List.length_nil, Nat.reduceAdd, Nat.reduceSub, Array.replicate_succ, Array.replicate_zero, List.push_toArray, List.append_toArray, List.nil_append, List.cons_append]
  refine Ch.wpK_seq fun K hK => ?_
  go_wp2_with fail
  refine Ch.wpK_seq fun K hK => ?_
  go_wp2_with fail
  refine Ch.wpK_seq_k fun KA hKA => ?_
  refine Ch.wpK_seq fun K hK => ?_
  go_wp2_with fail
  refine HL.out.mono ?_
  rintro e w1 ⟨rfl, rfl⟩
  go_wp2_with fail
  refine Ch.wpK_block ?_
  refine Ch.wpK_loop (AllI lo b c cap l w) l.length ?_ ?_
  · exact ⟨0, none, [], 0, _, _, undef, undef, undef, undef, undef, undef, undef, undef, undef, undef, undef, undef, undef, undef, undef, undef, undef, undef, undef, rfl, rfl, rfl, by omega, by simp, OutAt.nil _ _, Onl.refl _ _, HROT.out⟩
  intro n a wr hI
  obtain ⟨k, q, d, cp, ov, iv, x4, x8, x9, x10, x11, x12, x13, x14, x15, x16, x17, x18, x19, x20, x21, x22, x23, x24, x25, rfl, rfl, rfl, hkn, hd, hout, honl, hrot⟩ := hI
  have HOUT := Lib.hid hout
  have HONL := Lib.hid honl
  have HD := Lib.hid hd
  have hdl : d.length ≤ 4096 := by have h9 := congrArg List.length hd; simp only [List.length_map, List.length_take] at h9; omega
  by_cases hlt : k < l.length
  · have hki : (k : Int) < (l.length : Int) := by omega
    obtain ⟨buf, s, r, hc, hms⟩ := hrot
    rw [drop_take hlt] at hms
    obtain ⟨ka, kc, fa, fc, hv, tk, tf⟩ := hms.2 0 _ rfl
    have hms1 := hms.tail
    have hbs : buf.size = l.length := by rw [hms.1]; simp; omega
    have hgd : buf.getD 0 undef = mV l[k] ka kc fa fc := by simp only [Array.getD_eq_getD_getElem?, hv]; rfl
    have HBK := Lib.hid (HBIG.out l[k] (List.getElem_mem _))
    obtain ⟨y, hy⟩ : ∃ y : MK, y = ⟨l[k], ka, kc, fa, fc⟩ := ⟨_, rfl⟩
    have hgd2 : buf.getD 0 undef = mV y.m y.ka y.kc y.fa y.fc := by rw [hgd, hy]
    have HTK : Hid (TwR lo w y.ka y.m.key) := Lib.hid (by rw [hy]; exact tk)
    have HTF : Hid (TwR lo w y.fa y.m.fields) := Lib.hid (by rw [hy]; exact tf)
    have HYM : Hid (y.m = l[k]) := Lib.hid (by rw [hy])
    have pb : wr.cell? ⟨b, 0, none⟩ = some (.chan (some c)) := by
      have hbne : b ≠ c := fun e => HNC.out 68 (e ▸ ⟨_, HH.out.box⟩)
      exact cell_of_row wr b 0 _ _ (0, 0) ((honl.block b HH.out.lt.1 hbne).trans HH.out.box)
    have HLT := Lib.hid HH.out.lt
    have HRM0 := Lib.hid HH.out.room
    have HM1 := Lib.hid hms1
    clear hout honl hd hms hms1 hv tk tf hgd hy
    obtain ⟨W2, hW2⟩ : ∃ W2, W2 = wr.setChan c cap (buf.extract 1 buf.size) false s (r + 1) false := ⟨_, rfl⟩
    have o2 : Onl c w W2 := by rw [hW2]; exact HONL.out.trans (Onl.chan _ _ _ _ _ _ _ _)
    have out2 : OutAt w.heap.size W2 q d cp := by rw [hW2]; exact HOUT.out.chan hc
    have c2 : W2.heap[c]? = some (.chan cap (buf.extract 1 buf.size) false s (r + 1) false) := by rw [hW2]; exact setChan_same _ _ _ _ _ _ _ _ (lt_of_heapV hc)
    have kk := (Below.refl W2.heap.size W2).alloc (Nat.le_refl _) (.cells #[.int .i64 y.m.id, .string (S y.m.chan), .slice y.ka y.m.key.length y.kc, .slice y.fa y.m.fields.length y.fc] 30)
    have h3 : BM (W2.alloc (.cells #[.int .i64 y.m.id, .string (S y.m.chan), .slice y.ka y.m.key.length y.kc, .slice y.fa y.m.fields.length y.fc] 30)) W2.heap.size _ _ _ _ := heap_alloc_new W2 _
    obtain ⟨W3, hW3⟩ : ∃ W3, W3 = W2.alloc (.cells #[.int .i64 y.m.id, .string (S y.m.chan), .slice y.ka y.m.key.length y.kc, .slice y.fa y.m.fields.length y.fc] 30) := ⟨_, rfl⟩
    rw [← hW3] at kk h3
    have o3 := o2.trans (Onl.of_below (c := c) kk)
    have out3 := out2.below kk
    have c3 : W3.heap[c]? = some (.chan cap (buf.extract 1 buf.size) false s (r + 1) false) := (kk.block c (lt_of_heapV c2)).trans c2
    have hbne : b ≠ c := fun e => HNC.out 68 (e ▸ ⟨_, HH.out.box⟩)
    have b3 : W3.heap[b]? = some (.cells #[.chan (some c)] 68 (0, 0)) := (o3.block b HH.out.lt.1 hbne).trans HH.out.box
    have HPB := Lib.hid (show W3.drew.cell? ⟨b, 0, none⟩ = some (.chan (some c)) from cell_of_row W3 b 0 _ _ (0, 0) b3)
    have HN := Lib.hid (show W3.drew.cell? ⟨W2.heap.size, 0, none⟩ = some (.int .i64 y.m.id) ∧ W3.drew.cell? ⟨W2.heap.size, 1, none⟩ = some (.string (S y.m.chan)) ∧ W3.drew.cell? ⟨W2.heap.size, 2, none⟩ = some (.slice y.ka y.m.key.length y.kc) ∧ W3.drew.cell? ⟨W2.heap.size, 3, none⟩ = some (.slice y.fa y.m.fields.length y.fc) from ⟨h3.c0, h3.c1, h3.c2, h3.c3⟩)
    have HC3 := Lib.hid (show W3.drew.heap[c]? = some (.chan cap (buf.extract 1 buf.size) false s (r + 1) false) from c3)
    have HRM := Lib.hid (show (buf.extract 1 buf.size).size < cap by have := HRM0.out; simp; omega)
    have kd : Below W3.heap.size W3 W3.drew := ⟨rfl, rfl, rfl, Nat.le_refl _, fun _ _ => rfl⟩
    obtain ⟨W4, hW4⟩ : ∃ W4, W4 = W3.drew.setChan c cap ((buf.extract 1 buf.size).push (mV y.m y.ka y.kc y.fa y.fc)) false (s + 1) (r + 1) false := ⟨_, rfl⟩
    have HW4 := Lib.hid hW4
    have o4 : Onl c w W4 := by rw [hW4]; exact (o3.trans (Onl.of_below (c := c) kd)).trans (Onl.chan _ _ _ _ _ _ _ _)
    have out4 : OutAt w.heap.size W4 q d cp := by rw [hW4]; exact (out3.below kd).chan c3
    have hHc : W2.heap.size ≠ c := fun e => by have := lt_of_heapV c2; omega
    have h4 : BM W4 W2.heap.size (.int .i64 y.m.id) (.string (S y.m.chan)) (.slice y.ka y.m.key.length y.kc) (.slice y.fa y.m.fields.length y.fc) := by rw [hW4]; exact (setChan_other hHc).trans h3
    have c4 : W4.heap[c]? = some (.chan cap ((buf.extract 1 buf.size).push (mV y.m y.ka y.kc y.fa y.fc)) false (s + 1) (r + 1) false) := by rw [hW4]; exact setChan_same _ _ _ _ _ _ _ _ (lt_of_heapV c3)
    have HO4 := Lib.hid o4
    have HOUT4 := Lib.hid out4
    have HC4 := Lib.hid c4
    have HMS4 : Hid (MsgsIn lo w ((buf.extract 1 buf.size).push (mV y.m y.ka y.kc y.fa y.fc)) (l.drop (k + 1) ++ l.take (k + 1))) := Lib.hid (by rw [← drop_take2 hlt, ← HYM.out]; exact HM1.out.push HTK.out HTF.out)
    have tk4 : TwR lo W4 y.ka y.m.key := TwR.onl HTK.out HNC.out o4
    have tf4 : TwR lo W4 y.fa y.m.fields := TwR.onl HTF.out HNC.out o4
    have hbk := HBK.out
    rw [← HYM.out] at hbk
    have HT := Lib.hid (mtwin_any y.m hbk.1 hbk.2.1 hbk.2.2 y.ka y.kc y.fa y.fc W4 (TwR.vals tk4) (TwR.vals tf4))
    have g0 := h4.c0
    have g1 := h4.c1
    have g2 := h4.c2
    have g3 := h4.c3
    have HW3 := Lib.hid hW3
    have HW2 := Lib.hid hW2
    have HCR := Lib.hid hc
    have HGD := Lib.hid hgd2
    have HPO := Lib.hid (show 0 < buf.size by omega)
    clear hW2 hW3 hW4 o2 o3 o4 out2 out3 out4 c2 c3 c4 kk h3 h4 b3 kd tk4 tf4 hbk hc hgd2 hbne hHc
    unfold mV at HT
    refine Ch.wpK_seq fun K hK => ?_
    go_wp2_with fail
    refine Ch.wpK_seq fun K hK => ?_
    go_wp2_with fail
    refine Ch.wpK_seq_k fun K7 hK7 => ?_
    refine Ch.wpK_block ?_
    refine Ch.wpK_seq_k fun K4 hK4 => ?_
    refine Ch.wpK_region ?_
    show Ch.opsK _ _ _ [0, 1, 2, 3, 4, 5, 6] _ _
    refine Ch.opsK_value (v := .pointer (some ⟨b, 0, none⟩)) (w1 := wr) rfl rfl (by simp [go_sem, execOp, Act.eval]) ?_
    refine Ch.opsK_value (v := .pointer (some ⟨b, 0, none⟩)) (w1 := wr) rfl rfl (by simp [go_sem, execOp, Act.eval, Act.put]) ?_
    refine Ch.opsK_value (v := .pointer (some ⟨b, 0, none⟩)) (w1 := wr) rfl rfl (by simp [go_sem, execOp, Act.eval, Act.put]) ?_
    refine Ch.opsK_value (v := .chan (some c)) (w1 := wr) rfl rfl (by simp [go_sem, execOp, Act.eval, Act.put, pb]) ?_
    refine Ch.opsK_comm (v := Conc.got false (buf.getD 0 undef) true) (w1 := wr) (w2 := W2) (cases := #[Conc.rcase c zM]) (blocking := true) (shape := .recv false) rfl rfl (by simp [go_sem, execOp, Conc.rcase, Act.eval, Act.put, zM]) (fun fr cs es hst => by rw [HW2.out]; exact Conc.step_lone_recv_buf false hst HCR.out HPO.out) ?_
    rw [show Conc.got false (buf.getD 0 undef) true = .agg #[.int .i64 y.m.id, .string (S y.m.chan), .slice y.ka y.m.key.length y.kc, .slice y.fa y.m.fields.length y.fc] from HGD.out]
    simp only [Act.put, List.setIfInBounds_toArray, List.set_cons_zero, List.set_cons_succ]
    refine Ch.opsK_rest 5 (by simp only [List.drop_succ_cons, List.drop_zero]; rfl) ?_
    go_wp2_with fail
    rw [← HW3.out]
    refine Ch.wpK_seq_k fun K5 hK5 => ?_
    refine Ch.wpK_region_any (by kernel_rfl) ?_
    suffices HK5 : K5 ⟨#[.pointer (some ⟨b, 0, none⟩), undef, .slice none 0 0, .slice q d.length cp, .pointer (some ⟨W2.heap.size, 0, none⟩), .pointer (some ⟨b, 0, none⟩), .int .i64 l.length, .int .i64 k, .bool true, .pointer (some ⟨b, 0, none⟩), .pointer (some ⟨b, 0, none⟩), .pointer (some ⟨b, 0, none⟩), .chan (some c), .agg #[.int .i64 y.m.id, .string (S y.m.chan), .slice y.ka y.m.key.length y.kc, .slice y.fa y.m.fields.length y.fc], .pointer (some ⟨b, 0, none⟩), .pointer (some ⟨b, 0, none⟩), .pointer (some ⟨b, 0, none⟩), .chan (some c), .agg #[.int .i64 y.m.id, .string (S y.m.chan), .slice y.ka y.m.key.length y.kc, .slice y.fa y.m.fields.length y.fc], x19, x20, x21, x22, x23, x24, x25], []⟩ W4 by
      refine Ch.anyK_two 0 4 (by decide +kernel) ?_ ?_
      · skip
        refine Ch.stepK_value (v := .pointer (some ⟨b, 0, none⟩)) (w1 := W3.drew) rfl rfl (by simp [go_sem, execOp, Act.eval, Act.put, mV, *]) ?_
        refine Ch.anyK_two 1 4 (by decide +kernel) ?_ ?_
        · skip
          refine Ch.stepK_value (v := .pointer (some ⟨b, 0, none⟩)) (w1 := W3.drew) rfl rfl (by simp [go_sem, execOp, Act.eval, Act.put, mV, *]) ?_
          refine Ch.anyK_two 2 4 (by decide +kernel) ?_ ?_
          · skip
            refine Ch.stepK_value (v := .pointer (some ⟨b, 0, none⟩)) (w1 := W3.drew) rfl rfl (by simp [go_sem, execOp, Act.eval, Act.put, mV, *]) ?_
            refine Ch.anyK_two 3 4 (by decide +kernel) ?_ ?_
            · skip
              have d0 := HPB.out
              refine Ch.stepK_value (v := .chan (some c)) (w1 := W3.drew) rfl rfl (by simp [go_sem, execOp, Act.eval, Act.put, mV, *]) ?_
              refine Ch.anyK_one 4 (by decide +kernel) ?_
              obtain ⟨n0, n1, n2, n3⟩ := HN.out
              refine Ch.stepK_value (v := .agg #[.int .i64 y.m.id, .string (S y.m.chan), .slice y.ka y.m.key.length y.kc, .slice y.fa y.m.fields.length y.fc]) (w1 := W3.drew) rfl rfl (by simp [go_sem, execOp, Act.eval, Act.put, mV, *]) ?_
              refine Ch.anyK_one 5 (by decide +kernel) ?_
              refine Ch.stepK_comm (v := undef) (w1 := W3.drew) (w2 := W4) (cases := #[Conc.scase c (mV y.m y.ka y.kc y.fa y.fc) (.tuple #[])]) (blocking := true) (shape := .send) rfl rfl (by simp [execOp, Conc.scase, Act.eval, Act.put, mV]) (fun fr cs es hst => by rw [HW4.out]; exact Conc.step_lone_send_room hst HC3.out HRM.out) ?_
              refine Ch.anyK_done (by decide +kernel) ?_ _
              simp only [Act.put, List.setIfInBounds_toArray, List.set_cons_zero, List.set_cons_succ]
              exact HK5
            · skip
              obtain ⟨n0, n1, n2, n3⟩ := HN.out
              refine Ch.stepK_value (v := .agg #[.int .i64 y.m.id, .string (S y.m.chan), .slice y.ka y.m.key.length y.kc, .slice y.fa y.m.fields.length y.fc]) (w1 := W3.drew) rfl rfl (by simp [go_sem, execOp, Act.eval, Act.put, mV, *]) ?_
              refine Ch.anyK_one 3 (by decide +kernel) ?_
              have d0 := HPB.out
              refine Ch.stepK_value (v := .chan (some c)) (w1 := W3.drew) rfl rfl (by simp [go_sem, execOp, Act.eval, Act.put, mV, *]) ?_
              refine Ch.anyK_one 5 (by decide +kernel) ?_
              refine Ch.stepK_comm (v := undef) (w1 := W3.drew) (w2 := W4) (cases := #[Conc.scase c (mV y.m y.ka y.kc y.fa y.fc) (.tuple #[])]) (blocking := true) (shape := .send) rfl rfl (by simp [execOp, Conc.scase, Act.eval, Act.put, mV]) (fun fr cs es hst => by rw [HW4.out]; exact Conc.step_lone_send_room hst HC3.out HRM.out) ?_
              refine Ch.anyK_done (by decide +kernel) ?_ _
              simp only [Act.put, List.setIfInBounds_toArray, List.set_cons_zero, List.set_cons_succ]
              exact HK5
          · skip
            obtain ⟨n0, n1, n2, n3⟩ := HN.out
            refine Ch.stepK_value (v := .agg #[.int .i64 y.m.id, .string (S y.m.chan), .slice y.ka y.m.key.length y.kc, .slice y.fa y.m.fields.length y.fc]) (w1 := W3.drew) rfl rfl (by simp [go_sem, execOp, Act.eval, Act.put, mV, *]) ?_
            refine Ch.anyK_one 2 (by decide +kernel) ?_
            refine Ch.stepK_value (v := .pointer (some ⟨b, 0, none⟩)) (w1 := W3.drew) rfl rfl (by simp [go_sem, execOp, Act.eval, Act.put, mV, *]) ?_
            refine Ch.anyK_one 3 (by decide +kernel) ?_
            have d0 := HPB.out
            refine Ch.stepK_value (v := .chan (some c)) (w1 := W3.drew) rfl rfl (by simp [go_sem, execOp, Act.eval, Act.put, mV, *]) ?_
            refine Ch.anyK_one 5 (by decide +kernel) ?_
            refine Ch.stepK_comm (v := undef) (w1 := W3.drew) (w2 := W4) (cases := #[Conc.scase c (mV y.m y.ka y.kc y.fa y.fc) (.tuple #[])]) (blocking := true) (shape := .send) rfl rfl (by simp [execOp, Conc.scase, Act.eval, Act.put, mV]) (fun fr cs es hst => by rw [HW4.out]; exact Conc.step_lone_send_room hst HC3.out HRM.out) ?_
            refine Ch.anyK_done (by decide +kernel) ?_ _
            simp only [Act.put, List.setIfInBounds_toArray, List.set_cons_zero, List.set_cons_succ]
            exact HK5
        · skip
          obtain ⟨n0, n1, n2, n3⟩ := HN.out
          refine Ch.stepK_value (v := .agg #[.int .i64 y.m.id, .string (S y.m.chan), .slice y.ka y.m.key.length y.kc, .slice y.fa y.m.fields.length y.fc]) (w1 := W3.drew) rfl rfl (by simp [go_sem, execOp, Act.eval, Act.put, mV, *]) ?_
          refine Ch.anyK_one 1 (by decide +kernel) ?_
          refine Ch.stepK_value (v := .pointer (some ⟨b, 0, none⟩)) (w1 := W3.drew) rfl rfl (by simp [go_sem, execOp, Act.eval, Act.put, mV, *]) ?_
          refine Ch.anyK_one 2 (by decide +kernel) ?_
          refine Ch.stepK_value (v := .pointer (some ⟨b, 0, none⟩)) (w1 := W3.drew) rfl rfl (by simp [go_sem, execOp, Act.eval, Act.put, mV, *]) ?_
          refine Ch.anyK_one 3 (by decide +kernel) ?_
          have d0 := HPB.out
          refine Ch.stepK_value (v := .chan (some c)) (w1 := W3.drew) rfl rfl (by simp [go_sem, execOp, Act.eval, Act.put, mV, *]) ?_
          refine Ch.anyK_one 5 (by decide +kernel) ?_
          refine Ch.stepK_comm (v := undef) (w1 := W3.drew) (w2 := W4) (cases := #[Conc.scase c (mV y.m y.ka y.kc y.fa y.fc) (.tuple #[])]) (blocking := true) (shape := .send) rfl rfl (by simp [execOp, Conc.scase, Act.eval, Act.put, mV]) (fun fr cs es hst => by rw [HW4.out]; exact Conc.step_lone_send_room hst HC3.out HRM.out) ?_
          refine Ch.anyK_done (by decide +kernel) ?_ _
          simp only [Act.put, List.setIfInBounds_toArray, List.set_cons_zero, List.set_cons_succ]
          exact HK5
      · skip
        obtain ⟨n0, n1, n2, n3⟩ := HN.out
        refine Ch.stepK_value (v := .agg #[.int .i64 y.m.id, .string (S y.m.chan), .slice y.ka y.m.key.length y.kc, .slice y.fa y.m.fields.length y.fc]) (w1 := W3.drew) rfl rfl (by simp [go_sem, execOp, Act.eval, Act.put, mV, *]) ?_
        refine Ch.anyK_one 0 (by decide +kernel) ?_
        refine Ch.stepK_value (v := .pointer (some ⟨b, 0, none⟩)) (w1 := W3.drew) rfl rfl (by simp [go_sem, execOp, Act.eval, Act.put, mV, *]) ?_
        refine Ch.anyK_one 1 (by decide +kernel) ?_
        refine Ch.stepK_value (v := .pointer (some ⟨b, 0, none⟩)) (w1 := W3.drew) rfl rfl (by simp [go_sem, execOp, Act.eval, Act.put, mV, *]) ?_
        refine Ch.anyK_one 2 (by decide +kernel) ?_
        refine Ch.stepK_value (v := .pointer (some ⟨b, 0, none⟩)) (w1 := W3.drew) rfl rfl (by simp [go_sem, execOp, Act.eval, Act.put, mV, *]) ?_
        refine Ch.anyK_one 3 (by decide +kernel) ?_
        have d0 := HPB.out
        refine Ch.stepK_value (v := .chan (some c)) (w1 := W3.drew) rfl rfl (by simp [go_sem, execOp, Act.eval, Act.put, mV, *]) ?_
        refine Ch.anyK_one 5 (by decide +kernel) ?_
        refine Ch.stepK_comm (v := undef) (w1 := W3.drew) (w2 := W4) (cases := #[Conc.scase c (mV y.m y.ka y.kc y.fa y.fc) (.tuple #[])]) (blocking := true) (shape := .send) rfl rfl (by simp [execOp, Conc.scase, Act.eval, Act.put, mV]) (fun fr cs es hst => by rw [HW4.out]; exact Conc.step_lone_send_room hst HC3.out HRM.out) ?_
        refine Ch.anyK_done (by decide +kernel) ?_ _
        simp only [Act.put, List.setIfInBounds_toArray, List.set_cons_zero, List.set_cons_succ]
        exact HK5
    refine hK5 _ _ ?_
    clear hK5 HW4 HW3 HW2
    refine Ch.wpK_of ?_
    go_wp2_with fail
    refine HT.out.mono ?_
    rintro e w5 ⟨⟨ka5, kc5, fa5, fc5, rfl, tk5, tf5⟩, b5⟩
    have o5 := HO4.out.trans (Onl.of_below (c := c) b5)
    have c5 := (b5.block c (lt_of_heapV HC4.out)).trans HC4.out
    obtain ⟨q6, cp6, w6, hrun, out6, b6, k6⟩ := (HOUT4.out.below b5).app o5.size (by omega) ⟨y.m, ka5, kc5, fa5, fc5⟩ (TwR.mono tk5 HO4.out.size) (TwR.mono tf5 HO4.out.size) w5.heap.size rfl
    have HO6 : Hid (Onl c w w6) := Lib.hid ⟨b6.os.trans o5.os, b6.tape.trans o5.tape, b6.output.trans o5.output, Nat.le_trans o5.size b6.size, fun j hj hne => (b6.block j hj).trans (o5.block j hj hne)⟩
    have HC6 := Lib.hid ((k6 c (lt_of_heapV c5) (not_chan c5 _)).trans c5)
    have HRUN := Lib.hid hrun
    have HOUT6 := Lib.hid out6
    clear g0 g1 g2 g3 o5 c5 b5 b6 k6 hrun out6 tk5 tf5
    go_wp2_with (at_builtin; refine wpList_app rfl _ _ _ _ rfl rfl rfl _ _ HRUN.out ?_)
    refine Ch.wpK_of ?_
    go_wp2_with fail
    obtain ⟨D6, hD6⟩ : ∃ D6 : List MK, D6 = d ++ [⟨y.m, ka5, kc5, fa5, fc5⟩] := ⟨_, rfl⟩
    have hl6 : D6.length = d.length + 1 := by rw [hD6]; simp
    refine ⟨n - 1, by omega, k + 1, q6, D6, cp6, _, _, _, _, _, _, _, _, _, _, _, _, _, _, _, _, _, _, _, _, _, rfl, by rw [hl6], by simp, by omega, ?_, ?_, HO6.out, ⟨_, _, _, HC6.out, HMS4.out⟩⟩
    · rw [hD6, List.map_append, HD.out, List.take_succ_eq_append_getElem hlt, ← HYM.out]; rfl
    · rw [hD6]; exact HOUT6.out
  · have hke : k = l.length := by omega
    have hki : ¬ (k : Int) < (l.length : Int) := by omega
    have HROT2 := Lib.hid hrot
    clear hrot hout honl hd
    refine Ch.wpK_seq fun K hK => ?_
    go_wp2_with fail
    refine Ch.wpK_seq fun K hK => ?_
    go_wp2_with fail
    refine Ch.wpK_of ?_
    go_wp2_with fail
    rw [HP.out]
    refine ⟨⟨⟨q, d, cp, rfl, by rw [HD.out, hke, List.take_length], HOUT.out⟩, fun w3 h3 => ?_⟩, HONL.out⟩
    obtain ⟨buf, s, r, hc, hms⟩ := HROT2.out
    rw [hke, List.drop_length, List.nil_append, List.take_length] at hms
    have hlt := HH.out.lt
    have hbne : b ≠ c := fun e => HNC.out 68 (e ▸ ⟨_, HH.out.box⟩)
    exact ⟨(h3 b hlt.1).trans ((HONL.out.block b hlt.1 hbne).trans HH.out.box), ⟨buf, s, r, (h3 c hlt.2).trans hc, hms.agree fun j t _ _ hb => (h3 j hb.lt).trans (HONL.out.block j hb.lt (fun e => HNC.out t (e ▸ hb)))⟩, HH.out.room, HH.out.cap_le, HH.out.gb, HH.out.gc⟩


end Go.Proofs.Ytfkmpegbidojoaa.Md
