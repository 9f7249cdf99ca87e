/-
  Offer to a box of messages.
-/
import Derived.Test.YtfkmpegbidojoaaMdLen
namespace Go.Proofs.Ytfkmpegbidojoaa.Md
open Go.RowKit
open Va
set_option linter.unusedVariables false
set_option linter.unusedSimpArgs false

theorem setChan_same (w : World) (c cap : Nat) (buf : Array Value) (cl : Bool) (s r : Nat) (tm : Bool) (h : c < w.heap.size) : (w.setChan c cap buf cl s r tm).heap[c]? = some (.chan cap buf cl s r tm) := Conc.heap_setChan w c cap buf cl s r tm h
theorem setChan_other {w : World} {c cap : Nat} {buf : Array Value} {cl : Bool} {s r : Nat} {tm : Bool} {k : Nat} (h : k ≠ c) : (w.setChan c cap buf cl s r tm).heap[k]? = w.heap[k]? := by
  simp only [World.setChan]; rw [Array.getElem?_setIfInBounds_ne (by omega)]
theorem MsgsIn.chan {lo : Nat} {w : World} {buf B : Array Value} {l : List MailP} (h : MsgsIn lo w B l) {c cap cap2 : Nat} {cl cl2 : Bool} {s r s2 r2 : Nat} {tm tm2 : Bool} (hc : w.heap[c]? = some (.chan cap buf cl s r tm)) (b2 : Array Value) : MsgsIn lo (w.setChan c cap2 b2 cl2 s2 r2 tm2) B l :=
  h.agree fun k t _ _ hb => setChan_other (fun e => not_chan hc t (e ▸ hb))
theorem MsgsIn.push {lo : Nat} {w : World} {buf : Array Value} {l : List MailP} {m : MailP} {ka fa : Option Addr} {kc fc : Nat} (h : MsgsIn lo w buf l) (hk : TwR lo w ka m.key) (hf : TwR lo w fa m.fields) : MsgsIn lo w (buf.push (mV m ka kc fa fc)) (l ++ [m]) := by
  refine ⟨by simp [h.1], fun i x hi => ?_⟩
  by_cases hil : i < l.length
  · rw [List.getElem?_append_left hil] at hi
    obtain ⟨a1, a2, a3, a4, e, q⟩ := h.2 i x hi
    exact ⟨a1, a2, a3, a4, by rw [Array.getElem?_push, if_neg (by rw [h.1]; omega)]; exact e, q⟩
  · rw [List.getElem?_append_right (by omega)] at hi
    have hi0 : i - l.length = 0 := by
      rcases Nat.eq_zero_or_pos (i - l.length) with h0 | h0
      · exact h0
      · rw [List.getElem?_eq_none (by simp; omega)] at hi; cases hi
    rw [hi0] at hi
    obtain rfl : m = x := by simpa using hi
    exact ⟨ka, kc, fa, fc, by rw [Array.getElem?_push, if_pos (by rw [h.1]; omega)], hk, hf⟩
theorem MsgsIn.tail {lo : Nat} {w : World} {buf : Array Value} {m : MailP} {l : List MailP} (h : MsgsIn lo w buf (m :: l)) : MsgsIn lo w (buf.extract 1 buf.size) l := by
  refine ⟨by simp [h.1], fun i x hi => ?_⟩
  obtain ⟨a1, a2, a3, a4, e, q⟩ := h.2 (i + 1) x (by simpa using hi)
  refine ⟨a1, a2, a3, a4, ?_, q⟩
  have hil := (List.getElem?_eq_some_iff.1 hi).1
  have hs := h.1
  simp only [List.length_cons] at hs
  rw [Array.getElem?_extract, if_pos (by omega), Nat.add_comm]
  exact e
/-- The box behind what was done to its channel. -/
theorem BoxAt.turn {lo b c cap : Nat} {w : World} {l : List MailP} (h : BoxAt lo w b c cap l) {l' : List MailP} {buf : Array Value} (hm : MsgsIn lo w buf l') (hr : l'.length ≤ cap) (s r : Nat) : BoxAt lo (w.setChan c cap buf false s r false) b c cap l' := by
  obtain ⟨B, s0, r0, hc, _⟩ := h.chan
  have hne : b ≠ c := fun e => by have := h.box; rw [e, hc] at this; cases this
  exact ⟨(setChan_other hne).trans h.box, ⟨buf, s, r, setChan_same _ _ _ _ _ _ _ _ h.lt.2, hm.chan hc buf⟩, hr, h.cap_le, h.gb, h.gc⟩

def zM : Value := .agg #[.int .i64 0, .string ⟨#[]⟩, .slice none 0 0, .slice none 0 0]
set_option maxRecDepth 100000 in
set_option maxHeartbeats 4000000 in
theorem offer_any {lo b c cap : Nat} {w : World} {l : List MailP} (h : BoxAt lo w b c cap l) (m : MailP) (hm : MBig m) (hk : m.key.length ≤ 1000) (hf : m.fields.length ≤ 1000) (ka : Option Addr) (kc : Nat) (fa : Option Addr) (fc : Nat) (hka : ValsAt w ka m.key) (hfa : ValsAt w fa m.fields) :
    Calls Try.prog 15 #[.pointer (some ⟨b, 0, none⟩), mV m ka kc fa fc] w fun e w' => (e = .returned (.bool (decide (l.length < cap))) ∧ BoxAt lo w' b c cap (if l.length < cap then l ++ [m] else l)) ∧ Onl c w w' := by
  have h1 : (w.alloc (.cells #[.int .i64 m.id, .string (S m.chan), .slice ka m.key.length kc, .slice fa m.fields.length fc] 30)).heap[w.heap.size]? = _ := heap_alloc_new w _
  have kk := (Below.refl w.heap.size w).alloc (Nat.le_refl _) (.cells #[.int .i64 m.id, .string (S m.chan), .slice ka m.key.length kc, .slice fa m.fields.length fc] 30)
  obtain ⟨W1, hW1⟩ : ∃ W1, W1 = w.alloc (.cells #[.int .i64 m.id, .string (S m.chan), .slice ka m.key.length kc, .slice fa m.fields.length fc] 30) := ⟨_, rfl⟩
  rw [← hW1] at h1 kk
  have hb1 := h.below kk
  have e1 : BM W1 w.heap.size _ _ _ _ := h1
  have p0 := e1.c0
  have p1 := e1.c1
  have p2 := e1.c2
  have p3 := e1.c3
  have pb := hb1.c0
  have HT := Lib.hid (mtwin_any m hm hk hf ka kc fa fc W1 (hka.below kk) (hfa.below kk))
  have HO := Lib.hid (Onl.of_below (c := c) kk)
  have HB := Lib.hid hb1
  have HW := Lib.hid hW1
  have HLO := Lib.hid (Nat.le_trans h.gb (Nat.le_of_lt hb1.lt.1))
  unfold mV at HT ⊢
  obtain ⟨OK, LL, hcase⟩ : ∃ (OK : Bool) (LL : List MailP), OK = decide (l.length < cap) ∧ LL = if l.length < cap then l ++ [m] else l := ⟨_, _, rfl, rfl⟩
  rw [← hcase.1, ← hcase.2]
  have HCASE := Lib.hid hcase
  clear hb1 e1 h1 kk h hka hfa hW1 hcase
  refine Ch.calls_of_wpK Try.func15 rfl ?_
  simp only [Try.ntmps15, List.size_toArray, List.length_cons, List.length_nil, Nat.reduceAdd, Nat.reduceSub, Array.replicate_succ, Array.replicate_zero, List.push_toArray, List.append_toArray, List.nil_append, List.cons_append]
  refine Ch.wpK_seq fun K hK => ?_
  go_wp2_with fail
  rw [← HW.out]
  refine Ch.wpK_seq fun K hK => ?_
  go_wp2_with fail
  refine Ch.wpK_seq fun K hK => ?_
  go_wp2_with fail
  refine HT.out.mono ?_
  rintro e w2 ⟨⟨ka2, kc2, fa2, fc2, rfl, tk, tf⟩, b2⟩
  have TK := Lib.hid (TwR.mono tk HLO.out)
  have TF := Lib.hid (TwR.mono tf HLO.out)
  have B2 := Lib.hid (HB.out.below b2)
  have O2 := Lib.hid (HO.out.trans (Onl.of_below (c := c) b2))
  clear tk tf b2 pb p0 p1 p2 p3
  go_wp2_with fail
  obtain ⟨buf, s, r, hc, hms⟩ := B2.out.chan
  have HMS := Lib.hid hms
  have hsz := hms.1
  clear hms
  refine Ch.wpK_seq_k fun K hK => ?_
  refine Ch.wpK_region ?_
  show Ch.opsK _ _ _ [0, 1, 2] _ _
  by_cases hlt : l.length < cap
  · obtain ⟨rfl, rfl⟩ : OK = true ∧ LL = l ++ [m] := by have := HCASE.out; rw [if_pos hlt] at this; simpa [hlt] using this
    have BB := Lib.hid (B2.out.turn (HMS.out.push (kc := kc2) (fc := fc2) TK.out TF.out) (by rw [List.length_append]; show l.length + 1 ≤ cap; omega) (s + 1) r)
    have OO := Lib.hid (O2.out.trans (Onl.chan w2 c cap (buf.push (mV m ka2 kc2 fa2 fc2)) false (s + 1) r false))
    refine Ch.opsK_comm (v := .tuple #[goInt 0, .bool false]) (w1 := w2) (w2 := w2.setChan c cap (buf.push (mV m ka2 kc2 fa2 fc2)) false (s + 1) r false) (cases := #[Conc.scase c (mV m ka2 kc2 fa2 fc2) zM]) (blocking := false) (shape := .select) rfl rfl (by simp [go_sem, execOp, Conc.scase, Act.eval, mV, zM]) (fun fr cs es hst => Conc.step_lone_select_send_room hst hc (by omega)) ?_
    generalize w2.setChan c cap (buf.push (mV m ka2 kc2 fa2 fc2)) false (s + 1) r false = W3 at BB OO ⊢
    refine Ch.opsK_value (v := .int .i64 0) (w1 := W3) rfl rfl (by simp [go_sem, execOp, Act.eval]) ?_
    refine Ch.opsK_value (v := .bool true) (w1 := W3) rfl rfl (by simp [go_sem, execOp, Act.eval, Act.put]) ?_
    refine Ch.opsK_nil ?_
    refine hK _ _ ?_
    refine Ch.wpK_of ?_
    go_wp2_with fail
    go_ret
    exact ⟨⟨rfl, BB.out⟩, OO.out⟩
  · obtain ⟨rfl, rfl⟩ : OK = false ∧ LL = l := by have := HCASE.out; rw [if_neg hlt] at this; simpa [hlt] using this
    refine Ch.opsK_comm (v := .tuple #[goInt (-1), .bool false]) (w1 := w2) (w2 := w2) (cases := #[Conc.scase c (mV m ka2 kc2 fa2 fc2) zM]) (blocking := false) (shape := .select) rfl rfl (by simp [go_sem, execOp, Conc.scase, Act.eval, mV, zM]) (fun fr cs es hst => Conc.step_lone_select_send_full hst hc (by omega)) ?_
    refine Ch.opsK_value (v := .int .i64 (-1)) (w1 := w2) rfl rfl (by simp [go_sem, execOp, Act.eval]) ?_
    refine Ch.opsK_value (v := .bool false) (w1 := w2) rfl rfl (by simp [go_sem, execOp, Act.eval, Act.put]) ?_
    refine Ch.opsK_nil ?_
    refine hK _ _ ?_
    refine Ch.wpK_of ?_
    go_wp2_with fail
    go_ret
    exact ⟨⟨rfl, B2.out⟩, O2.out⟩
theorem offer_nil (v0 v1 v2 v3 : Value) (w : World) : Calls Try.prog 15 #[.pointer none, .agg #[v0, v1, v2, v3]] w fun e w' => e = .returned (.bool false) ∧ Below w.heap.size w w' := by
  have HB := Lib.hid ((Below.refl w.heap.size w).alloc (Nat.le_refl _) (.cells #[v0, v1, v2, v3] 30))
  go_enter Try.func15, Try.ntmps15
  go_wp2_with fail
  go_ret
  exact ⟨rfl, HB.out⟩

end Go.Proofs.Ytfkmpegbidojoaa.Md
