/-
  PutValue, PutMail, and so on: what is kept, as bytes.
-/
import Derived.Test.YtkdhchdhgmaolaaZCdSeq
namespace Go.Proofs.Ytkdhchdhgmaolaa.Cd
open Go.RowKit
open Pk Va
set_option linter.unusedVariables false
set_option linter.unusedSimpArgs false

/-- What a Put answers. -/
def putR (x : List UInt8) (ok : Bool) : Value := .tuple #[.string (S (if ok = true then x else [])), .int .i64 (if ok = true then 0 else 4)]
theorem wr_new (w : World) (o : Obj) : Wr w.heap.size (w.heap.size + 1) [] false ((w.alloc o).alloc (.cells #[.pointer none, .slice none 0 0, .bool false] 152)) := by
  refine ⟨Nat.le_succ _, .pointer none, .slice none 0 0, .inl rfl, ?_, World.ownsRowF_nil _ _ _ _, by simp [Value.ownBlock]⟩
  have := heap_alloc_new (w.alloc o) (.cells #[.pointer none, .slice none 0 0, .bool false] 152)
  rwa [show (w.alloc o).heap.size = w.heap.size + 1 by simp] at this
theorem valB_ne (v : V) : valB v ≠ [] := by simp [valB]
theorem app_ne {a b : List UInt8} (h : a ≠ []) : a ++ b ≠ [] := by simp [h]
theorem numB_ne (n : Int) : numB n ≠ [] := enc_ne _
theorem mailB_ne (m : MailP) : mailB m ≠ [] := app_ne (app_ne (app_ne (numB_ne _)))
theorem itemB_ne (x : ItemP) : itemB x ≠ [] := app_ne (app_ne (app_ne (app_ne (app_ne (app_ne (app_ne (app_ne (numB_ne _))))))))
theorem deadB_ne (x : DeadP) : deadB x ≠ [] := app_ne (app_ne (numB_ne _))
theorem eventB_ne (x : EventP) : eventB x ≠ [] := app_ne (app_ne (app_ne (app_ne (app_ne (app_ne (numB_ne _))))))
theorem subB_ne (x : SubP) : subB x ≠ [] := app_ne (app_ne (numB_ne _))

set_option maxRecDepth 100000 in
set_option maxHeartbeats 4000000 in
theorem put_value (v : V) (ok : VIn64 v) (a : Option Addr) (cap : Nat) (w : World) (hx : NumsAt w a v.list) :
    Calls Try.prog 55 #[.agg #[.int .i64 v.kind, .int .i64 v.num, .string (S v.text), .slice a v.list.length cap], .func (Fn.func 56) #[] #[]] w fun e w' => e = .returned (putR (valB v) (rightB v)) ∧ Below w.heap.size w w' := by
  have hb1 := (Below.refl w.heap.size w).alloc (Nat.le_refl _) (.cells #[.int .i64 v.kind, .int .i64 v.num, .string (S v.text), .slice a v.list.length cap] 25)
  have hb2 := hb1.alloc hb1.size (.cells #[.pointer none, .slice none 0 0, .bool false] 152)
  have hwr := wr_new w (.cells #[.int .i64 v.kind, .int .i64 v.num, .string (S v.text), .slice a v.list.length cap] 25)
  have HC := Lib.hid (value_w w (w.heap.size + 1) [] false v ok a cap hx _ hb2 hwr (by simp))
  have HB := Lib.hid hb2
  have HNE := Lib.hid (valB_ne v)
  clear hb1 hb2 hwr
  generalize valB v = X at *
  generalize rightB v = OK at *
  go_enter Try.func55, Try.ntmps55
  go_wp2_with fail
  refine HC.out.mono ?_
  rintro e w3 ⟨rfl, l3, b3, t3, q3⟩
  obtain ⟨rfl, hl3⟩ := q3.end_
  have hmk := t3.wr.mark
  have T3 := Lib.hid t3
  clear t3 q3
  cases OK with
  | false =>
    have HB4 := Lib.hid (HB.out.trans T3.out.below)
    simp only [Bool.not_false] at hmk
    go_wp2_with fail
    go_ret2
    exact ⟨rfl, HB4.out⟩
  | true =>
    have hx := hl3 rfl
    subst hx
    have HS := Lib.hid (String_w w.heap.size (w.heap.size + 1) l3 (!true) HNE.out w3 T3.out.wr)
    have HB4 := Lib.hid (HB.out.trans T3.out.below)
    simp only [Bool.not_true] at hmk
    clear hl3
    go_wp2_with fail
    refine HS.out.mono ?_
    rintro e w4 ⟨rfl, k4⟩
    have HB5 := Lib.hid (HB4.out.trans k4)
    clear k4
    go_wp2_with fail
    go_ret2
    exact ⟨rfl, HB5.out⟩

set_option maxRecDepth 100000 in
theorem PutValue_any (v : V) (ok : VIn64 v) (a : Option Addr) (cap : Nat) (w : World) (hx : NumsAt w a v.list) :
    Calls Try.prog 26 #[.agg #[.int .i64 v.kind, .int .i64 v.num, .string (S v.text), .slice a v.list.length cap]] w fun e w' => e = .returned (putR (valB v) (rightB v)) ∧ Below w.heap.size w w' := by
  have hb1 := (Below.refl w.heap.size w).alloc (Nat.le_refl _) (.cells #[.int .i64 v.kind, .int .i64 v.num, .string (S v.text), .slice a v.list.length cap] 25)
  have HC := Lib.hid (put_value v ok a cap _ (hx.below hb1))
  have HB := Lib.hid hb1
  clear hb1 hx ok
  unfold putR at *
  generalize S (if (rightB v) = true then valB v else []) = X at *
  generalize (if (rightB v) = true then (0 : Int) else 4) = E at *
  go_enter Try.func26, Try.ntmps26
  go_wp2_with fail
  refine HC.out.mono ?_
  rintro e w3 ⟨rfl, k3⟩
  have HB3 := Lib.hid (HB.out.trans (k3.mono HB.out.size))
  clear k3
  go_wp2_with fail
  go_ret2
  exact ⟨rfl, HB3.out⟩

set_option maxRecDepth 100000 in
set_option maxHeartbeats 4000000 in
theorem put_mail (m : MailP) (hm : MIn m) (ka : Option Addr) (kc : Nat) (fa : Option Addr) (fc : Nat) (w : World) (hka : ValsAt w ka m.key) (hfa : ValsAt w fa m.fields) :
    Calls Try.prog 61 #[.agg #[.int .i64 m.id, .string (S m.chan), .slice ka m.key.length kc, .slice fa m.fields.length fc], .func (Fn.func 62) #[] #[]] w fun e w' => e = .returned (putR (mailB m) (mailOk m)) ∧ Below w.heap.size w w' := by
  have hb1 := (Below.refl w.heap.size w).alloc (Nat.le_refl _) (.cells #[.int .i64 m.id, .string (S m.chan), .slice ka m.key.length kc, .slice fa m.fields.length fc] 33)
  have hb2 := hb1.alloc hb1.size (.cells #[.pointer none, .slice none 0 0, .bool false] 152)
  have hwr := wr_new w (.cells #[.int .i64 m.id, .string (S m.chan), .slice ka m.key.length kc, .slice fa m.fields.length fc] 33)
  have HC := Lib.hid (mail_w w (w.heap.size + 1) [] false m hm ka kc fa fc hka hfa _ hb2 hwr (by simp))
  have HB := Lib.hid hb2
  have HNE := Lib.hid (mailB_ne m)
  clear hb1 hb2 hwr
  generalize mailB m = X at *
  generalize mailOk m = OK at *
  go_enter Try.func61, Try.ntmps61
  go_wp2_with fail
  refine HC.out.mono ?_
  rintro e w3 ⟨rfl, l3, b3, t3, q3⟩
  obtain ⟨rfl, hl3⟩ := q3.end_
  have hmk := t3.wr.mark
  have T3 := Lib.hid t3
  clear t3 q3
  cases OK with
  | false =>
    have HB4 := Lib.hid (HB.out.trans T3.out.below)
    simp only [Bool.not_false] at hmk
    go_wp2_with fail
    go_ret2
    exact ⟨rfl, HB4.out⟩
  | true =>
    have hx := hl3 rfl
    subst hx
    have HS := Lib.hid (String_w w.heap.size (w.heap.size + 1) l3 (!true) HNE.out w3 T3.out.wr)
    have HB4 := Lib.hid (HB.out.trans T3.out.below)
    simp only [Bool.not_true] at hmk
    clear hl3
    go_wp2_with fail
    refine HS.out.mono ?_
    rintro e w4 ⟨rfl, k4⟩
    have HB5 := Lib.hid (HB4.out.trans k4)
    clear k4
    go_wp2_with fail
    go_ret2
    exact ⟨rfl, HB5.out⟩

set_option maxRecDepth 100000 in
theorem PutMail_any (m : MailP) (hm : MIn m) (ka : Option Addr) (kc : Nat) (fa : Option Addr) (fc : Nat) (w : World) (hka : ValsAt w ka m.key) (hfa : ValsAt w fa m.fields) :
    Calls Try.prog 29 #[.agg #[.int .i64 m.id, .string (S m.chan), .slice ka m.key.length kc, .slice fa m.fields.length fc]] w fun e w' => e = .returned (putR (mailB m) (mailOk m)) ∧ Below w.heap.size w w' := by
  have hb1 := (Below.refl w.heap.size w).alloc (Nat.le_refl _) (.cells #[.int .i64 m.id, .string (S m.chan), .slice ka m.key.length kc, .slice fa m.fields.length fc] 33)
  have HC := Lib.hid (put_mail m hm ka kc fa fc _ (hka.below hb1) (hfa.below hb1))
  have HB := Lib.hid hb1
  clear hb1 hka hfa hm
  unfold putR at *
  generalize S (if (mailOk m) = true then mailB m else []) = X at *
  generalize (if (mailOk m) = true then (0 : Int) else 4) = E at *
  go_enter Try.func29, Try.ntmps29
  go_wp2_with fail
  refine HC.out.mono ?_
  rintro e w3 ⟨rfl, k3⟩
  have HB3 := Lib.hid (HB.out.trans (k3.mono HB.out.size))
  clear k3
  go_wp2_with fail
  go_ret2
  exact ⟨rfl, HB3.out⟩

set_option maxRecDepth 100000 in
set_option maxHeartbeats 4000000 in
theorem put_item (x : ItemP) (hi : IIn x) (aa : Option Addr) (ac : Nat) (ca : Option Addr) (cc : Nat) (ba : Option Addr) (bc : Nat) (w : World) (hat : ValsAt w aa x.attrs) (hct : NumsAt w ca x.counts) (hbt : MailsAt w ba x.box) :
    Calls Try.prog 57 #[.agg #[.int .i64 x.id, .string (S x.typ), .string (S x.state), .int .i64 x.since, .slice aa x.attrs.length ac, .slice ca x.counts.length cc, .slice ba x.box.length bc], .func (Fn.func 58) #[] #[]] w fun e w' => e = .returned (putR (itemB x) (itemOk x)) ∧ Below w.heap.size w w' := by
  have hb1 := (Below.refl w.heap.size w).alloc (Nat.le_refl _) (.cells #[.int .i64 x.id, .string (S x.typ), .string (S x.state), .int .i64 x.since, .slice aa x.attrs.length ac, .slice ca x.counts.length cc, .slice ba x.box.length bc] 41)
  have hb2 := hb1.alloc hb1.size (.cells #[.pointer none, .slice none 0 0, .bool false] 152)
  have hwr := wr_new w (.cells #[.int .i64 x.id, .string (S x.typ), .string (S x.state), .int .i64 x.since, .slice aa x.attrs.length ac, .slice ca x.counts.length cc, .slice ba x.box.length bc] 41)
  have HC := Lib.hid (item_w w (w.heap.size + 1) [] false x hi aa ac ca cc ba bc hat hct hbt _ hb2 hwr (by simp))
  have HB := Lib.hid hb2
  have HNE := Lib.hid (itemB_ne x)
  clear hb1 hb2 hwr
  generalize itemB x = X at *
  generalize itemOk x = OK at *
  go_enter Try.func57, Try.ntmps57
  go_wp2_with fail
  refine HC.out.mono ?_
  rintro e w3 ⟨rfl, l3, b3, t3, q3⟩
  obtain ⟨rfl, hl3⟩ := q3.end_
  have hmk := t3.wr.mark
  have T3 := Lib.hid t3
  clear t3 q3
  cases OK with
  | false =>
    have HB4 := Lib.hid (HB.out.trans T3.out.below)
    simp only [Bool.not_false] at hmk
    go_wp2_with fail
    go_ret2
    exact ⟨rfl, HB4.out⟩
  | true =>
    have hx := hl3 rfl
    subst hx
    have HS := Lib.hid (String_w w.heap.size (w.heap.size + 1) l3 (!true) HNE.out w3 T3.out.wr)
    have HB4 := Lib.hid (HB.out.trans T3.out.below)
    simp only [Bool.not_true] at hmk
    clear hl3
    go_wp2_with fail
    refine HS.out.mono ?_
    rintro e w4 ⟨rfl, k4⟩
    have HB5 := Lib.hid (HB4.out.trans k4)
    clear k4
    go_wp2_with fail
    go_ret2
    exact ⟨rfl, HB5.out⟩

set_option maxRecDepth 100000 in
theorem PutItem_any (x : ItemP) (hi : IIn x) (aa : Option Addr) (ac : Nat) (ca : Option Addr) (cc : Nat) (ba : Option Addr) (bc : Nat) (w : World) (hat : ValsAt w aa x.attrs) (hct : NumsAt w ca x.counts) (hbt : MailsAt w ba x.box) :
    Calls Try.prog 27 #[.agg #[.int .i64 x.id, .string (S x.typ), .string (S x.state), .int .i64 x.since, .slice aa x.attrs.length ac, .slice ca x.counts.length cc, .slice ba x.box.length bc]] w fun e w' => e = .returned (putR (itemB x) (itemOk x)) ∧ Below w.heap.size w w' := by
  have hb1 := (Below.refl w.heap.size w).alloc (Nat.le_refl _) (.cells #[.int .i64 x.id, .string (S x.typ), .string (S x.state), .int .i64 x.since, .slice aa x.attrs.length ac, .slice ca x.counts.length cc, .slice ba x.box.length bc] 41)
  have HC := Lib.hid (put_item x hi aa ac ca cc ba bc _ (hat.below hb1) (hct.below hb1) (hbt.below hb1))
  have HB := Lib.hid hb1
  clear hb1 hat hct hbt hi
  unfold putR at *
  generalize S (if (itemOk x) = true then itemB x else []) = X at *
  generalize (if (itemOk x) = true then (0 : Int) else 4) = E at *
  go_enter Try.func27, Try.ntmps27
  go_wp2_with fail
  refine HC.out.mono ?_
  rintro e w3 ⟨rfl, k3⟩
  have HB3 := Lib.hid (HB.out.trans (k3.mono HB.out.size))
  clear k3
  go_wp2_with fail
  go_ret2
  exact ⟨rfl, HB3.out⟩

set_option maxRecDepth 100000 in
set_option maxHeartbeats 4000000 in
theorem put_dead (x : DeadP) (hn : Num64 x.n) (hr : Num64 x.reason) (hm : MIn x.mail) (ka : Option Addr) (kc : Nat) (fa : Option Addr) (fc : Nat) (w : World) (hka : ValsAt w ka x.mail.key) (hfa : ValsAt w fa x.mail.fields) :
    Calls Try.prog 59 #[.agg #[.int .i64 x.n, .int .i64 x.mail.id, .string (S x.mail.chan), .slice ka x.mail.key.length kc, .slice fa x.mail.fields.length fc, .int .i64 x.reason], .func (Fn.func 60) #[] #[]] w fun e w' => e = .returned (putR (deadB x) (deadOk x)) ∧ Below w.heap.size w w' := by
  have hb1 := (Below.refl w.heap.size w).alloc (Nat.le_refl _) (.cells #[.int .i64 x.n, .int .i64 x.mail.id, .string (S x.mail.chan), .slice ka x.mail.key.length kc, .slice fa x.mail.fields.length fc, .int .i64 x.reason] 51)
  have hb2 := hb1.alloc hb1.size (.cells #[.pointer none, .slice none 0 0, .bool false] 152)
  have hwr := wr_new w (.cells #[.int .i64 x.n, .int .i64 x.mail.id, .string (S x.mail.chan), .slice ka x.mail.key.length kc, .slice fa x.mail.fields.length fc, .int .i64 x.reason] 51)
  have HC := Lib.hid (dead_w w (w.heap.size + 1) [] false x hn hr hm ka kc fa fc hka hfa _ hb2 hwr (by simp))
  have HB := Lib.hid hb2
  have HNE := Lib.hid (deadB_ne x)
  clear hb1 hb2 hwr
  generalize deadB x = X at *
  generalize deadOk x = OK at *
  go_enter Try.func59, Try.ntmps59
  go_wp2_with fail
  refine HC.out.mono ?_
  rintro e w3 ⟨rfl, l3, b3, t3, q3⟩
  obtain ⟨rfl, hl3⟩ := q3.end_
  have hmk := t3.wr.mark
  have T3 := Lib.hid t3
  clear t3 q3
  cases OK with
  | false =>
    have HB4 := Lib.hid (HB.out.trans T3.out.below)
    simp only [Bool.not_false] at hmk
    go_wp2_with fail
    go_ret2
    exact ⟨rfl, HB4.out⟩
  | true =>
    have hx := hl3 rfl
    subst hx
    have HS := Lib.hid (String_w w.heap.size (w.heap.size + 1) l3 (!true) HNE.out w3 T3.out.wr)
    have HB4 := Lib.hid (HB.out.trans T3.out.below)
    simp only [Bool.not_true] at hmk
    clear hl3
    go_wp2_with fail
    refine HS.out.mono ?_
    rintro e w4 ⟨rfl, k4⟩
    have HB5 := Lib.hid (HB4.out.trans k4)
    clear k4
    go_wp2_with fail
    go_ret2
    exact ⟨rfl, HB5.out⟩

set_option maxRecDepth 100000 in
theorem PutDead_any (x : DeadP) (hn : Num64 x.n) (hr : Num64 x.reason) (hm : MIn x.mail) (ka : Option Addr) (kc : Nat) (fa : Option Addr) (fc : Nat) (w : World) (hka : ValsAt w ka x.mail.key) (hfa : ValsAt w fa x.mail.fields) :
    Calls Try.prog 28 #[.agg #[.int .i64 x.n, .int .i64 x.mail.id, .string (S x.mail.chan), .slice ka x.mail.key.length kc, .slice fa x.mail.fields.length fc, .int .i64 x.reason]] w fun e w' => e = .returned (putR (deadB x) (deadOk x)) ∧ Below w.heap.size w w' := by
  have hb1 := (Below.refl w.heap.size w).alloc (Nat.le_refl _) (.cells #[.int .i64 x.n, .int .i64 x.mail.id, .string (S x.mail.chan), .slice ka x.mail.key.length kc, .slice fa x.mail.fields.length fc, .int .i64 x.reason] 51)
  have HC := Lib.hid (put_dead x hn hr hm ka kc fa fc _ (hka.below hb1) (hfa.below hb1))
  have HB := Lib.hid hb1
  clear hb1 hka hfa hm hn hr
  unfold putR at *
  generalize S (if (deadOk x) = true then deadB x else []) = X at *
  generalize (if (deadOk x) = true then (0 : Int) else 4) = E at *
  go_enter Try.func28, Try.ntmps28
  go_wp2_with fail
  refine HC.out.mono ?_
  rintro e w3 ⟨rfl, k3⟩
  have HB3 := Lib.hid (HB.out.trans (k3.mono HB.out.size))
  clear k3
  go_wp2_with fail
  go_ret2
  exact ⟨rfl, HB3.out⟩

set_option maxRecDepth 100000 in
set_option maxHeartbeats 4000000 in
theorem put_event (x : EventP) (hn : Num64 x.n ∧ Num64 x.tick ∧ Num64 x.item) (hv : ∀ v ∈ x.attrs, VIn64 v) (hlv : x.attrs.length ≤ 281474976710656) (aa : Option Addr) (ac : Nat) (w : World) (hat : ValsAt w aa x.attrs) :
    Calls Try.prog 63 #[.agg #[.int .i64 x.n, .int .i64 x.tick, .string (S x.name), .int .i64 x.item, .string (S x.typ), .string (S x.state), .slice aa x.attrs.length ac], .func (Fn.func 64) #[] #[]] w fun e w' => e = .returned (putR (eventB x) (eventOk x)) ∧ Below w.heap.size w w' := by
  have hb1 := (Below.refl w.heap.size w).alloc (Nat.le_refl _) (.cells #[.int .i64 x.n, .int .i64 x.tick, .string (S x.name), .int .i64 x.item, .string (S x.typ), .string (S x.state), .slice aa x.attrs.length ac] 57)
  have hb2 := hb1.alloc hb1.size (.cells #[.pointer none, .slice none 0 0, .bool false] 152)
  have hwr := wr_new w (.cells #[.int .i64 x.n, .int .i64 x.tick, .string (S x.name), .int .i64 x.item, .string (S x.typ), .string (S x.state), .slice aa x.attrs.length ac] 57)
  have HC := Lib.hid (event_w w (w.heap.size + 1) [] false x hn hv hlv aa ac hat _ hb2 hwr (by simp))
  have HB := Lib.hid hb2
  have HNE := Lib.hid (eventB_ne x)
  clear hb1 hb2 hwr
  generalize eventB x = X at *
  generalize eventOk x = OK at *
  go_enter Try.func63, Try.ntmps63
  go_wp2_with fail
  refine HC.out.mono ?_
  rintro e w3 ⟨rfl, l3, b3, t3, q3⟩
  obtain ⟨rfl, hl3⟩ := q3.end_
  have hmk := t3.wr.mark
  have T3 := Lib.hid t3
  clear t3 q3
  cases OK with
  | false =>
    have HB4 := Lib.hid (HB.out.trans T3.out.below)
    simp only [Bool.not_false] at hmk
    go_wp2_with fail
    go_ret2
    exact ⟨rfl, HB4.out⟩
  | true =>
    have hx := hl3 rfl
    subst hx
    have HS := Lib.hid (String_w w.heap.size (w.heap.size + 1) l3 (!true) HNE.out w3 T3.out.wr)
    have HB4 := Lib.hid (HB.out.trans T3.out.below)
    simp only [Bool.not_true] at hmk
    clear hl3
    go_wp2_with fail
    refine HS.out.mono ?_
    rintro e w4 ⟨rfl, k4⟩
    have HB5 := Lib.hid (HB4.out.trans k4)
    clear k4
    go_wp2_with fail
    go_ret2
    exact ⟨rfl, HB5.out⟩

set_option maxRecDepth 100000 in
theorem PutEvent_any (x : EventP) (hn : Num64 x.n ∧ Num64 x.tick ∧ Num64 x.item) (hv : ∀ v ∈ x.attrs, VIn64 v) (hlv : x.attrs.length ≤ 281474976710656) (aa : Option Addr) (ac : Nat) (w : World) (hat : ValsAt w aa x.attrs) :
    Calls Try.prog 30 #[.agg #[.int .i64 x.n, .int .i64 x.tick, .string (S x.name), .int .i64 x.item, .string (S x.typ), .string (S x.state), .slice aa x.attrs.length ac]] w fun e w' => e = .returned (putR (eventB x) (eventOk x)) ∧ Below w.heap.size w w' := by
  have hb1 := (Below.refl w.heap.size w).alloc (Nat.le_refl _) (.cells #[.int .i64 x.n, .int .i64 x.tick, .string (S x.name), .int .i64 x.item, .string (S x.typ), .string (S x.state), .slice aa x.attrs.length ac] 57)
  have HC := Lib.hid (put_event x hn hv hlv aa ac _ (hat.below hb1))
  have HB := Lib.hid hb1
  clear hb1 hat hn hv hlv
  unfold putR at *
  generalize S (if (eventOk x) = true then eventB x else []) = X at *
  generalize (if (eventOk x) = true then (0 : Int) else 4) = E at *
  go_enter Try.func30, Try.ntmps30
  go_wp2_with fail
  refine HC.out.mono ?_
  rintro e w3 ⟨rfl, k3⟩
  have HB3 := Lib.hid (HB.out.trans (k3.mono HB.out.size))
  clear k3
  go_wp2_with fail
  go_ret2
  exact ⟨rfl, HB3.out⟩

set_option maxRecDepth 100000 in
set_option maxHeartbeats 4000000 in
theorem put_sub (x : SubP) (hn : Num64 x.id ∧ Num64 x.past) (w : World) :
    Calls Try.prog 65 #[.agg #[.int .i64 x.id, .string (S x.role), .int .i64 x.past], .func (Fn.func 66) #[] #[]] w fun e w' => e = .returned (putR (subB x) (subOk x)) ∧ Below w.heap.size w w' := by
  have hb1 := (Below.refl w.heap.size w).alloc (Nat.le_refl _) (.cells #[.int .i64 x.id, .string (S x.role), .int .i64 x.past] 63)
  have hb2 := hb1.alloc hb1.size (.cells #[.pointer none, .slice none 0 0, .bool false] 152)
  have hwr := wr_new w (.cells #[.int .i64 x.id, .string (S x.role), .int .i64 x.past] 63)
  have HC := Lib.hid (sub_w w (w.heap.size + 1) [] false x hn _ hb2 hwr (by simp))
  have HB := Lib.hid hb2
  have HNE := Lib.hid (subB_ne x)
  clear hb1 hb2 hwr
  generalize subB x = X at *
  generalize subOk x = OK at *
  go_enter Try.func65, Try.ntmps65
  go_wp2_with fail
  refine HC.out.mono ?_
  rintro e w3 ⟨rfl, l3, b3, t3, q3⟩
  obtain ⟨rfl, hl3⟩ := q3.end_
  have hmk := t3.wr.mark
  have T3 := Lib.hid t3
  clear t3 q3
  cases OK with
  | false =>
    have HB4 := Lib.hid (HB.out.trans T3.out.below)
    simp only [Bool.not_false] at hmk
    go_wp2_with fail
    go_ret2
    exact ⟨rfl, HB4.out⟩
  | true =>
    have hx := hl3 rfl
    subst hx
    have HS := Lib.hid (String_w w.heap.size (w.heap.size + 1) l3 (!true) HNE.out w3 T3.out.wr)
    have HB4 := Lib.hid (HB.out.trans T3.out.below)
    simp only [Bool.not_true] at hmk
    clear hl3
    go_wp2_with fail
    refine HS.out.mono ?_
    rintro e w4 ⟨rfl, k4⟩
    have HB5 := Lib.hid (HB4.out.trans k4)
    clear k4
    go_wp2_with fail
    go_ret2
    exact ⟨rfl, HB5.out⟩

set_option maxRecDepth 100000 in
theorem PutSub_any (x : SubP) (hn : Num64 x.id ∧ Num64 x.past) (w : World) :
    Calls Try.prog 31 #[.agg #[.int .i64 x.id, .string (S x.role), .int .i64 x.past]] w fun e w' => e = .returned (putR (subB x) (subOk x)) ∧ Below w.heap.size w w' := by
  have hb1 := (Below.refl w.heap.size w).alloc (Nat.le_refl _) (.cells #[.int .i64 x.id, .string (S x.role), .int .i64 x.past] 63)
  have HC := Lib.hid (put_sub x hn (w.alloc (.cells #[.int .i64 x.id, .string (S x.role), .int .i64 x.past] 63)))
  have HB := Lib.hid hb1
  clear hb1 hn
  unfold putR at *
  generalize S (if (subOk x) = true then subB x else []) = X at *
  generalize (if (subOk x) = true then (0 : Int) else 4) = E at *
  go_enter Try.func31, Try.ntmps31
  go_wp2_with fail
  refine HC.out.mono ?_
  rintro e w3 ⟨rfl, k3⟩
  have HB3 := Lib.hid (HB.out.trans (k3.mono HB.out.size))
  clear k3
  go_wp2_with fail
  go_ret2
  exact ⟨rfl, HB3.out⟩

end Go.Proofs.Ytkdhchdhgmaolaa.Cd
