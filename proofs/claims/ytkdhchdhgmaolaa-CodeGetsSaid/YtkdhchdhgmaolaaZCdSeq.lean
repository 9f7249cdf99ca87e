/-
  The writer's rows: messages, artifacts, and so on.
-/
import Derived.Test.YtkdhchdhgmaolaaZCdAllV
namespace Go.Proofs.Ytkdhchdhgmaolaa.Cd
open Go.RowKit
open Pk Va
set_option linter.unusedVariables false
set_option linter.unusedSimpArgs false

/-- A message in memory: its four cells. -/
def MailAt (w : World) (b o : Nat) (m : MailP) (ka : Option Addr) (kc : Nat) (fa : Option Addr) (fc : Nat) : Prop :=
  w.cell? ⟨b, o, none⟩ = some (.int .i64 m.id) ∧ w.cell? ⟨b, o + 1, none⟩ = some (.string (S m.chan)) ∧ w.cell? ⟨b, o + 2, none⟩ = some (.slice ka m.key.length kc) ∧ w.cell? ⟨b, o + 3, none⟩ = some (.slice fa m.fields.length fc) ∧ ValsAt w ka m.key ∧ ValsAt w fa m.fields
def MailsAt (w : World) (a : Option Addr) (ms : List MailP) : Prop := ∀ i, (h : i < ms.length) → ∃ b off ka kc fa fc, a = some ⟨b, off, none⟩ ∧ MailAt w b (off + i * 4) ms[i] ka kc fa fc ∧ b < w.heap.size
structure MIn (m : MailP) : Prop where
  id : Num64 m.id
  key : ∀ v ∈ m.key, VIn64 v
  fields : ∀ v ∈ m.fields, VIn64 v
  klen : m.key.length ≤ 281474976710656
  flen : m.fields.length ≤ 281474976710656
theorem MailAt.below {w w' : World} {b o : Nat} {m : MailP} {ka fa : Option Addr} {kc fc : Nat} (h : MailAt w b o m ka kc fa fc) (hl : b < w.heap.size) (k : Below w.heap.size w w') : MailAt w' b o m ka kc fa fc := by
  obtain ⟨h0, h1, h2, h3, h4, h5⟩ := h
  exact ⟨(k.cell (p := ⟨b, o, none⟩) hl).trans h0, (k.cell (p := ⟨b, o + 1, none⟩) hl).trans h1, (k.cell (p := ⟨b, o + 2, none⟩) hl).trans h2, (k.cell (p := ⟨b, o + 3, none⟩) hl).trans h3, h4.below k, h5.below k⟩
theorem MailsAt.below {w w' : World} {a : Option Addr} {ms : List MailP} (h : MailsAt w a ms) (k : Below w.heap.size w w') : MailsAt w' a ms := fun i hi => by
  obtain ⟨b, off, ka, kc, fa, fc, e, hv, hl⟩ := h i hi
  exact ⟨b, off, ka, kc, fa, fc, e, hv.below hl k, Nat.lt_of_lt_of_le hl k.size⟩
theorem WrTo.fresh {H b : Nat} {l : List UInt8} {bad : Bool} {w : World} (h : Wr H b l bad w) (o : Obj) : WrTo H b l bad w (w.alloc o) := WrTo.of_below h ((Below.refl w.heap.size w).alloc (Nat.le_refl _) o)

set_option maxRecDepth 100000 in
set_option maxHeartbeats 4000000 in
theorem mail_w (w0 : World) (b : Nat) (l : List UInt8) (bad : Bool) (m : MailP) (hm : MIn m) (ka : Option Addr) (kc : Nat) (fa : Option Addr) (fc : Nat) (hka : ValsAt w0 ka m.key) (hfa : ValsAt w0 fa m.fields) (w : World) (hk0 : Below w0.heap.size w0 w) (h : Wr w0.heap.size b l bad w) (hl : l.length ≤ 70000000) :
    Calls Try.prog 62 #[.pointer (some ⟨b, 0, none⟩), .agg #[.int .i64 m.id, .string (S m.chan), .slice ka m.key.length kc, .slice fa m.fields.length fc]] w fun e w' => PutsTo w0.heap.size b (mailB m) (mailOk m) 10000 l bad w e w' := by
  have HM := Lib.hid hm
  have HKA := Lib.hid hka
  have HFA := Lib.hid hfa
  have T0 := Lib.hid (WrTo.fresh h (.cells #[.int .i64 m.id, .string (S m.chan), .slice ka m.key.length kc, .slice fa m.fields.length fc] 33))
  have X0 := Lib.hid (heap_alloc_new w (.cells #[.int .i64 m.id, .string (S m.chan), .slice ka m.key.length kc, .slice fa m.fields.length fc] 33))
  have F0 := Lib.hid (h.off_new (.cells #[.int .i64 m.id, .string (S m.chan), .slice ka m.key.length kc, .slice fa m.fields.length fc] 33))
  have Q0 := Lib.hid (Wrote.nil l bad)
  have HK0 := Lib.hid hk0
  clear h hk0 hm hka hfa
  go_enter Try.func62, Try.ntmps62
  go_wp2_with fail
  refine (number_w w0.heap.size b l bad m.id HM.out.id (w.alloc (.cells #[.int .i64 m.id, .string (S m.chan), .slice ka m.key.length kc, .slice fa m.fields.length fc] 33)) T0.out.wr (by have := Q0.out.len; omega)).mono ?_
  rintro e w1 ⟨rfl, l1, b1, t1, q1⟩
  obtain ⟨x1, f1⟩ := t1.box X0.out F0.out
  have T1 := Lib.hid (T0.out.trans t1)
  have Q1 := Lib.hid (Q0.out.then q1)
  have X1 := Lib.hid x1
  have F1 := Lib.hid f1
  have p0 : w1.cell? ⟨w.heap.size, 0, none⟩ = some (.int .i64 m.id) := cell_of_row w1 w.heap.size 0 _ _ (0, 0) x1
  have p1 : w1.cell? ⟨w.heap.size, 1, none⟩ = some (.string (S m.chan)) := cell_of_row w1 w.heap.size 1 _ _ (0, 0) x1
  have p2 : w1.cell? ⟨w.heap.size, 2, none⟩ = some (.slice ka m.key.length kc) := cell_of_row w1 w.heap.size 2 _ _ (0, 0) x1
  have p3 : w1.cell? ⟨w.heap.size, 3, none⟩ = some (.slice fa m.fields.length fc) := cell_of_row w1 w.heap.size 3 _ _ (0, 0) x1
  clear t1 q1 x1 f1
  go_wp2_with fail
  refine (name_w w0.heap.size b l1 b1 m.chan w1 T1.out.wr (by have := Q1.out.len; omega)).mono ?_
  rintro e w2 ⟨rfl, l2, b2, t2, q2⟩
  obtain ⟨x2, f2⟩ := t2.box X1.out F1.out
  have T2 := Lib.hid (T1.out.trans t2)
  have Q2 := Lib.hid (Q1.out.then q2)
  have X2 := Lib.hid x2
  have F2 := Lib.hid f2
  have p0 : w2.cell? ⟨w.heap.size, 0, none⟩ = some (.int .i64 m.id) := cell_of_row w2 w.heap.size 0 _ _ (0, 0) x2
  have p1 : w2.cell? ⟨w.heap.size, 1, none⟩ = some (.string (S m.chan)) := cell_of_row w2 w.heap.size 1 _ _ (0, 0) x2
  have p2 : w2.cell? ⟨w.heap.size, 2, none⟩ = some (.slice ka m.key.length kc) := cell_of_row w2 w.heap.size 2 _ _ (0, 0) x2
  have p3 : w2.cell? ⟨w.heap.size, 3, none⟩ = some (.slice fa m.fields.length fc) := cell_of_row w2 w.heap.size 3 _ _ (0, 0) x2
  clear t2 q2 x2 f2
  go_wp2_with fail
  refine (row_w w0 b l2 b2 m.key HM.out.key ka kc HKA.out HM.out.klen w2 (HK0.out.trans T2.out.below) T2.out.wr (by have := Q2.out.len; omega)).mono ?_
  rintro e w3 ⟨rfl, l3, b3, t3, q3⟩
  obtain ⟨x3, f3⟩ := t3.box X2.out F2.out
  have T3 := Lib.hid (T2.out.trans t3)
  have Q3 := Lib.hid (Q2.out.then q3)
  have X3 := Lib.hid x3
  have F3 := Lib.hid f3
  have p0 : w3.cell? ⟨w.heap.size, 0, none⟩ = some (.int .i64 m.id) := cell_of_row w3 w.heap.size 0 _ _ (0, 0) x3
  have p1 : w3.cell? ⟨w.heap.size, 1, none⟩ = some (.string (S m.chan)) := cell_of_row w3 w.heap.size 1 _ _ (0, 0) x3
  have p2 : w3.cell? ⟨w.heap.size, 2, none⟩ = some (.slice ka m.key.length kc) := cell_of_row w3 w.heap.size 2 _ _ (0, 0) x3
  have p3 : w3.cell? ⟨w.heap.size, 3, none⟩ = some (.slice fa m.fields.length fc) := cell_of_row w3 w.heap.size 3 _ _ (0, 0) x3
  clear t3 q3 x3 f3
  go_wp2_with fail
  refine (row_w w0 b l3 b3 m.fields HM.out.fields fa fc HFA.out HM.out.flen w3 (HK0.out.trans T3.out.below) T3.out.wr (by have := Q3.out.len; omega)).mono ?_
  rintro e w4 ⟨rfl, l4, b4, t4, q4⟩
  obtain ⟨x4, f4⟩ := t4.box X3.out F3.out
  have T4 := Lib.hid (T3.out.trans t4)
  have Q4 := Lib.hid (Q3.out.then q4)
  have X4 := Lib.hid x4
  have F4 := Lib.hid f4
  clear t4 q4 x4 f4
  go_wp2_with fail
  go_end0
  exact ⟨rfl, l4, b4, T4.out, Q4.out.conv (fun _ => by simp [mailB]) (by simp [mailOk, Bool.and_assoc]) (by omega)⟩

set_option maxRecDepth 100000 in
set_option maxHeartbeats 4000000 in
theorem allM_w (w0 : World) (b : Nat) (l : List UInt8) (bad : Bool) (xs : List MailP) (hok : ∀ m ∈ xs, MIn m) (a : Option Addr) (cap : Nat) (hx : MailsAt w0 a xs) (hlen : xs.length ≤ 281474976710656) (w : World) (hk0 : Below w0.heap.size w0 w) (h : Wr w0.heap.size b l bad w) (hl : l.length ≤ 20000000) :
    Calls Try.prog 100 #[.pointer (some ⟨b, 0, none⟩), .int .i64 4096, .slice a xs.length cap, .func (Fn.func 62) #[] #[]] w fun e w' =>
      PutsTo w0.heap.size b (cntB xs.length ++ mailsB xs) (decide (xs.length ≤ 4096) && xs.all mailOk) 40970000 l bad w e w' := by
  have HSM := Lib.hid (small_w w0.heap.size b l bad (xs.length : Int) 4096 ⟨by omega, by omega⟩ (by omega) w h (by omega))
  rw [cntI_len_eq _ hlen, show decide (0 ≤ (xs.length : Int) ∧ (xs.length : Int) ≤ 4096) = decide (xs.length ≤ 4096) by rw [decide_eq_decide]; omega] at HSM
  have hlen2 : (xs.length : Int) ≤ 281474976710656 := by omega
  have HX := Lib.hid hx
  have HOK := Lib.hid hok
  have HK0 := Lib.hid hk0
  have H0 := Lib.hid h
  clear hx hok hk0 h
  go_enter Try.func100, Try.ntmps100
  go_wp2_with fail
  refine HSM.out.mono ?_
  rintro e w1 ⟨rfl, l1, b1, t1, q1⟩
  have T1 := Lib.hid t1
  have Q1 := Lib.hid (show Wrote (cntB xs.length ++ mailsB (xs.take 0)) (decide (xs.length ≤ 4096) && (xs.take 0).all mailOk) (10 + 10000 * 0) l bad l1 b1 from q1.conv (fun _ => by simp [mailsB]) (by simp) (by omega))
  clear t1 q1 HSM
  go_wp2_with fail
  go_loopw [17] (fun iv wr => ∃ (k : Nat) (lk : List UInt8) (bk : Bool), k ≤ xs.length ∧ iv = .int .i64 k ∧ (k = 0 ∨ xs.length ≤ 4096) ∧ WrTo w0.heap.size b lk bk w wr ∧ Wrote (cntB xs.length ++ mailsB (xs.take k)) (decide (xs.length ≤ 4096) && (xs.take k).all mailOk) (10 + 10000 * k) l bad lk bk) (fun iv _ => xs.length - (intOf iv).toNat)
  case atStart => exact ⟨0, l1, b1, Nat.zero_le _, rfl, .inl rfl, T1.out, Q1.out⟩
  case round =>
    obtain ⟨k, lk, bk, hk, rfl, hm, ht, hq⟩ := hrel
    have hlk : lk.length ≤ l.length + (10 + 10000 * k) := hq.len
    by_cases hlt : k < xs.length
    · have hki : (k : Int) < (xs.length : Int) := by omega
      have kb := HK0.out.trans ht.below
      obtain ⟨g, o, ka, kc, fa, fc, hae, hm0, hg0⟩ := HX.out k hlt
      obtain ⟨p0, p1, p2, p3, _, _⟩ := hm0.below hg0 kb
      have hg := Nat.lt_of_lt_of_le hg0 kb.size
      have HKA := Lib.hid hm0.2.2.2.2.1
      have HFA := Lib.hid hm0.2.2.2.2.2
      subst hae
      clear hm0 hg0
      have HQ := Lib.hid hq
      have hbx := (Below.refl wr.heap.size wr).alloc (Nat.le_refl _) (.cells #[.int .i64 xs[k].id, .string (S xs[k].chan), .slice ka xs[k].key.length kc, .slice fa xs[k].fields.length fc] 33)
      have HBX := Lib.hid hbx
      cases bk with
      | true =>
        have HT := Lib.hid (ht.trans (WrTo.of_below ht.wr HBX.out))
        have hmk := HT.out.wr.mark
        have HC := Lib.hid (show lk.length ≤ l.length + 40970000 by rcases hm with rfl | hm <;> omega)
        clear ht hq kb hm
        go_wp2_with fail
        go_end0
        exact ⟨rfl, lk, true, HT.out, HQ.out.cut (fun ho => by
          simp only [Bool.and_eq_true] at ho ⊢
          exact ⟨ho.1, all_take _ _ _ ho.2⟩) HC.out⟩
      | false =>
        have hle : xs.length ≤ 4096 := by
          by_cases hh : xs.length ≤ 4096
          · exact hh
          · have := hq.fault (by simp [hh])
            cases this
        have HT := Lib.hid (ht.trans (WrTo.of_below ht.wr HBX.out))
        have hmk := HT.out.wr.mark
        have HE := Lib.hid (mail_w w0 b lk false xs[k] (HOK.out _ (List.getElem_mem _)) ka kc fa fc HKA.out HFA.out _ (HK0.out.trans (ht.trans (WrTo.of_below ht.wr HBX.out)).below) (ht.trans (WrTo.of_below ht.wr HBX.out)).wr (by omega))
        have HST := Lib.hid (show xs.take (k + 1) = xs.take k ++ [xs[k]] from List.take_succ_eq_append_getElem hlt)
        have HLE := Lib.hid hle
        clear ht hq kb hm hlk
        obtain ⟨x, hxk⟩ : ∃ x, x = xs[k] := ⟨_, rfl⟩
        rw [← hxk] at HE HST HT hmk p0 p1 p2 p3
        have HXK := Lib.hid hxk
        clear hxk hbx
        go_wp2_with fail
        refine HE.out.mono ?_
        rintro e w3 ⟨rfl, l3, b3, t3, q3⟩
        have T3 := Lib.hid (HT.out.trans t3)
        have Q3 := Lib.hid (HQ.out.then q3)
        clear t3 q3
        go_wp2_with fail
        go_roundw
        case rel => exact ⟨k + 1, l3, b3, by omega, by go_num, .inr HLE.out, T3.out, Q3.out.conv (fun _ => by rw [HST.out, mailsB_append]; simp [mailsB]) (by rw [HST.out, List.all_append]; simp [Bool.and_assoc]) (by omega)⟩
        case measure => simp [intOf]; omega
    · have hke : k = xs.length := by omega
      have hki : ¬ (k : Int) < (xs.length : Int) := by omega
      have HT := Lib.hid ht
      have HQ := Lib.hid (show Wrote (cntB xs.length ++ mailsB xs) (decide (xs.length ≤ 4096) && xs.all mailOk) 40970000 l bad lk bk from ⟨fun x y => by
        have := hq.good x (by rw [hke, List.take_length]; exact y)
        rw [hke, List.take_length] at this
        exact this, hq.stay, fun x => hq.fault (by rw [hke, List.take_length]; exact x), by rcases hm with rfl | hm <;> omega⟩)
      clear ht hq hm hlk
      go_wp2_with fail
      go_end0
      exact ⟨rfl, lk, bk, HT.out, HQ.out⟩

structure IIn (x : ItemP) : Prop where
  id : Num64 x.id
  since : Num64 x.since
  attrs : ∀ v ∈ x.attrs, VIn64 v
  counts : ∀ n ∈ x.counts, Num64 n
  box : ∀ m ∈ x.box, MIn m
  alen : x.attrs.length ≤ 281474976710656
  clen : x.counts.length ≤ 281474976710656
  blen : x.box.length ≤ 281474976710656

set_option maxRecDepth 100000 in
set_option maxHeartbeats 4000000 in
theorem item_w (w0 : World) (b : Nat) (l : List UInt8) (bad : Bool) (x : ItemP) (hi : IIn x) (aa : Option Addr) (ac : Nat) (ca : Option Addr) (cc : Nat) (ba : Option Addr) (bc : Nat) (hat : ValsAt w0 aa x.attrs) (hct : NumsAt w0 ca x.counts) (hbt : MailsAt w0 ba x.box) (w : World) (hk0 : Below w0.heap.size w0 w) (h : Wr w0.heap.size b l bad w) (hl : l.length ≤ 2000000) :
    Calls Try.prog 58 #[.pointer (some ⟨b, 0, none⟩), .agg #[.int .i64 x.id, .string (S x.typ), .string (S x.state), .int .i64 x.since, .slice aa x.attrs.length ac, .slice ca x.counts.length cc, .slice ba x.box.length bc]] w fun e w' => PutsTo w0.heap.size b (itemB x) (itemOk x) 41000000 l bad w e w' := by
  have HI := Lib.hid hi
  have HAT := Lib.hid hat
  have HCT := Lib.hid hct
  have HBT := Lib.hid hbt
  have T0 := Lib.hid (WrTo.fresh h (.cells #[.int .i64 x.id, .string (S x.typ), .string (S x.state), .int .i64 x.since, .slice aa x.attrs.length ac, .slice ca x.counts.length cc, .slice ba x.box.length bc] 41))
  have X0 := Lib.hid (heap_alloc_new w (.cells #[.int .i64 x.id, .string (S x.typ), .string (S x.state), .int .i64 x.since, .slice aa x.attrs.length ac, .slice ca x.counts.length cc, .slice ba x.box.length bc] 41))
  have F0 := Lib.hid (h.off_new (.cells #[.int .i64 x.id, .string (S x.typ), .string (S x.state), .int .i64 x.since, .slice aa x.attrs.length ac, .slice ca x.counts.length cc, .slice ba x.box.length bc] 41))
  have Q0 := Lib.hid (Wrote.nil l bad)
  have HK0 := Lib.hid hk0
  clear h hk0 hi hat hct hbt
  go_enter Try.func58, Try.ntmps58
  go_wp2_with fail
  refine (number_w w0.heap.size b l bad x.id HI.out.id (w.alloc (.cells #[.int .i64 x.id, .string (S x.typ), .string (S x.state), .int .i64 x.since, .slice aa x.attrs.length ac, .slice ca x.counts.length cc, .slice ba x.box.length bc] 41)) T0.out.wr (by have := Q0.out.len; omega)).mono ?_
  rintro e w1 ⟨rfl, l1, b1, t1, q1⟩
  obtain ⟨x1, f1⟩ := t1.box X0.out F0.out
  have T1 := Lib.hid (T0.out.trans t1)
  have Q1 := Lib.hid (Q0.out.then q1)
  have X1 := Lib.hid x1
  have F1 := Lib.hid f1
  have p0 : w1.cell? ⟨w.heap.size, 0, none⟩ = some (.int .i64 x.id) := cell_of_row w1 w.heap.size 0 _ _ (0, 0) x1
  have p1 : w1.cell? ⟨w.heap.size, 1, none⟩ = some (.string (S x.typ)) := cell_of_row w1 w.heap.size 1 _ _ (0, 0) x1
  have p2 : w1.cell? ⟨w.heap.size, 2, none⟩ = some (.string (S x.state)) := cell_of_row w1 w.heap.size 2 _ _ (0, 0) x1
  have p3 : w1.cell? ⟨w.heap.size, 3, none⟩ = some (.int .i64 x.since) := cell_of_row w1 w.heap.size 3 _ _ (0, 0) x1
  have p4 : w1.cell? ⟨w.heap.size, 4, none⟩ = some (.slice aa x.attrs.length ac) := cell_of_row w1 w.heap.size 4 _ _ (0, 0) x1
  have p5 : w1.cell? ⟨w.heap.size, 5, none⟩ = some (.slice ca x.counts.length cc) := cell_of_row w1 w.heap.size 5 _ _ (0, 0) x1
  have p6 : w1.cell? ⟨w.heap.size, 6, none⟩ = some (.slice ba x.box.length bc) := cell_of_row w1 w.heap.size 6 _ _ (0, 0) x1
  clear t1 q1 x1 f1
  go_wp2_with fail
  refine (number_w w0.heap.size b l1 b1 x.since HI.out.since w1 T1.out.wr (by have := Q1.out.len; omega)).mono ?_
  rintro e w2 ⟨rfl, l2, b2, t2, q2⟩
  obtain ⟨x2, f2⟩ := t2.box X1.out F1.out
  have T2 := Lib.hid (T1.out.trans t2)
  have Q2 := Lib.hid (Q1.out.then q2)
  have X2 := Lib.hid x2
  have F2 := Lib.hid f2
  have p0 : w2.cell? ⟨w.heap.size, 0, none⟩ = some (.int .i64 x.id) := cell_of_row w2 w.heap.size 0 _ _ (0, 0) x2
  have p1 : w2.cell? ⟨w.heap.size, 1, none⟩ = some (.string (S x.typ)) := cell_of_row w2 w.heap.size 1 _ _ (0, 0) x2
  have p2 : w2.cell? ⟨w.heap.size, 2, none⟩ = some (.string (S x.state)) := cell_of_row w2 w.heap.size 2 _ _ (0, 0) x2
  have p3 : w2.cell? ⟨w.heap.size, 3, none⟩ = some (.int .i64 x.since) := cell_of_row w2 w.heap.size 3 _ _ (0, 0) x2
  have p4 : w2.cell? ⟨w.heap.size, 4, none⟩ = some (.slice aa x.attrs.length ac) := cell_of_row w2 w.heap.size 4 _ _ (0, 0) x2
  have p5 : w2.cell? ⟨w.heap.size, 5, none⟩ = some (.slice ca x.counts.length cc) := cell_of_row w2 w.heap.size 5 _ _ (0, 0) x2
  have p6 : w2.cell? ⟨w.heap.size, 6, none⟩ = some (.slice ba x.box.length bc) := cell_of_row w2 w.heap.size 6 _ _ (0, 0) x2
  clear t2 q2 x2 f2
  go_wp2_with fail
  refine (name_w w0.heap.size b l2 b2 x.typ w2 T2.out.wr (by have := Q2.out.len; omega)).mono ?_
  rintro e w3 ⟨rfl, l3, b3, t3, q3⟩
  obtain ⟨x3, f3⟩ := t3.box X2.out F2.out
  have T3 := Lib.hid (T2.out.trans t3)
  have Q3 := Lib.hid (Q2.out.then q3)
  have X3 := Lib.hid x3
  have F3 := Lib.hid f3
  have p0 : w3.cell? ⟨w.heap.size, 0, none⟩ = some (.int .i64 x.id) := cell_of_row w3 w.heap.size 0 _ _ (0, 0) x3
  have p1 : w3.cell? ⟨w.heap.size, 1, none⟩ = some (.string (S x.typ)) := cell_of_row w3 w.heap.size 1 _ _ (0, 0) x3
  have p2 : w3.cell? ⟨w.heap.size, 2, none⟩ = some (.string (S x.state)) := cell_of_row w3 w.heap.size 2 _ _ (0, 0) x3
  have p3 : w3.cell? ⟨w.heap.size, 3, none⟩ = some (.int .i64 x.since) := cell_of_row w3 w.heap.size 3 _ _ (0, 0) x3
  have p4 : w3.cell? ⟨w.heap.size, 4, none⟩ = some (.slice aa x.attrs.length ac) := cell_of_row w3 w.heap.size 4 _ _ (0, 0) x3
  have p5 : w3.cell? ⟨w.heap.size, 5, none⟩ = some (.slice ca x.counts.length cc) := cell_of_row w3 w.heap.size 5 _ _ (0, 0) x3
  have p6 : w3.cell? ⟨w.heap.size, 6, none⟩ = some (.slice ba x.box.length bc) := cell_of_row w3 w.heap.size 6 _ _ (0, 0) x3
  clear t3 q3 x3 f3
  go_wp2_with fail
  refine (name_w w0.heap.size b l3 b3 x.state w3 T3.out.wr (by have := Q3.out.len; omega)).mono ?_
  rintro e w4 ⟨rfl, l4, b4, t4, q4⟩
  obtain ⟨x4, f4⟩ := t4.box X3.out F3.out
  have T4 := Lib.hid (T3.out.trans t4)
  have Q4 := Lib.hid (Q3.out.then q4)
  have X4 := Lib.hid x4
  have F4 := Lib.hid f4
  have p0 : w4.cell? ⟨w.heap.size, 0, none⟩ = some (.int .i64 x.id) := cell_of_row w4 w.heap.size 0 _ _ (0, 0) x4
  have p1 : w4.cell? ⟨w.heap.size, 1, none⟩ = some (.string (S x.typ)) := cell_of_row w4 w.heap.size 1 _ _ (0, 0) x4
  have p2 : w4.cell? ⟨w.heap.size, 2, none⟩ = some (.string (S x.state)) := cell_of_row w4 w.heap.size 2 _ _ (0, 0) x4
  have p3 : w4.cell? ⟨w.heap.size, 3, none⟩ = some (.int .i64 x.since) := cell_of_row w4 w.heap.size 3 _ _ (0, 0) x4
  have p4 : w4.cell? ⟨w.heap.size, 4, none⟩ = some (.slice aa x.attrs.length ac) := cell_of_row w4 w.heap.size 4 _ _ (0, 0) x4
  have p5 : w4.cell? ⟨w.heap.size, 5, none⟩ = some (.slice ca x.counts.length cc) := cell_of_row w4 w.heap.size 5 _ _ (0, 0) x4
  have p6 : w4.cell? ⟨w.heap.size, 6, none⟩ = some (.slice ba x.box.length bc) := cell_of_row w4 w.heap.size 6 _ _ (0, 0) x4
  clear t4 q4 x4 f4
  go_wp2_with fail
  refine (row_w w0 b l4 b4 x.attrs HI.out.attrs aa ac HAT.out HI.out.alen w4 (HK0.out.trans T4.out.below) T4.out.wr (by have := Q4.out.len; omega)).mono ?_
  rintro e w5 ⟨rfl, l5, b5, t5, q5⟩
  obtain ⟨x5, f5⟩ := t5.box X4.out F4.out
  have T5 := Lib.hid (T4.out.trans t5)
  have Q5 := Lib.hid (Q4.out.then q5)
  have X5 := Lib.hid x5
  have F5 := Lib.hid f5
  have p0 : w5.cell? ⟨w.heap.size, 0, none⟩ = some (.int .i64 x.id) := cell_of_row w5 w.heap.size 0 _ _ (0, 0) x5
  have p1 : w5.cell? ⟨w.heap.size, 1, none⟩ = some (.string (S x.typ)) := cell_of_row w5 w.heap.size 1 _ _ (0, 0) x5
  have p2 : w5.cell? ⟨w.heap.size, 2, none⟩ = some (.string (S x.state)) := cell_of_row w5 w.heap.size 2 _ _ (0, 0) x5
  have p3 : w5.cell? ⟨w.heap.size, 3, none⟩ = some (.int .i64 x.since) := cell_of_row w5 w.heap.size 3 _ _ (0, 0) x5
  have p4 : w5.cell? ⟨w.heap.size, 4, none⟩ = some (.slice aa x.attrs.length ac) := cell_of_row w5 w.heap.size 4 _ _ (0, 0) x5
  have p5 : w5.cell? ⟨w.heap.size, 5, none⟩ = some (.slice ca x.counts.length cc) := cell_of_row w5 w.heap.size 5 _ _ (0, 0) x5
  have p6 : w5.cell? ⟨w.heap.size, 6, none⟩ = some (.slice ba x.box.length bc) := cell_of_row w5 w.heap.size 6 _ _ (0, 0) x5
  clear t5 q5 x5 f5
  go_wp2_with fail
  refine (allC_w w0 b l5 b5 x.counts HI.out.counts ca cc HCT.out HI.out.clen w5 (HK0.out.trans T5.out.below) T5.out.wr (by have := Q5.out.len; omega)).mono ?_
  rintro e w6 ⟨rfl, l6, b6, t6, q6⟩
  obtain ⟨x6, f6⟩ := t6.box X5.out F5.out
  have T6 := Lib.hid (T5.out.trans t6)
  have Q6 := Lib.hid (Q5.out.then q6)
  have X6 := Lib.hid x6
  have F6 := Lib.hid f6
  have p0 : w6.cell? ⟨w.heap.size, 0, none⟩ = some (.int .i64 x.id) := cell_of_row w6 w.heap.size 0 _ _ (0, 0) x6
  have p1 : w6.cell? ⟨w.heap.size, 1, none⟩ = some (.string (S x.typ)) := cell_of_row w6 w.heap.size 1 _ _ (0, 0) x6
  have p2 : w6.cell? ⟨w.heap.size, 2, none⟩ = some (.string (S x.state)) := cell_of_row w6 w.heap.size 2 _ _ (0, 0) x6
  have p3 : w6.cell? ⟨w.heap.size, 3, none⟩ = some (.int .i64 x.since) := cell_of_row w6 w.heap.size 3 _ _ (0, 0) x6
  have p4 : w6.cell? ⟨w.heap.size, 4, none⟩ = some (.slice aa x.attrs.length ac) := cell_of_row w6 w.heap.size 4 _ _ (0, 0) x6
  have p5 : w6.cell? ⟨w.heap.size, 5, none⟩ = some (.slice ca x.counts.length cc) := cell_of_row w6 w.heap.size 5 _ _ (0, 0) x6
  have p6 : w6.cell? ⟨w.heap.size, 6, none⟩ = some (.slice ba x.box.length bc) := cell_of_row w6 w.heap.size 6 _ _ (0, 0) x6
  clear t6 q6 x6 f6
  go_wp2_with fail
  refine (allM_w w0 b l6 b6 x.box HI.out.box ba bc HBT.out HI.out.blen w6 (HK0.out.trans T6.out.below) T6.out.wr (by have := Q6.out.len; omega)).mono ?_
  rintro e w7 ⟨rfl, l7, b7, t7, q7⟩
  obtain ⟨x7, f7⟩ := t7.box X6.out F6.out
  have T7 := Lib.hid (T6.out.trans t7)
  have Q7 := Lib.hid (Q6.out.then q7)
  have X7 := Lib.hid x7
  have F7 := Lib.hid f7
  clear t7 q7 x7 f7
  go_wp2_with fail
  go_end0
  exact ⟨rfl, l7, b7, T7.out, Q7.out.conv (fun _ => by simp [itemB]) (by simp [itemOk, Bool.and_assoc]) (by omega)⟩

set_option maxRecDepth 100000 in
set_option maxHeartbeats 4000000 in
theorem dead_w (w0 : World) (b : Nat) (l : List UInt8) (bad : Bool) (x : DeadP) (hn : Num64 x.n) (hr : Num64 x.reason) (hm : MIn x.mail) (ka : Option Addr) (kc : Nat) (fa : Option Addr) (fc : Nat) (hka : ValsAt w0 ka x.mail.key) (hfa : ValsAt w0 fa x.mail.fields) (w : World) (hk0 : Below w0.heap.size w0 w) (h : Wr w0.heap.size b l bad w) (hl : l.length ≤ 2000000) :
    Calls Try.prog 60 #[.pointer (some ⟨b, 0, none⟩), .agg #[.int .i64 x.n, .int .i64 x.mail.id, .string (S x.mail.chan), .slice ka x.mail.key.length kc, .slice fa x.mail.fields.length fc, .int .i64 x.reason]] w fun e w' => PutsTo w0.heap.size b (deadB x) (deadOk x) 10100 l bad w e w' := by
  have HM := Lib.hid hm
  have HKA := Lib.hid hka
  have HFA := Lib.hid hfa
  have HNN := Lib.hid hn
  have HRR := Lib.hid hr
  have T0 := Lib.hid (WrTo.fresh h (.cells #[.int .i64 x.n, .int .i64 x.mail.id, .string (S x.mail.chan), .slice ka x.mail.key.length kc, .slice fa x.mail.fields.length fc, .int .i64 x.reason] 51))
  have X0 := Lib.hid (heap_alloc_new w (.cells #[.int .i64 x.n, .int .i64 x.mail.id, .string (S x.mail.chan), .slice ka x.mail.key.length kc, .slice fa x.mail.fields.length fc, .int .i64 x.reason] 51))
  have F0 := Lib.hid (h.off_new (.cells #[.int .i64 x.n, .int .i64 x.mail.id, .string (S x.mail.chan), .slice ka x.mail.key.length kc, .slice fa x.mail.fields.length fc, .int .i64 x.reason] 51))
  have Q0 := Lib.hid (Wrote.nil l bad)
  have HK0 := Lib.hid hk0
  clear h hk0 hm hka hfa hn hr
  go_enter Try.func60, Try.ntmps60
  go_wp2_with fail
  refine (number_w w0.heap.size b l bad x.n HNN.out (w.alloc (.cells #[.int .i64 x.n, .int .i64 x.mail.id, .string (S x.mail.chan), .slice ka x.mail.key.length kc, .slice fa x.mail.fields.length fc, .int .i64 x.reason] 51)) T0.out.wr (by have := Q0.out.len; omega)).mono ?_
  rintro e w1 ⟨rfl, l1, b1, t1, q1⟩
  obtain ⟨x1, f1⟩ := t1.box X0.out F0.out
  have T1 := Lib.hid (T0.out.trans t1)
  have Q1 := Lib.hid (Q0.out.then q1)
  have X1 := Lib.hid x1
  have F1 := Lib.hid f1
  have p0 : w1.cell? ⟨w.heap.size, 0, none⟩ = some (.int .i64 x.n) := cell_of_row w1 w.heap.size 0 _ _ (0, 0) x1
  have p1 : w1.cell? ⟨w.heap.size, 1, none⟩ = some (.int .i64 x.mail.id) := cell_of_row w1 w.heap.size 1 _ _ (0, 0) x1
  have p2 : w1.cell? ⟨w.heap.size, 2, none⟩ = some (.string (S x.mail.chan)) := cell_of_row w1 w.heap.size 2 _ _ (0, 0) x1
  have p3 : w1.cell? ⟨w.heap.size, 3, none⟩ = some (.slice ka x.mail.key.length kc) := cell_of_row w1 w.heap.size 3 _ _ (0, 0) x1
  have p4 : w1.cell? ⟨w.heap.size, 4, none⟩ = some (.slice fa x.mail.fields.length fc) := cell_of_row w1 w.heap.size 4 _ _ (0, 0) x1
  have p5 : w1.cell? ⟨w.heap.size, 5, none⟩ = some (.int .i64 x.reason) := cell_of_row w1 w.heap.size 5 _ _ (0, 0) x1
  clear t1 q1 x1 f1
  go_wp2_with fail
  refine (mail_w w0 b l1 b1 x.mail HM.out ka kc fa fc HKA.out HFA.out w1 (HK0.out.trans T1.out.below) T1.out.wr (by have := Q1.out.len; omega)).mono ?_
  rintro e w2 ⟨rfl, l2, b2, t2, q2⟩
  obtain ⟨x2, f2⟩ := t2.box X1.out F1.out
  have T2 := Lib.hid (T1.out.trans t2)
  have Q2 := Lib.hid (Q1.out.then q2)
  have X2 := Lib.hid x2
  have F2 := Lib.hid f2
  have p0 : w2.cell? ⟨w.heap.size, 0, none⟩ = some (.int .i64 x.n) := cell_of_row w2 w.heap.size 0 _ _ (0, 0) x2
  have p1 : w2.cell? ⟨w.heap.size, 1, none⟩ = some (.int .i64 x.mail.id) := cell_of_row w2 w.heap.size 1 _ _ (0, 0) x2
  have p2 : w2.cell? ⟨w.heap.size, 2, none⟩ = some (.string (S x.mail.chan)) := cell_of_row w2 w.heap.size 2 _ _ (0, 0) x2
  have p3 : w2.cell? ⟨w.heap.size, 3, none⟩ = some (.slice ka x.mail.key.length kc) := cell_of_row w2 w.heap.size 3 _ _ (0, 0) x2
  have p4 : w2.cell? ⟨w.heap.size, 4, none⟩ = some (.slice fa x.mail.fields.length fc) := cell_of_row w2 w.heap.size 4 _ _ (0, 0) x2
  have p5 : w2.cell? ⟨w.heap.size, 5, none⟩ = some (.int .i64 x.reason) := cell_of_row w2 w.heap.size 5 _ _ (0, 0) x2
  clear t2 q2 x2 f2
  go_wp2_with fail
  refine (small_w w0.heap.size b l2 b2 x.reason 5 HRR.out (by omega) w2 T2.out.wr (by have := Q2.out.len; omega)).mono ?_
  rintro e w3 ⟨rfl, l3, b3, t3, q3⟩
  obtain ⟨x3, f3⟩ := t3.box X2.out F2.out
  have T3 := Lib.hid (T2.out.trans t3)
  have Q3 := Lib.hid (Q2.out.then q3)
  have X3 := Lib.hid x3
  have F3 := Lib.hid f3
  clear t3 q3 x3 f3
  go_wp2_with fail
  go_end0
  exact ⟨rfl, l3, b3, T3.out, Q3.out.conv (fun _ => by simp [deadB]) (by simp [deadOk, Bool.and_assoc]) (by omega)⟩

set_option maxRecDepth 100000 in
set_option maxHeartbeats 4000000 in
theorem event_w (w0 : World) (b : Nat) (l : List UInt8) (bad : Bool) (x : EventP) (hn : Num64 x.n ∧ Num64 x.tick ∧ Num64 x.item) (hv : ∀ v ∈ x.attrs, VIn64 v) (hlv : x.attrs.length ≤ 281474976710656) (aa : Option Addr) (ac : Nat) (hat : ValsAt w0 aa x.attrs) (w : World) (hk0 : Below w0.heap.size w0 w) (h : Wr w0.heap.size b l bad w) (hl : l.length ≤ 2000000) :
    Calls Try.prog 64 #[.pointer (some ⟨b, 0, none⟩), .agg #[.int .i64 x.n, .int .i64 x.tick, .string (S x.name), .int .i64 x.item, .string (S x.typ), .string (S x.state), .slice aa x.attrs.length ac]] w fun e w' => PutsTo w0.heap.size b (eventB x) (eventOk x) 5000 l bad w e w' := by
  have HNN := Lib.hid hn
  have HV := Lib.hid hv
  have HLV := Lib.hid hlv
  have HAT := Lib.hid hat
  have T0 := Lib.hid (WrTo.fresh h (.cells #[.int .i64 x.n, .int .i64 x.tick, .string (S x.name), .int .i64 x.item, .string (S x.typ), .string (S x.state), .slice aa x.attrs.length ac] 57))
  have X0 := Lib.hid (heap_alloc_new w (.cells #[.int .i64 x.n, .int .i64 x.tick, .string (S x.name), .int .i64 x.item, .string (S x.typ), .string (S x.state), .slice aa x.attrs.length ac] 57))
  have F0 := Lib.hid (h.off_new (.cells #[.int .i64 x.n, .int .i64 x.tick, .string (S x.name), .int .i64 x.item, .string (S x.typ), .string (S x.state), .slice aa x.attrs.length ac] 57))
  have Q0 := Lib.hid (Wrote.nil l bad)
  have HK0 := Lib.hid hk0
  clear h hk0 hn hv hlv hat
  go_enter Try.func64, Try.ntmps64
  go_wp2_with fail
  refine (number_w w0.heap.size b l bad x.n HNN.out.1 (w.alloc (.cells #[.int .i64 x.n, .int .i64 x.tick, .string (S x.name), .int .i64 x.item, .string (S x.typ), .string (S x.state), .slice aa x.attrs.length ac] 57)) T0.out.wr (by have := Q0.out.len; omega)).mono ?_
  rintro e w1 ⟨rfl, l1, b1, t1, q1⟩
  obtain ⟨x1, f1⟩ := t1.box X0.out F0.out
  have T1 := Lib.hid (T0.out.trans t1)
  have Q1 := Lib.hid (Q0.out.then q1)
  have X1 := Lib.hid x1
  have F1 := Lib.hid f1
  have p0 : w1.cell? ⟨w.heap.size, 0, none⟩ = some (.int .i64 x.n) := cell_of_row w1 w.heap.size 0 _ _ (0, 0) x1
  have p1 : w1.cell? ⟨w.heap.size, 1, none⟩ = some (.int .i64 x.tick) := cell_of_row w1 w.heap.size 1 _ _ (0, 0) x1
  have p2 : w1.cell? ⟨w.heap.size, 2, none⟩ = some (.string (S x.name)) := cell_of_row w1 w.heap.size 2 _ _ (0, 0) x1
  have p3 : w1.cell? ⟨w.heap.size, 3, none⟩ = some (.int .i64 x.item) := cell_of_row w1 w.heap.size 3 _ _ (0, 0) x1
  have p4 : w1.cell? ⟨w.heap.size, 4, none⟩ = some (.string (S x.typ)) := cell_of_row w1 w.heap.size 4 _ _ (0, 0) x1
  have p5 : w1.cell? ⟨w.heap.size, 5, none⟩ = some (.string (S x.state)) := cell_of_row w1 w.heap.size 5 _ _ (0, 0) x1
  have p6 : w1.cell? ⟨w.heap.size, 6, none⟩ = some (.slice aa x.attrs.length ac) := cell_of_row w1 w.heap.size 6 _ _ (0, 0) x1
  clear t1 q1 x1 f1
  go_wp2_with fail
  refine (number_w w0.heap.size b l1 b1 x.tick HNN.out.2.1 w1 T1.out.wr (by have := Q1.out.len; omega)).mono ?_
  rintro e w2 ⟨rfl, l2, b2, t2, q2⟩
  obtain ⟨x2, f2⟩ := t2.box X1.out F1.out
  have T2 := Lib.hid (T1.out.trans t2)
  have Q2 := Lib.hid (Q1.out.then q2)
  have X2 := Lib.hid x2
  have F2 := Lib.hid f2
  have p0 : w2.cell? ⟨w.heap.size, 0, none⟩ = some (.int .i64 x.n) := cell_of_row w2 w.heap.size 0 _ _ (0, 0) x2
  have p1 : w2.cell? ⟨w.heap.size, 1, none⟩ = some (.int .i64 x.tick) := cell_of_row w2 w.heap.size 1 _ _ (0, 0) x2
  have p2 : w2.cell? ⟨w.heap.size, 2, none⟩ = some (.string (S x.name)) := cell_of_row w2 w.heap.size 2 _ _ (0, 0) x2
  have p3 : w2.cell? ⟨w.heap.size, 3, none⟩ = some (.int .i64 x.item) := cell_of_row w2 w.heap.size 3 _ _ (0, 0) x2
  have p4 : w2.cell? ⟨w.heap.size, 4, none⟩ = some (.string (S x.typ)) := cell_of_row w2 w.heap.size 4 _ _ (0, 0) x2
  have p5 : w2.cell? ⟨w.heap.size, 5, none⟩ = some (.string (S x.state)) := cell_of_row w2 w.heap.size 5 _ _ (0, 0) x2
  have p6 : w2.cell? ⟨w.heap.size, 6, none⟩ = some (.slice aa x.attrs.length ac) := cell_of_row w2 w.heap.size 6 _ _ (0, 0) x2
  clear t2 q2 x2 f2
  go_wp2_with fail
  refine (number_w w0.heap.size b l2 b2 x.item HNN.out.2.2 w2 T2.out.wr (by have := Q2.out.len; omega)).mono ?_
  rintro e w3 ⟨rfl, l3, b3, t3, q3⟩
  obtain ⟨x3, f3⟩ := t3.box X2.out F2.out
  have T3 := Lib.hid (T2.out.trans t3)
  have Q3 := Lib.hid (Q2.out.then q3)
  have X3 := Lib.hid x3
  have F3 := Lib.hid f3
  have p0 : w3.cell? ⟨w.heap.size, 0, none⟩ = some (.int .i64 x.n) := cell_of_row w3 w.heap.size 0 _ _ (0, 0) x3
  have p1 : w3.cell? ⟨w.heap.size, 1, none⟩ = some (.int .i64 x.tick) := cell_of_row w3 w.heap.size 1 _ _ (0, 0) x3
  have p2 : w3.cell? ⟨w.heap.size, 2, none⟩ = some (.string (S x.name)) := cell_of_row w3 w.heap.size 2 _ _ (0, 0) x3
  have p3 : w3.cell? ⟨w.heap.size, 3, none⟩ = some (.int .i64 x.item) := cell_of_row w3 w.heap.size 3 _ _ (0, 0) x3
  have p4 : w3.cell? ⟨w.heap.size, 4, none⟩ = some (.string (S x.typ)) := cell_of_row w3 w.heap.size 4 _ _ (0, 0) x3
  have p5 : w3.cell? ⟨w.heap.size, 5, none⟩ = some (.string (S x.state)) := cell_of_row w3 w.heap.size 5 _ _ (0, 0) x3
  have p6 : w3.cell? ⟨w.heap.size, 6, none⟩ = some (.slice aa x.attrs.length ac) := cell_of_row w3 w.heap.size 6 _ _ (0, 0) x3
  clear t3 q3 x3 f3
  go_wp2_with fail
  refine (name_w w0.heap.size b l3 b3 x.name w3 T3.out.wr (by have := Q3.out.len; omega)).mono ?_
  rintro e w4 ⟨rfl, l4, b4, t4, q4⟩
  obtain ⟨x4, f4⟩ := t4.box X3.out F3.out
  have T4 := Lib.hid (T3.out.trans t4)
  have Q4 := Lib.hid (Q3.out.then q4)
  have X4 := Lib.hid x4
  have F4 := Lib.hid f4
  have p0 : w4.cell? ⟨w.heap.size, 0, none⟩ = some (.int .i64 x.n) := cell_of_row w4 w.heap.size 0 _ _ (0, 0) x4
  have p1 : w4.cell? ⟨w.heap.size, 1, none⟩ = some (.int .i64 x.tick) := cell_of_row w4 w.heap.size 1 _ _ (0, 0) x4
  have p2 : w4.cell? ⟨w.heap.size, 2, none⟩ = some (.string (S x.name)) := cell_of_row w4 w.heap.size 2 _ _ (0, 0) x4
  have p3 : w4.cell? ⟨w.heap.size, 3, none⟩ = some (.int .i64 x.item) := cell_of_row w4 w.heap.size 3 _ _ (0, 0) x4
  have p4 : w4.cell? ⟨w.heap.size, 4, none⟩ = some (.string (S x.typ)) := cell_of_row w4 w.heap.size 4 _ _ (0, 0) x4
  have p5 : w4.cell? ⟨w.heap.size, 5, none⟩ = some (.string (S x.state)) := cell_of_row w4 w.heap.size 5 _ _ (0, 0) x4
  have p6 : w4.cell? ⟨w.heap.size, 6, none⟩ = some (.slice aa x.attrs.length ac) := cell_of_row w4 w.heap.size 6 _ _ (0, 0) x4
  clear t4 q4 x4 f4
  go_wp2_with fail
  refine (name_w w0.heap.size b l4 b4 x.typ w4 T4.out.wr (by have := Q4.out.len; omega)).mono ?_
  rintro e w5 ⟨rfl, l5, b5, t5, q5⟩
  obtain ⟨x5, f5⟩ := t5.box X4.out F4.out
  have T5 := Lib.hid (T4.out.trans t5)
  have Q5 := Lib.hid (Q4.out.then q5)
  have X5 := Lib.hid x5
  have F5 := Lib.hid f5
  have p0 : w5.cell? ⟨w.heap.size, 0, none⟩ = some (.int .i64 x.n) := cell_of_row w5 w.heap.size 0 _ _ (0, 0) x5
  have p1 : w5.cell? ⟨w.heap.size, 1, none⟩ = some (.int .i64 x.tick) := cell_of_row w5 w.heap.size 1 _ _ (0, 0) x5
  have p2 : w5.cell? ⟨w.heap.size, 2, none⟩ = some (.string (S x.name)) := cell_of_row w5 w.heap.size 2 _ _ (0, 0) x5
  have p3 : w5.cell? ⟨w.heap.size, 3, none⟩ = some (.int .i64 x.item) := cell_of_row w5 w.heap.size 3 _ _ (0, 0) x5
  have p4 : w5.cell? ⟨w.heap.size, 4, none⟩ = some (.string (S x.typ)) := cell_of_row w5 w.heap.size 4 _ _ (0, 0) x5
  have p5 : w5.cell? ⟨w.heap.size, 5, none⟩ = some (.string (S x.state)) := cell_of_row w5 w.heap.size 5 _ _ (0, 0) x5
  have p6 : w5.cell? ⟨w.heap.size, 6, none⟩ = some (.slice aa x.attrs.length ac) := cell_of_row w5 w.heap.size 6 _ _ (0, 0) x5
  clear t5 q5 x5 f5
  go_wp2_with fail
  refine (name_w w0.heap.size b l5 b5 x.state w5 T5.out.wr (by have := Q5.out.len; omega)).mono ?_
  rintro e w6 ⟨rfl, l6, b6, t6, q6⟩
  obtain ⟨x6, f6⟩ := t6.box X5.out F5.out
  have T6 := Lib.hid (T5.out.trans t6)
  have Q6 := Lib.hid (Q5.out.then q6)
  have X6 := Lib.hid x6
  have F6 := Lib.hid f6
  have p0 : w6.cell? ⟨w.heap.size, 0, none⟩ = some (.int .i64 x.n) := cell_of_row w6 w.heap.size 0 _ _ (0, 0) x6
  have p1 : w6.cell? ⟨w.heap.size, 1, none⟩ = some (.int .i64 x.tick) := cell_of_row w6 w.heap.size 1 _ _ (0, 0) x6
  have p2 : w6.cell? ⟨w.heap.size, 2, none⟩ = some (.string (S x.name)) := cell_of_row w6 w.heap.size 2 _ _ (0, 0) x6
  have p3 : w6.cell? ⟨w.heap.size, 3, none⟩ = some (.int .i64 x.item) := cell_of_row w6 w.heap.size 3 _ _ (0, 0) x6
  have p4 : w6.cell? ⟨w.heap.size, 4, none⟩ = some (.string (S x.typ)) := cell_of_row w6 w.heap.size 4 _ _ (0, 0) x6
  have p5 : w6.cell? ⟨w.heap.size, 5, none⟩ = some (.string (S x.state)) := cell_of_row w6 w.heap.size 5 _ _ (0, 0) x6
  have p6 : w6.cell? ⟨w.heap.size, 6, none⟩ = some (.slice aa x.attrs.length ac) := cell_of_row w6 w.heap.size 6 _ _ (0, 0) x6
  clear t6 q6 x6 f6
  go_wp2_with fail
  refine (row_w w0 b l6 b6 x.attrs HV.out aa ac HAT.out HLV.out w6 (HK0.out.trans T6.out.below) T6.out.wr (by have := Q6.out.len; omega)).mono ?_
  rintro e w7 ⟨rfl, l7, b7, t7, q7⟩
  obtain ⟨x7, f7⟩ := t7.box X6.out F6.out
  have T7 := Lib.hid (T6.out.trans t7)
  have Q7 := Lib.hid (Q6.out.then q7)
  have X7 := Lib.hid x7
  have F7 := Lib.hid f7
  clear t7 q7 x7 f7
  go_wp2_with fail
  go_end0
  exact ⟨rfl, l7, b7, T7.out, Q7.out.conv (fun _ => by simp [eventB]) (by simp [eventOk, Bool.and_assoc]) (by omega)⟩

set_option maxRecDepth 100000 in
set_option maxHeartbeats 4000000 in
theorem sub_w (w0 : World) (b : Nat) (l : List UInt8) (bad : Bool) (x : SubP) (hn : Num64 x.id ∧ Num64 x.past) (w : World) (hk0 : Below w0.heap.size w0 w) (h : Wr w0.heap.size b l bad w) (hl : l.length ≤ 2000000) :
    Calls Try.prog 66 #[.pointer (some ⟨b, 0, none⟩), .agg #[.int .i64 x.id, .string (S x.role), .int .i64 x.past]] w fun e w' => PutsTo w0.heap.size b (subB x) (subOk x) 60 l bad w e w' := by
  have HNN := Lib.hid hn
  have T0 := Lib.hid (WrTo.fresh h (.cells #[.int .i64 x.id, .string (S x.role), .int .i64 x.past] 63))
  have X0 := Lib.hid (heap_alloc_new w (.cells #[.int .i64 x.id, .string (S x.role), .int .i64 x.past] 63))
  have F0 := Lib.hid (h.off_new (.cells #[.int .i64 x.id, .string (S x.role), .int .i64 x.past] 63))
  have Q0 := Lib.hid (Wrote.nil l bad)
  have HK0 := Lib.hid hk0
  clear h hk0 hn
  go_enter Try.func66, Try.ntmps66
  go_wp2_with fail
  refine (number_w w0.heap.size b l bad x.id HNN.out.1 (w.alloc (.cells #[.int .i64 x.id, .string (S x.role), .int .i64 x.past] 63)) T0.out.wr (by have := Q0.out.len; omega)).mono ?_
  rintro e w1 ⟨rfl, l1, b1, t1, q1⟩
  obtain ⟨x1, f1⟩ := t1.box X0.out F0.out
  have T1 := Lib.hid (T0.out.trans t1)
  have Q1 := Lib.hid (Q0.out.then q1)
  have X1 := Lib.hid x1
  have F1 := Lib.hid f1
  have p0 : w1.cell? ⟨w.heap.size, 0, none⟩ = some (.int .i64 x.id) := cell_of_row w1 w.heap.size 0 _ _ (0, 0) x1
  have p1 : w1.cell? ⟨w.heap.size, 1, none⟩ = some (.string (S x.role)) := cell_of_row w1 w.heap.size 1 _ _ (0, 0) x1
  have p2 : w1.cell? ⟨w.heap.size, 2, none⟩ = some (.int .i64 x.past) := cell_of_row w1 w.heap.size 2 _ _ (0, 0) x1
  clear t1 q1 x1 f1
  go_wp2_with fail
  refine (number_w w0.heap.size b l1 b1 x.past HNN.out.2 w1 T1.out.wr (by have := Q1.out.len; omega)).mono ?_
  rintro e w2 ⟨rfl, l2, b2, t2, q2⟩
  obtain ⟨x2, f2⟩ := t2.box X1.out F1.out
  have T2 := Lib.hid (T1.out.trans t2)
  have Q2 := Lib.hid (Q1.out.then q2)
  have X2 := Lib.hid x2
  have F2 := Lib.hid f2
  have p0 : w2.cell? ⟨w.heap.size, 0, none⟩ = some (.int .i64 x.id) := cell_of_row w2 w.heap.size 0 _ _ (0, 0) x2
  have p1 : w2.cell? ⟨w.heap.size, 1, none⟩ = some (.string (S x.role)) := cell_of_row w2 w.heap.size 1 _ _ (0, 0) x2
  have p2 : w2.cell? ⟨w.heap.size, 2, none⟩ = some (.int .i64 x.past) := cell_of_row w2 w.heap.size 2 _ _ (0, 0) x2
  clear t2 q2 x2 f2
  go_wp2_with fail
  refine (name_w w0.heap.size b l2 b2 x.role w2 T2.out.wr (by have := Q2.out.len; omega)).mono ?_
  rintro e w3 ⟨rfl, l3, b3, t3, q3⟩
  obtain ⟨x3, f3⟩ := t3.box X2.out F2.out
  have T3 := Lib.hid (T2.out.trans t3)
  have Q3 := Lib.hid (Q2.out.then q3)
  have X3 := Lib.hid x3
  have F3 := Lib.hid f3
  clear t3 q3 x3 f3
  go_wp2_with fail
  go_end0
  exact ⟨rfl, l3, b3, T3.out, Q3.out.conv (fun _ => by simp [subB]) (by simp [subOk, Bool.and_assoc]) (by omega)⟩

end Go.Proofs.Ytkdhchdhgmaolaa.Cd
