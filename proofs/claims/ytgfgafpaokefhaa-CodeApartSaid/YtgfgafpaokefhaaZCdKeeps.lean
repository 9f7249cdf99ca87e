/-
  CodeKeeps, walked.
-/
import Derived.Test.YtgfgafpaokefhaaZCdRight
import Derived.Test.YtgfgafpaokefhaaZCdAwake
namespace Go.Proofs.Ytgfgafpaokefhaa.Cd
open Go.RowKit
open Pk Va
set_option linter.unusedVariables false
set_option linter.unusedSimpArgs false

theorem mails_one (W : World) (m : MailP) (ka fa : Option Addr) (kc fc : Nat) (hka : ValsAt W ka m.key) (hfa : ValsAt W fa m.fields) :
    MailsAt (W.alloc (.cells #[.int .i64 m.id, .string (S m.chan), .slice ka m.key.length kc, .slice fa m.fields.length fc] 27)) (some ⟨W.heap.size, 0, none⟩) [m] := fun i hi => by
  have h0 : i = 0 := by simpa using hi
  subst h0
  have hb := heap_alloc_new W (.cells #[.int .i64 m.id, .string (S m.chan), .slice ka m.key.length kc, .slice fa m.fields.length fc] 27)
  have kk := (Below.refl W.heap.size W).alloc (Nat.le_refl _) (.cells #[.int .i64 m.id, .string (S m.chan), .slice ka m.key.length kc, .slice fa m.fields.length fc] 27)
  exact ⟨W.heap.size, 0, ka, kc, fa, fc, rfl, ⟨cell_of_row _ _ 0 _ _ (0, 0) hb, cell_of_row _ _ 1 _ _ (0, 0) hb, cell_of_row _ _ 2 _ _ (0, 0) hb, cell_of_row _ _ 3 _ _ (0, 0) hb, hka.below kk, hfa.below kk⟩, by simp⟩
structure EBig (y : EventP) : Prop where
  n : Num64 y.n
  tick : Num64 y.tick
  item : Num64 y.item
  name : y.name.length ≤ 140737488355328
  typ : y.typ.length ≤ 140737488355328
  state : y.state.length ≤ 140737488355328
  attrs : ∀ v ∈ y.attrs, VBig v
  alen : y.attrs.length ≤ 281474976710656
/-- A call's contract, among worlds that have grown out of W0. -/
theorem good_calls {P : Program} {f : FuncId} {args : Array Value} {W0 W : World} {R : Ending → Prop} (k : Good W0 W) (h : Calls P f args W fun e w' => R e ∧ Below W.heap.size W w') : Calls P f args W fun e w' => R e ∧ Good W0 w' :=
  h.mono fun _ _ g => ⟨g.1, k.step g.2⟩

set_option maxRecDepth 100000 in
set_option maxHeartbeats 16000000 in
theorem CodeKeeps_walk (x : DeadP) (hxn : Num64 x.n) (hxr : Num64 x.reason) (hm : MBig x.mail) (ka : Option Addr) (kc : Nat) (fa : Option Addr) (fc : Nat) (y : EventP) (hy : EBig y) (aa : Option Addr) (ac : Nat) (z : SubP) (hz1 : Num64 z.id) (hz2 : Num64 z.past) (hz3 : z.role.length ≤ 140737488355328) (w : World)
    (hka : ValsAt w ka x.mail.key) (hfa : ValsAt w fa x.mail.fields) (hat : ValsAt w aa y.attrs) :
    Calls Try.prog 4 #[.agg #[.int .i64 x.n, .int .i64 x.mail.id, .string (S x.mail.chan), .slice ka x.mail.key.length kc, .slice fa x.mail.fields.length fc, .int .i64 x.reason], .agg #[.int .i64 y.n, .int .i64 y.tick, .string (S y.name), .int .i64 y.item, .string (S y.typ), .string (S y.state), .slice aa y.attrs.length ac], .agg #[.int .i64 z.id, .string (S z.role), .int .i64 z.past]] w fun e w' => e = .returned (.bool true) ∧ Below w.heap.size w w' := by
  obtain ⟨W0, hW0⟩ : ∃ W0, W0 = ((w.alloc (.cells #[.int .i64 x.n, .int .i64 x.mail.id, .string (S x.mail.chan), .slice ka x.mail.key.length kc, .slice fa x.mail.fields.length fc, .int .i64 x.reason] 48)).alloc (.cells #[.int .i64 y.n, .int .i64 y.tick, .string (S y.name), .int .i64 y.item, .string (S y.typ), .string (S y.state), .slice aa y.attrs.length ac] 50)).alloc (.cells #[.int .i64 z.id, .string (S z.role), .int .i64 z.past] 52) := ⟨_, rfl⟩
  have hb : Below w.heap.size w W0 := by rw [hW0]; exact (((Below.refl w.heap.size w).alloc (Nat.le_refl _) _).alloc (by simp) _).alloc (by simp; omega) _
  have e0 : W0.heap[w.heap.size]? = some (.cells #[.int .i64 x.n, .int .i64 x.mail.id, .string (S x.mail.chan), .slice ka x.mail.key.length kc, .slice fa x.mail.fields.length fc, .int .i64 x.reason] 48 (0, 0)) := by rw [hW0]; exact (((Below.refl _ _).alloc (Nat.le_refl _) _).block _ (by simp; omega)).trans ((((Below.refl _ _).alloc (Nat.le_refl _) _).block _ (by simp)).trans (heap_alloc_new w _))
  have e1 : W0.heap[w.heap.size + 1]? = some (.cells #[.int .i64 y.n, .int .i64 y.tick, .string (S y.name), .int .i64 y.item, .string (S y.typ), .string (S y.state), .slice aa y.attrs.length ac] 50 (0, 0)) := by rw [hW0]; exact (((Below.refl _ _).alloc (Nat.le_refl _) _).block _ (by simp)).trans (by have := heap_alloc_new (w.alloc (.cells #[.int .i64 x.n, .int .i64 x.mail.id, .string (S x.mail.chan), .slice ka x.mail.key.length kc, .slice fa x.mail.fields.length fc, .int .i64 x.reason] 48)) (.cells #[.int .i64 y.n, .int .i64 y.tick, .string (S y.name), .int .i64 y.item, .string (S y.typ), .string (S y.state), .slice aa y.attrs.length ac] 50); rwa [show (w.alloc (.cells #[.int .i64 x.n, .int .i64 x.mail.id, .string (S x.mail.chan), .slice ka x.mail.key.length kc, .slice fa x.mail.fields.length fc, .int .i64 x.reason] 48)).heap.size = w.heap.size + 1 by simp] at this)
  have e2 : W0.heap[w.heap.size + 1 + 1]? = some (.cells #[.int .i64 z.id, .string (S z.role), .int .i64 z.past] 52 (0, 0)) := by rw [hW0]; have := heap_alloc_new ((w.alloc (.cells #[.int .i64 x.n, .int .i64 x.mail.id, .string (S x.mail.chan), .slice ka x.mail.key.length kc, .slice fa x.mail.fields.length fc, .int .i64 x.reason] 48)).alloc (.cells #[.int .i64 y.n, .int .i64 y.tick, .string (S y.name), .int .i64 y.item, .string (S y.typ), .string (S y.state), .slice aa y.attrs.length ac] 50)) (.cells #[.int .i64 z.id, .string (S z.role), .int .i64 z.past] 52); rwa [show ((w.alloc (.cells #[.int .i64 x.n, .int .i64 x.mail.id, .string (S x.mail.chan), .slice ka x.mail.key.length kc, .slice fa x.mail.fields.length fc, .int .i64 x.reason] 48)).alloc (.cells #[.int .i64 y.n, .int .i64 y.tick, .string (S y.name), .int .i64 y.item, .string (S y.typ), .string (S y.state), .slice aa y.attrs.length ac] 50)).heap.size = w.heap.size + 1 + 1 by simp] at this
  have hKA := hka.below hb
  have hFA := hfa.below hb
  have hAT := hat.below hb
  have HKEEP := Lib.hid (fun W (k : Good W0 W) => show (W.cell? ⟨w.heap.size, 0, none⟩ = some (.int .i64 x.n) ∧ W.cell? ⟨w.heap.size, 1, none⟩ = some (.int .i64 x.mail.id) ∧ W.cell? ⟨w.heap.size, 2, none⟩ = some (.string (S x.mail.chan)) ∧ W.cell? ⟨w.heap.size, 3, none⟩ = some (.slice ka x.mail.key.length kc) ∧ W.cell? ⟨w.heap.size, 4, none⟩ = some (.slice fa x.mail.fields.length fc) ∧ W.cell? ⟨w.heap.size, 5, none⟩ = some (.int .i64 x.reason)) ∧ (W.cell? ⟨w.heap.size + 1, 0, none⟩ = some (.int .i64 y.n) ∧ W.cell? ⟨w.heap.size + 1, 1, none⟩ = some (.int .i64 y.tick) ∧ W.cell? ⟨w.heap.size + 1, 2, none⟩ = some (.string (S y.name)) ∧ W.cell? ⟨w.heap.size + 1, 3, none⟩ = some (.int .i64 y.item) ∧ W.cell? ⟨w.heap.size + 1, 4, none⟩ = some (.string (S y.typ)) ∧ W.cell? ⟨w.heap.size + 1, 5, none⟩ = some (.string (S y.state)) ∧ W.cell? ⟨w.heap.size + 1, 6, none⟩ = some (.slice aa y.attrs.length ac)) ∧ (W.cell? ⟨w.heap.size + 1 + 1, 0, none⟩ = some (.int .i64 z.id) ∧ W.cell? ⟨w.heap.size + 1 + 1, 1, none⟩ = some (.string (S z.role)) ∧ W.cell? ⟨w.heap.size + 1 + 1, 2, none⟩ = some (.int .i64 z.past)) from
    ⟨⟨cell_of_row W (w.heap.size) 0 _ _ (0, 0) ((k.block (w.heap.size) (lt_of_heapV e0)).trans e0), cell_of_row W (w.heap.size) 1 _ _ (0, 0) ((k.block (w.heap.size) (lt_of_heapV e0)).trans e0), cell_of_row W (w.heap.size) 2 _ _ (0, 0) ((k.block (w.heap.size) (lt_of_heapV e0)).trans e0), cell_of_row W (w.heap.size) 3 _ _ (0, 0) ((k.block (w.heap.size) (lt_of_heapV e0)).trans e0), cell_of_row W (w.heap.size) 4 _ _ (0, 0) ((k.block (w.heap.size) (lt_of_heapV e0)).trans e0), cell_of_row W (w.heap.size) 5 _ _ (0, 0) ((k.block (w.heap.size) (lt_of_heapV e0)).trans e0)⟩, ⟨cell_of_row W (w.heap.size + 1) 0 _ _ (0, 0) ((k.block (w.heap.size + 1) (lt_of_heapV e1)).trans e1), cell_of_row W (w.heap.size + 1) 1 _ _ (0, 0) ((k.block (w.heap.size + 1) (lt_of_heapV e1)).trans e1), cell_of_row W (w.heap.size + 1) 2 _ _ (0, 0) ((k.block (w.heap.size + 1) (lt_of_heapV e1)).trans e1), cell_of_row W (w.heap.size + 1) 3 _ _ (0, 0) ((k.block (w.heap.size + 1) (lt_of_heapV e1)).trans e1), cell_of_row W (w.heap.size + 1) 4 _ _ (0, 0) ((k.block (w.heap.size + 1) (lt_of_heapV e1)).trans e1), cell_of_row W (w.heap.size + 1) 5 _ _ (0, 0) ((k.block (w.heap.size + 1) (lt_of_heapV e1)).trans e1), cell_of_row W (w.heap.size + 1) 6 _ _ (0, 0) ((k.block (w.heap.size + 1) (lt_of_heapV e1)).trans e1)⟩, ⟨cell_of_row W (w.heap.size + 1 + 1) 0 _ _ (0, 0) ((k.block (w.heap.size + 1 + 1) (lt_of_heapV e2)).trans e2), cell_of_row W (w.heap.size + 1 + 1) 1 _ _ (0, 0) ((k.block (w.heap.size + 1 + 1) (lt_of_heapV e2)).trans e2), cell_of_row W (w.heap.size + 1 + 1) 2 _ _ (0, 0) ((k.block (w.heap.size + 1 + 1) (lt_of_heapV e2)).trans e2)⟩⟩)
  have HFIN := Lib.hid (fun (wr : World) (h : Good W0 wr) => hb.trans (h.mono hb.size))
  have HAW := Lib.hid (fun W (k : Good W0 W) => good_calls (R := fun e => e = .returned (.bool true)) k (awake_any W))
  have HG0 := Lib.hid (Good.refl W0)
  have HFEW := Lib.hid (fun W (k : Good W0 W) => good_calls (R := fun e => e = .returned (.bool (fewB [x.mail]))) (k.alloc (.cells #[.int .i64 x.mail.id, .string (S x.mail.chan), .slice ka x.mail.key.length kc, .slice fa x.mail.fields.length fc] 27)) (few_any [x.mail] (by simp) (fun m h => by simp at h; subst h; exact ⟨hm.klen, hm.flen⟩) (some ⟨W.heap.size, 0, none⟩) 1 (W.alloc (.cells #[.int .i64 x.mail.id, .string (S x.mail.chan), .slice ka x.mail.key.length kc, .slice fa x.mail.fields.length fc] 27)) (mails_one W x.mail ka fa kc fc (hKA.below k) (hFA.below k))))
  have HW0 := Lib.hid hW0
  by_cases hfew : fewB [x.mail] = true
  · rw [hfew] at HFEW
    obtain ⟨_, hk40, hf40⟩ := fewB_at hfew (List.mem_singleton.2 rfl)
    by_cases ha40 : y.attrs.length ≤ 40
    · have ha40i : ¬ (40 : Int) < (y.attrs.length : Int) := by omega
      have HPD := Lib.hid (fun W (k : Good W0 W) => good_calls (R := fun e => e = .returned (putR (deadB x) (deadOk x))) k (PutDead_any x hxn hxr hm.in_ ka kc fa fc W (hKA.below k) (hFA.below k)))
      have HPE := Lib.hid (fun W (k : Good W0 W) => good_calls (R := fun e => e = .returned (putR (eventB y) (eventOk y))) k (PutEvent_any y ⟨hy.n, hy.tick, hy.item⟩ (fun v hv => (hy.attrs v hv).in_) hy.alen aa ac W (hAT.below k)))
      have HPS := Lib.hid (fun W (k : Good W0 W) => good_calls (R := fun e => e = .returned (putR (subB z) (subOk z))) k (PutSub_any z ⟨hz1, hz2⟩ W))
      have HDD := Lib.hid (fun W (k : Good W0 W) => good_calls (R := fun e => e = .returned (.string (S (deadB x)))) k (rdead_any x hxn hxr hm hk40 hf40 ka kc fa fc W (hKA.below k) (hFA.below k)))
      have HDE := Lib.hid (fun W (k : Good W0 W) => good_calls (R := fun e => e = .returned (.string (S (eventB y)))) k (revent_any y hy.n hy.tick hy.item hy.name hy.typ hy.state hy.attrs ha40 aa ac W (hAT.below k)))
      have HDS := Lib.hid (fun W (k : Good W0 W) => good_calls (R := fun e => e = .returned (.string (S (subB z)))) k (rsub_any z hz1 hz2 hz3 W))
      have HRD := Lib.hid (fun W (k : Good W0 W) => good_calls (R := fun e => e = .returned (.bool (deadOk x))) k (rrightDead_any x hm ka kc fa fc W (hKA.below k) (hFA.below k)))
      have HRE := Lib.hid (fun W (k : Good W0 W) => good_calls (R := fun e => e = .returned (.bool (eventOk y))) k (rrightEvent_any y (fun v hv => (hy.attrs v hv).ok) hy.alen aa ac W (hAT.below k)))
      have HRS := Lib.hid (fun W (k : Good W0 W) => good_calls (R := fun e => e = .returned (.bool (subOk z))) k (rrightSub_any z W))
      have HL1 := Lib.hid (fun W => lawPut_any (deadB x) (deadOk x) W)
      have HL2 := Lib.hid (fun W => lawPut_any (eventB y) (eventOk y) W)
      have HL3 := Lib.hid (fun W => lawPut_any (subB z) (subOk z) W)
      unfold putR at HPD HPE HPS
      generalize S (if deadOk x = true then deadB x else []) = A1 at *
      generalize (if deadOk x = true then (0 : Int) else 4) = E1 at *
      generalize S (deadB x) = D1 at *
      generalize deadOk x = O1 at *
      generalize S (if eventOk y = true then eventB y else []) = A2 at *
      generalize (if eventOk y = true then (0 : Int) else 4) = E2 at *
      generalize S (eventB y) = D2 at *
      generalize eventOk y = O2 at *
      generalize S (if subOk z = true then subB z else []) = A3 at *
      generalize (if subOk z = true then (0 : Int) else 4) = E3 at *
      generalize S (subB z) = D3 at *
      generalize subOk z = O3 at *
      clear hb e0 e1 e2 hKA hFA hAT hka hfa hat hm hy hxn hxr hz1 hz2 hz3 hW0 hfew hk40 hf40 ha40
      go_enter Try.func4, Try.ntmps4
      go_wp2_with fail
      rw [← HW0.out]
      refine (HAW.out _ HG0.out).mono ?_
      rintro e w1 ⟨rfl, b1⟩
      have HG1 := Lib.hid b1
      obtain ⟨⟨p0, p1, p2, p3, p4, p5⟩, ⟨q0, q1, q2, q3, q4, q5, q6⟩, ⟨s0, s1, s2⟩⟩ := HKEEP.out _ HG1.out
      clear b1
      go_wp2_with fail
      refine (HFEW.out _ HG1.out).mono ?_
      rintro e w2 ⟨rfl, b2⟩
      have HG2 := Lib.hid b2
      obtain ⟨⟨p0, p1, p2, p3, p4, p5⟩, ⟨q0, q1, q2, q3, q4, q5, q6⟩, ⟨s0, s1, s2⟩⟩ := HKEEP.out _ HG2.out
      clear b2
      go_wp2_with fail
      refine (HPD.out _ HG2.out).mono ?_
      rintro e w3 ⟨rfl, b3⟩
      have HG3 := Lib.hid b3
      obtain ⟨⟨p0, p1, p2, p3, p4, p5⟩, ⟨q0, q1, q2, q3, q4, q5, q6⟩, ⟨s0, s1, s2⟩⟩ := HKEEP.out _ HG3.out
      clear b3
      go_wp2_with fail
      refine (HPE.out _ HG3.out).mono ?_
      rintro e w4 ⟨rfl, b4⟩
      have HG4 := Lib.hid b4
      obtain ⟨⟨p0, p1, p2, p3, p4, p5⟩, ⟨q0, q1, q2, q3, q4, q5, q6⟩, ⟨s0, s1, s2⟩⟩ := HKEEP.out _ HG4.out
      clear b4
      go_wp2_with fail
      refine (HPS.out _ HG4.out).mono ?_
      rintro e w5 ⟨rfl, b5⟩
      have HG5 := Lib.hid b5
      obtain ⟨⟨p0, p1, p2, p3, p4, p5⟩, ⟨q0, q1, q2, q3, q4, q5, q6⟩, ⟨s0, s1, s2⟩⟩ := HKEEP.out _ HG5.out
      clear b5
      go_wp2_with fail
      have HST := Lib.hid (HKEEP.out _ HG5.out.drew)
      go_region_held3 (fun w7 => (w7.cell? ⟨w.heap.size, 0, none⟩ = some (.int .i64 x.n) ∧ w7.cell? ⟨w.heap.size, 1, none⟩ = some (.int .i64 x.mail.id) ∧ w7.cell? ⟨w.heap.size, 2, none⟩ = some (.string (S x.mail.chan)) ∧ w7.cell? ⟨w.heap.size, 3, none⟩ = some (.slice ka x.mail.key.length kc) ∧ w7.cell? ⟨w.heap.size, 4, none⟩ = some (.slice fa x.mail.fields.length fc) ∧ w7.cell? ⟨w.heap.size, 5, none⟩ = some (.int .i64 x.reason)) ∧ (w7.cell? ⟨w.heap.size + 1, 0, none⟩ = some (.int .i64 y.n) ∧ w7.cell? ⟨w.heap.size + 1, 1, none⟩ = some (.int .i64 y.tick) ∧ w7.cell? ⟨w.heap.size + 1, 2, none⟩ = some (.string (S y.name)) ∧ w7.cell? ⟨w.heap.size + 1, 3, none⟩ = some (.int .i64 y.item) ∧ w7.cell? ⟨w.heap.size + 1, 4, none⟩ = some (.string (S y.typ)) ∧ w7.cell? ⟨w.heap.size + 1, 5, none⟩ = some (.string (S y.state)) ∧ w7.cell? ⟨w.heap.size + 1, 6, none⟩ = some (.slice aa y.attrs.length ac)) ∧ (w7.cell? ⟨w.heap.size + 1 + 1, 0, none⟩ = some (.int .i64 z.id) ∧ w7.cell? ⟨w.heap.size + 1 + 1, 1, none⟩ = some (.string (S z.role)) ∧ w7.cell? ⟨w.heap.size + 1 + 1, 2, none⟩ = some (.int .i64 z.past)))
        (first | assumption | exact HST.out | exact HK7.out)
        (first
        | (go_at_call 10; with_reducible refine (HAW.out _ (by first | exact good_id (by assumption) | exact good_drew (by assumption))).mono ?_; rintro e w7 ⟨rfl, b7⟩; have HG7 := Lib.hid b7; have HK7 := Lib.hid (HKEEP.out _ b7); clear b7)
        | (go_at_call 25; with_reducible refine (HDD.out _ (by first | exact good_id (by assumption) | exact good_drew (by assumption))).mono ?_; rintro e w7 ⟨rfl, b7⟩; have HG7 := Lib.hid b7; have HK7 := Lib.hid (HKEEP.out _ b7); clear b7)
        | (go_at_call 26; with_reducible refine (HRD.out _ (by first | exact good_id (by assumption) | exact good_drew (by assumption))).mono ?_; rintro e w7 ⟨rfl, b7⟩; have HG7 := Lib.hid b7; have HK7 := Lib.hid (HKEEP.out _ b7); clear b7)
        | (go_at_call 27; with_reducible refine (HDE.out _ (by first | exact good_id (by assumption) | exact good_drew (by assumption))).mono ?_; rintro e w7 ⟨rfl, b7⟩; have HG7 := Lib.hid b7; have HK7 := Lib.hid (HKEEP.out _ b7); clear b7)
        | (go_at_call 28; with_reducible refine (HRE.out _ (by first | exact good_id (by assumption) | exact good_drew (by assumption))).mono ?_; rintro e w7 ⟨rfl, b7⟩; have HG7 := Lib.hid b7; have HK7 := Lib.hid (HKEEP.out _ b7); clear b7)
        | (go_at_call 29; with_reducible refine (HDS.out _ (by first | exact good_id (by assumption) | exact good_drew (by assumption))).mono ?_; rintro e w7 ⟨rfl, b7⟩; have HG7 := Lib.hid b7; have HK7 := Lib.hid (HKEEP.out _ b7); clear b7)
        | (go_at_call 30; with_reducible refine (HRS.out _ (by first | exact good_id (by assumption) | exact good_drew (by assumption))).mono ?_; rintro e w7 ⟨rfl, b7⟩; have HG7 := Lib.hid b7; have HK7 := Lib.hid (HKEEP.out _ b7); clear b7)
        | (go_at_call 15; with_reducible refine (HL1.out _).mono ?_; rintro e w7 ⟨rfl, rfl⟩)
        | (go_at_call 15; with_reducible refine (HL2.out _).mono ?_; rintro e w7 ⟨rfl, rfl⟩)
        | (go_at_call 15; with_reducible refine (HL3.out _).mono ?_; rintro e w7 ⟨rfl, rfl⟩))
      all_goals
        go_wp2_with fail
        go_ret
        exact ⟨rfl, HFIN.out _ (by first | exact good_id (by assumption) | exact good_drew (by assumption))⟩
    · have ha40i : (40 : Int) < (y.attrs.length : Int) := by omega
      clear hb e0 e1 e2 hKA hFA hAT hka hfa hat hm hy hxn hxr hz1 hz2 hz3 hW0 hfew hk40 hf40 ha40
      go_enter Try.func4, Try.ntmps4
      go_wp2_with fail
      rw [← HW0.out]
      refine (HAW.out _ HG0.out).mono ?_
      rintro e w1 ⟨rfl, b1⟩
      have HG1 := Lib.hid b1
      obtain ⟨⟨p0, p1, p2, p3, p4, p5⟩, ⟨q0, q1, q2, q3, q4, q5, q6⟩, ⟨s0, s1, s2⟩⟩ := HKEEP.out _ HG1.out
      clear b1
      go_wp2_with fail
      refine (HFEW.out _ HG1.out).mono ?_
      rintro e w2 ⟨rfl, b2⟩
      have HG2 := Lib.hid b2
      obtain ⟨⟨p0, p1, p2, p3, p4, p5⟩, ⟨q0, q1, q2, q3, q4, q5, q6⟩, ⟨s0, s1, s2⟩⟩ := HKEEP.out _ HG2.out
      clear b2
      go_wp2_with fail
      refine (HAW.out _ HG2.out).mono ?_
      rintro e w3 ⟨rfl, b3⟩
      have HG3 := Lib.hid b3
      clear b3
      go_wp2_with fail
      go_ret
      exact ⟨rfl, HFIN.out _ HG3.out⟩
  · have hfew2 : fewB [x.mail] = false := by simpa using hfew
    rw [hfew2] at HFEW
    clear hb e0 e1 e2 hKA hFA hAT hka hfa hat hm hy hxn hxr hz1 hz2 hz3 hW0 hfew hfew2
    go_enter Try.func4, Try.ntmps4
    go_wp2_with fail
    rw [← HW0.out]
    refine (HAW.out _ HG0.out).mono ?_
    rintro e w1 ⟨rfl, b1⟩
    have HG1 := Lib.hid b1
    obtain ⟨⟨p0, p1, p2, p3, p4, p5⟩, ⟨q0, q1, q2, q3, q4, q5, q6⟩, ⟨s0, s1, s2⟩⟩ := HKEEP.out _ HG1.out
    clear b1
    go_wp2_with fail
    refine (HFEW.out _ HG1.out).mono ?_
    rintro e w2 ⟨rfl, b2⟩
    have HG2 := Lib.hid b2
    clear b2
    go_wp2_with fail
    refine (HAW.out _ HG2.out).mono ?_
    rintro e w3 ⟨rfl, b3⟩
    have HG3 := Lib.hid b3
    clear b3
    go_wp2_with fail
    go_ret
    exact ⟨rfl, HFIN.out _ HG3.out⟩

theorem CodeKeeps_door (x : DeadP) (ka : Option Addr) (kc : Nat) (fa : Option Addr) (fc : Nat) (y : EventP) (aa : Option Addr) (ac : Nat) (z : SubP) (w : World) (hxn : Num64 x.n) (hxr : Num64 x.reason) (hm : MBig x.mail) (hka : ValsAt w ka x.mail.key) (hfa : ValsAt w fa x.mail.fields)
    (hy : (Num64 y.n ∧ Num64 y.tick ∧ Num64 y.item) ∧ (y.name.length ≤ 140737488355328 ∧ y.typ.length ≤ 140737488355328 ∧ y.state.length ≤ 140737488355328) ∧ (∀ v ∈ y.attrs, VBig v) ∧ y.attrs.length ≤ 281474976710656) (hat : ValsAt w aa y.attrs) (hz1 : Num64 z.id) (hz2 : Num64 z.past) (hz3 : z.role.length ≤ 140737488355328) :
    Calls Try.prog 4 #[.agg #[.int .i64 x.n, .int .i64 x.mail.id, .string (S x.mail.chan), .slice ka x.mail.key.length kc, .slice fa x.mail.fields.length fc, .int .i64 x.reason], .agg #[.int .i64 y.n, .int .i64 y.tick, .string (S y.name), .int .i64 y.item, .string (S y.typ), .string (S y.state), .slice aa y.attrs.length ac], .agg #[.int .i64 z.id, .string (S z.role), .int .i64 z.past]] w fun e w' => e = .returned (.bool true) ∧ Below w.heap.size w w' :=
  CodeKeeps_walk x hxn hxr hm ka kc fa fc y ⟨hy.1.1, hy.1.2.1, hy.1.2.2, hy.2.1.1, hy.2.1.2.1, hy.2.1.2.2, hy.2.2.1, hy.2.2.2⟩ aa ac z hz1 hz2 hz3 w hka hfa hat

end Go.Proofs.Ytgfgafpaokefhaa.Cd
