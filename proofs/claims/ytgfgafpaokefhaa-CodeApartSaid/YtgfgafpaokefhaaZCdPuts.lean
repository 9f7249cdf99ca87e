/-
  CodePuts, walked.
-/
import Derived.Test.YtgfgafpaokefhaaZCdKeeps
import Derived.Test.YtgfgafpaokefhaaZCdRefD
namespace Go.Proofs.Ytgfgafpaokefhaa.Cd
open Go.RowKit
open Pk Va
set_option linter.unusedVariables false
set_option linter.unusedSimpArgs false

theorem IBig.in_ {x : ItemP} (h : IBig x) : IIn x := ⟨h.id, h.since, fun v hv => (h.attrs v hv).in_, h.counts, fun m hm => (h.box m hm).in_, h.alen, h.clen, h.blen⟩
theorem item_no (x : ItemP) (h : ¬ x.box.length ≤ 4096) : itemOk x = false := by
  have h2 : decide (x.box.length ≤ 4096) = false := decide_eq_false h
  unfold itemOk
  rw [h2]
  simp

section
variable {P : Program} {ops : Array Oper} {Q : Exit → Act → World → Prop} {md : Region.Mode} {S : World → Prop}
/-- An operation that its guard calls off may be taken first. -/
theorem takeU {oi : Oper} {fuel : Nat} {listed : Array Bool} {a : Act} {w : World} (i : Nat) (hr : (Region.ready md ops listed).contains i = true)
    (hf : Region.free md ops listed i = true) (hs : Region.noSelect ops = true) (hi : ops[i]? = some oi) (hw : Region.wanted oi (yielded ops a.tmps) = false)
    (hQ : ∀ c a w, Q (.panic c) (a.put oi.dst undef) w → Q (.panic c) a w) (hS : S w)
    (h : wpAnyH P md ops Q S fuel (listed.setIfInBounds i true) (a.put oi.dst undef) w) : wpAnyH P md ops Q S (fuel + 1) listed a w :=
  wpAnyH_take hi hs hf hr hQ (Or.inr ⟨hw, rfl⟩) hS h
/-- One that is wanted and yields its value wherever S holds. -/
theorem takeW {oi : Oper} {v : Value} {fuel : Nat} {listed : Array Bool} {a : Act} {w : World} (i : Nat) (hr : (Region.ready md ops listed).contains i = true)
    (hf : Region.free md ops listed i = true) (hs : Region.noSelect ops = true) (hi : ops[i]? = some oi) (hw : Region.wanted oi (yielded ops a.tmps) = true)
    (hQ : ∀ c a w, Q (.panic c) (a.put oi.dst v) w → Q (.panic c) a w) (hS : S w) (hy : ∀ w, S w → (execOp a.eval oi).run P w = .ok (.value v) w)
    (h : wpAnyH P md ops Q S fuel (listed.setIfInBounds i true) (a.put oi.dst v) w) : wpAnyH P md ops Q S (fuel + 1) listed a w :=
  wpAnyH_take hi hs hf hr hQ (Or.inl ⟨hw, hy⟩) hS h
end

set_option maxRecDepth 100000 in
set_option maxHeartbeats 16000000 in
theorem CodePuts_door (v : V) (va : Option Addr) (vk : Nat) (m : MailP) (ka : Option Addr) (kc : Nat) (fa : Option Addr) (fc : Nat) (x : ItemP) (aa : Option Addr) (ac : Nat) (ca : Option Addr) (cc : Nat) (ba : Option Addr) (bc : Nat) (w : World)
    (hv : VBig v) (hva : NumsAt w va v.list) (hm : MBig m) (hka : ValsAt w ka m.key) (hfa : ValsAt w fa m.fields) (hi : IBig x) (hat : ValsAt w aa x.attrs) (hct : NumsAt w ca x.counts) (hbt : MailsAt w ba x.box) :
    Calls Try.prog 3 #[.agg #[.int .i64 v.kind, .int .i64 v.num, .string (S v.text), .slice va v.list.length vk], .agg #[.int .i64 m.id, .string (S m.chan), .slice ka m.key.length kc, .slice fa m.fields.length fc], .agg #[.int .i64 x.id, .string (S x.typ), .string (S x.state), .int .i64 x.since, .slice aa x.attrs.length ac, .slice ca x.counts.length cc, .slice ba x.box.length bc]] w fun e w' => e = .returned (.bool true) ∧ Below w.heap.size w w' := by
  obtain ⟨W0, hW0⟩ : ∃ W0, W0 = ((w.alloc (.cells #[.int .i64 v.kind, .int .i64 v.num, .string (S v.text), .slice va v.list.length vk] 24)).alloc (.cells #[.int .i64 m.id, .string (S m.chan), .slice ka m.key.length kc, .slice fa m.fields.length fc] 27)).alloc (.cells #[.int .i64 x.id, .string (S x.typ), .string (S x.state), .int .i64 x.since, .slice aa x.attrs.length ac, .slice ca x.counts.length cc, .slice ba x.box.length bc] 31) := ⟨_, rfl⟩
  have hb : Below w.heap.size w W0 := by rw [hW0]; exact (((Below.refl w.heap.size w).alloc (Nat.le_refl _) _).alloc (by simp) _).alloc (by simp; omega) _
  have e0 : W0.heap[w.heap.size]? = some (.cells #[.int .i64 v.kind, .int .i64 v.num, .string (S v.text), .slice va v.list.length vk] 24 (0, 0)) := by rw [hW0]; exact (((Below.refl _ _).alloc (Nat.le_refl _) _).block _ (by simp; omega)).trans ((((Below.refl _ _).alloc (Nat.le_refl _) _).block _ (by simp)).trans (heap_alloc_new w _))
  have e1 : W0.heap[w.heap.size + 1]? = some (.cells #[.int .i64 m.id, .string (S m.chan), .slice ka m.key.length kc, .slice fa m.fields.length fc] 27 (0, 0)) := by rw [hW0]; exact (((Below.refl _ _).alloc (Nat.le_refl _) _).block _ (by simp)).trans (by have := heap_alloc_new (w.alloc (.cells #[.int .i64 v.kind, .int .i64 v.num, .string (S v.text), .slice va v.list.length vk] 24)) (.cells #[.int .i64 m.id, .string (S m.chan), .slice ka m.key.length kc, .slice fa m.fields.length fc] 27); rwa [show (w.alloc (.cells #[.int .i64 v.kind, .int .i64 v.num, .string (S v.text), .slice va v.list.length vk] 24)).heap.size = w.heap.size + 1 by simp] at this)
  have e2 : W0.heap[w.heap.size + 1 + 1]? = some (.cells #[.int .i64 x.id, .string (S x.typ), .string (S x.state), .int .i64 x.since, .slice aa x.attrs.length ac, .slice ca x.counts.length cc, .slice ba x.box.length bc] 31 (0, 0)) := by rw [hW0]; have := heap_alloc_new ((w.alloc (.cells #[.int .i64 v.kind, .int .i64 v.num, .string (S v.text), .slice va v.list.length vk] 24)).alloc (.cells #[.int .i64 m.id, .string (S m.chan), .slice ka m.key.length kc, .slice fa m.fields.length fc] 27)) (.cells #[.int .i64 x.id, .string (S x.typ), .string (S x.state), .int .i64 x.since, .slice aa x.attrs.length ac, .slice ca x.counts.length cc, .slice ba x.box.length bc] 31); rwa [show ((w.alloc (.cells #[.int .i64 v.kind, .int .i64 v.num, .string (S v.text), .slice va v.list.length vk] 24)).alloc (.cells #[.int .i64 m.id, .string (S m.chan), .slice ka m.key.length kc, .slice fa m.fields.length fc] 27)).heap.size = w.heap.size + 1 + 1 by simp] at this
  have hVA := hva.below hb
  have hKA := hka.below hb
  have hFA := hfa.below hb
  have hAT := hat.below hb
  have hCT := hct.below hb
  have hBT := hbt.below hb
  have HKEEP := Lib.hid (fun W (k : Good W0 W) => show (W.cell? ⟨w.heap.size, 0, none⟩ = some (.int .i64 v.kind) ∧ W.cell? ⟨w.heap.size, 1, none⟩ = some (.int .i64 v.num) ∧ W.cell? ⟨w.heap.size, 2, none⟩ = some (.string (S v.text)) ∧ W.cell? ⟨w.heap.size, 3, none⟩ = some (.slice va v.list.length vk)) ∧ (W.cell? ⟨w.heap.size + 1, 0, none⟩ = some (.int .i64 m.id) ∧ W.cell? ⟨w.heap.size + 1, 1, none⟩ = some (.string (S m.chan)) ∧ W.cell? ⟨w.heap.size + 1, 2, none⟩ = some (.slice ka m.key.length kc) ∧ W.cell? ⟨w.heap.size + 1, 3, none⟩ = some (.slice fa m.fields.length fc)) ∧ (W.cell? ⟨w.heap.size + 1 + 1, 0, none⟩ = some (.int .i64 x.id) ∧ W.cell? ⟨w.heap.size + 1 + 1, 1, none⟩ = some (.string (S x.typ)) ∧ W.cell? ⟨w.heap.size + 1 + 1, 2, none⟩ = some (.string (S x.state)) ∧ W.cell? ⟨w.heap.size + 1 + 1, 3, none⟩ = some (.int .i64 x.since) ∧ W.cell? ⟨w.heap.size + 1 + 1, 4, none⟩ = some (.slice aa x.attrs.length ac) ∧ W.cell? ⟨w.heap.size + 1 + 1, 5, none⟩ = some (.slice ca x.counts.length cc) ∧ W.cell? ⟨w.heap.size + 1 + 1, 6, none⟩ = some (.slice ba x.box.length bc)) from
    ⟨⟨cell_of_row W (w.heap.size) 0 _ _ (0, 0) ((k.block (w.heap.size) (lt_of_heapV e0)).trans e0), cell_of_row W (w.heap.size) 1 _ _ (0, 0) ((k.block (w.heap.size) (lt_of_heapV e0)).trans e0), cell_of_row W (w.heap.size) 2 _ _ (0, 0) ((k.block (w.heap.size) (lt_of_heapV e0)).trans e0), cell_of_row W (w.heap.size) 3 _ _ (0, 0) ((k.block (w.heap.size) (lt_of_heapV e0)).trans e0)⟩, ⟨cell_of_row W (w.heap.size + 1) 0 _ _ (0, 0) ((k.block (w.heap.size + 1) (lt_of_heapV e1)).trans e1), cell_of_row W (w.heap.size + 1) 1 _ _ (0, 0) ((k.block (w.heap.size + 1) (lt_of_heapV e1)).trans e1), cell_of_row W (w.heap.size + 1) 2 _ _ (0, 0) ((k.block (w.heap.size + 1) (lt_of_heapV e1)).trans e1), cell_of_row W (w.heap.size + 1) 3 _ _ (0, 0) ((k.block (w.heap.size + 1) (lt_of_heapV e1)).trans e1)⟩, ⟨cell_of_row W (w.heap.size + 1 + 1) 0 _ _ (0, 0) ((k.block (w.heap.size + 1 + 1) (lt_of_heapV e2)).trans e2), cell_of_row W (w.heap.size + 1 + 1) 1 _ _ (0, 0) ((k.block (w.heap.size + 1 + 1) (lt_of_heapV e2)).trans e2), cell_of_row W (w.heap.size + 1 + 1) 2 _ _ (0, 0) ((k.block (w.heap.size + 1 + 1) (lt_of_heapV e2)).trans e2), cell_of_row W (w.heap.size + 1 + 1) 3 _ _ (0, 0) ((k.block (w.heap.size + 1 + 1) (lt_of_heapV e2)).trans e2), cell_of_row W (w.heap.size + 1 + 1) 4 _ _ (0, 0) ((k.block (w.heap.size + 1 + 1) (lt_of_heapV e2)).trans e2), cell_of_row W (w.heap.size + 1 + 1) 5 _ _ (0, 0) ((k.block (w.heap.size + 1 + 1) (lt_of_heapV e2)).trans e2), cell_of_row W (w.heap.size + 1 + 1) 6 _ _ (0, 0) ((k.block (w.heap.size + 1 + 1) (lt_of_heapV e2)).trans e2)⟩⟩)
  have HFIN := Lib.hid (fun (wr : World) (h : Good W0 wr) => hb.trans (h.mono hb.size))
  have HAW := Lib.hid (fun W (k : Good W0 W) => good_calls (R := fun e => e = .returned (.bool true)) k (awake_any W))
  have HG0 := Lib.hid (Good.refl W0)
  have HFEW := Lib.hid (fun W (k : Good W0 W) => good_calls (R := fun e => e = .returned (.bool (fewB [m]))) (k.alloc (.cells #[.int .i64 m.id, .string (S m.chan), .slice ka m.key.length kc, .slice fa m.fields.length fc] 27)) (few_any [m] (by simp) (fun m' h => by simp at h; subst h; exact ⟨hm.klen, hm.flen⟩) (some ⟨W.heap.size, 0, none⟩) 1 (W.alloc (.cells #[.int .i64 m.id, .string (S m.chan), .slice ka m.key.length kc, .slice fa m.fields.length fc] 27)) (mails_one W m ka fa kc fc (hKA.below k) (hFA.below k))))
  have HFWB := Lib.hid (fun W (k : Good W0 W) => good_calls (R := fun e => e = .returned (.bool (fewB x.box))) k (few_any x.box hi.blen (fun m' h => ⟨(hi.box m' h).klen, (hi.box m' h).flen⟩) ba bc W (hBT.below k)))
  have HW0 := Lib.hid hW0
  have hbl := hi.blen
  by_cases hfew : fewB [m] = true
  · rw [hfew] at HFEW
    obtain ⟨_, hk40, hf40⟩ := fewB_at hfew (List.mem_singleton.2 rfl)
    by_cases hfb : fewB x.box = true
    · rw [hfb] at HFWB
      have hb200 : x.box.length ≤ 200 := by
        cases hx : x.box with
        | nil => simp
        | cons m0 l => have := (fewB_at hfb (m := m0) (by rw [hx]; exact List.mem_cons_self)).1; rw [hx] at this; exact this
      have hbm : ∀ m' ∈ x.box, m'.key.length ≤ 40 ∧ m'.fields.length ≤ 40 := fun m' h => (fewB_at hfb h).2
      have hbi : ¬ (4096 : Int) < (x.box.length : Int) := by omega
      have hbj : (x.box.length : Int) ≤ 4096 := by omega
      have hbk : decide ((4096 : Int) < (x.box.length : Int)) = false := decide_eq_false hbi
      by_cases ha40 : x.attrs.length ≤ 40
      · have ha40i : ¬ (40 : Int) < (x.attrs.length : Int) := by omega
        by_cases hc40 : x.counts.length ≤ 40
        · have hc40i : ¬ (40 : Int) < (x.counts.length : Int) := by omega
          have HPV := Lib.hid (fun W (k : Good W0 W) => good_calls (R := fun e => e = .returned (putR (valB v) (rightB v))) k (PutValue_any v hv.in_ va vk W (hVA.below k)))
          have HPM := Lib.hid (fun W (k : Good W0 W) => good_calls (R := fun e => e = .returned (putR (mailB m) (mailOk m))) k (PutMail_any m hm.in_ ka kc fa fc W (hKA.below k) (hFA.below k)))
          have HPI := Lib.hid (fun W (k : Good W0 W) => good_calls (R := fun e => e = .returned (putR (itemB x) (itemOk x))) k (PutItem_any x hi.in_ aa ac ca cc ba bc W (hAT.below k) (hCT.below k) (hBT.below k)))
          have HDV := Lib.hid (fun W (k : Good W0 W) => good_calls (R := fun e => e = .returned (.string (S (valB v)))) k (rval_any v hv va vk W (hVA.below k)))
          have HRV := Lib.hid (fun W (k : Good W0 W) => good_calls (R := fun e => e = .returned (.bool (rightB v))) k (refRight_any v hv.in_.ok va vk W))
          unfold valC at HDV HRV
          have HDM := Lib.hid (fun W (k : Good W0 W) => good_calls (R := fun e => e = .returned (.string (S (mailB m)))) k (rmail_any m hm hk40 hf40 ka kc fa fc W (hKA.below k) (hFA.below k)))
          have HRM := Lib.hid (fun W (k : Good W0 W) => good_calls (R := fun e => e = .returned (.bool (mailOk m))) k (rrightMail_any m hm ka kc fa fc W (hKA.below k) (hFA.below k)))
          have HL1 := Lib.hid (fun W => lawPut_any (valB v) (rightB v) W)
          have HL2 := Lib.hid (fun W => lawPut_any (mailB m) (mailOk m) W)
          have HDI := Lib.hid (fun W (k : Good W0 W) => good_calls (R := fun e => e = .returned (.string (S (itemB x)))) k (ritem_any x hi ha40 hc40 hb200 hbm aa ac ca cc ba bc W (hAT.below k) (hCT.below k) (hBT.below k)))
          have HRI := Lib.hid (fun W (k : Good W0 W) => good_calls (R := fun e => e = .returned (.bool (itemOk x))) k (rrightItem_any x hi aa ac ca cc ba bc W (hAT.below k) (hCT.below k) (hBT.below k)))
          have HL3 := Lib.hid (fun W => lawPut_any (itemB x) (itemOk x) W)
          unfold putR at HPV HPM HPI
          generalize S (if rightB v = true then valB v else []) = A1 at *
          generalize (if rightB v = true then (0 : Int) else 4) = E1 at *
          generalize S (valB v) = D1 at *
          generalize rightB v = O1 at *
          generalize S (if mailOk m = true then mailB m else []) = A2 at *
          generalize (if mailOk m = true then (0 : Int) else 4) = E2 at *
          generalize S (mailB m) = D2 at *
          generalize mailOk m = O2 at *
          generalize S (if itemOk x = true then itemB x else []) = A3 at *
          generalize (if itemOk x = true then (0 : Int) else 4) = E3 at *
          generalize S (itemB x) = D3 at *
          generalize itemOk x = O3 at *
          clear hb e0 e1 e2 hVA hKA hFA hAT hCT hBT hva hka hfa hat hct hbt hv hm hi hW0 hfew hfb hb200 hbm hk40 hf40 ha40 hc40
          go_enter Try.func3, Try.ntmps3
          go_wp2_with fail
          rw [← HW0.out]
          refine (HAW.out _ HG0.out).mono ?_
          rintro e w1 ⟨rfl, b1⟩
          have HG1 := Lib.hid b1
          obtain ⟨⟨p0, p1, p2, p3⟩, ⟨q0, q1, q2, q3⟩, ⟨s0, s1, s2, s3, s4, s5, s6⟩⟩ := HKEEP.out _ HG1.out
          clear b1
          go_wp2_with fail
          refine (HFEW.out _ HG1.out).mono ?_
          rintro e w2 ⟨rfl, b2⟩
          have HG2 := Lib.hid b2
          obtain ⟨⟨p0, p1, p2, p3⟩, ⟨q0, q1, q2, q3⟩, ⟨s0, s1, s2, s3, s4, s5, s6⟩⟩ := HKEEP.out _ HG2.out
          clear b2
          go_wp2_with fail
          refine (HFWB.out _ HG2.out).mono ?_
          rintro e w3 ⟨rfl, b3⟩
          have HG3 := Lib.hid b3
          obtain ⟨⟨p0, p1, p2, p3⟩, ⟨q0, q1, q2, q3⟩, ⟨s0, s1, s2, s3, s4, s5, s6⟩⟩ := HKEEP.out _ HG3.out
          clear b3
          go_wp2_with fail
          refine (HPV.out _ HG3.out).mono ?_
          rintro e w4 ⟨rfl, b4⟩
          have HG4 := Lib.hid b4
          obtain ⟨⟨p0, p1, p2, p3⟩, ⟨q0, q1, q2, q3⟩, ⟨s0, s1, s2, s3, s4, s5, s6⟩⟩ := HKEEP.out _ HG4.out
          clear b4
          go_wp2_with fail
          refine (HPM.out _ HG4.out).mono ?_
          rintro e w5 ⟨rfl, b5⟩
          have HG5 := Lib.hid b5
          obtain ⟨⟨p0, p1, p2, p3⟩, ⟨q0, q1, q2, q3⟩, ⟨s0, s1, s2, s3, s4, s5, s6⟩⟩ := HKEEP.out _ HG5.out
          clear b5
          go_wp2_with fail
          refine (HPI.out _ HG5.out).mono ?_
          rintro e w6 ⟨rfl, b6⟩
          have HG6 := Lib.hid b6
          obtain ⟨⟨p0, p1, p2, p3⟩, ⟨q0, q1, q2, q3⟩, ⟨s0, s1, s2, s3, s4, s5, s6⟩⟩ := HKEEP.out _ HG6.out
          clear b6
          go_wp2_with fail
          have HST := Lib.hid (HKEEP.out _ HG6.out.drew)
          refine wp_region_held_drew (S := (fun w7 => (w7.cell? ⟨w.heap.size, 0, none⟩ = some (.int .i64 v.kind) ∧ w7.cell? ⟨w.heap.size, 1, none⟩ = some (.int .i64 v.num) ∧ w7.cell? ⟨w.heap.size, 2, none⟩ = some (.string (S v.text)) ∧ w7.cell? ⟨w.heap.size, 3, none⟩ = some (.slice va v.list.length vk)) ∧ (w7.cell? ⟨w.heap.size + 1, 0, none⟩ = some (.int .i64 m.id) ∧ w7.cell? ⟨w.heap.size + 1, 1, none⟩ = some (.string (S m.chan)) ∧ w7.cell? ⟨w.heap.size + 1, 2, none⟩ = some (.slice ka m.key.length kc) ∧ w7.cell? ⟨w.heap.size + 1, 3, none⟩ = some (.slice fa m.fields.length fc)) ∧ (w7.cell? ⟨w.heap.size + 1 + 1, 0, none⟩ = some (.int .i64 x.id) ∧ w7.cell? ⟨w.heap.size + 1 + 1, 1, none⟩ = some (.string (S x.typ)) ∧ w7.cell? ⟨w.heap.size + 1 + 1, 2, none⟩ = some (.string (S x.state)) ∧ w7.cell? ⟨w.heap.size + 1 + 1, 3, none⟩ = some (.int .i64 x.since) ∧ w7.cell? ⟨w.heap.size + 1 + 1, 4, none⟩ = some (.slice aa x.attrs.length ac) ∧ w7.cell? ⟨w.heap.size + 1 + 1, 5, none⟩ = some (.slice ca x.counts.length cc) ∧ w7.cell? ⟨w.heap.size + 1 + 1, 6, none⟩ = some (.slice ba x.box.length bc)))) (by kernel_rfl) (by (try dsimp only); (first | assumption | exact HST.out)) (fun hHeld => ?_)
          refine wpAnyH_ready (rs := [0]) (by decide +kernel) (by simp) ?_
          refine AllReadyH.cons (by simp only [List.getElem?_toArray, List.getElem?_cons_succ, List.getElem?_cons_zero]; rfl) (fun K hK => ?_) AllReadyH.nil
          go_simp
          (go_at_call 10; with_reducible refine (HAW.out _ (by first | exact good_id (by assumption) | exact good_drew (by assumption))).mono ?_; rintro e w7 ⟨rfl, b7⟩; have HG7 := Lib.hid b7; have HK7 := Lib.hid (HKEEP.out _ b7); clear b7)
          go_wp2_with fail
          refine hK.out _ _ (by (try dsimp only); (first | assumption | exact HK7.out)) (fun hHeld => ?_)
          clear hK K
          try simp only [Act.put, List.setIfInBounds_toArray, List.set_cons_zero, List.set_cons_succ]
          refine takeW (v := ?_) 1 (by decide +kernel) (by decide +kernel) (by kernel_rfl) (by simp only [List.getElem?_toArray, List.getElem?_cons_succ, List.getElem?_cons_zero]; rfl) (by rfl) (by exact fun _ _ _ h => h) (by assumption) ?_ ?_
          rotate_left 1
          focus (intro w8 hSw; (try dsimp only at hSw); go_simp; (try with_reducible rfl); done)
          try simp only [Act.put, List.setIfInBounds_toArray, List.set_cons_zero, List.set_cons_succ]
          refine takeW (v := ?_) 2 (by decide +kernel) (by decide +kernel) (by kernel_rfl) (by simp only [List.getElem?_toArray, List.getElem?_cons_succ, List.getElem?_cons_zero]; rfl) (by rfl) (by exact fun _ _ _ h => h) (by assumption) ?_ ?_
          rotate_left 1
          focus (intro w8 hSw; (try dsimp only at hSw); go_simp; (try with_reducible rfl); done)
          try simp only [Act.put, List.setIfInBounds_toArray, List.set_cons_zero, List.set_cons_succ]
          refine takeW (v := ?_) 3 (by decide +kernel) (by decide +kernel) (by kernel_rfl) (by simp only [List.getElem?_toArray, List.getElem?_cons_succ, List.getElem?_cons_zero]; rfl) (by rfl) (by exact fun _ _ _ h => h) (by assumption) ?_ ?_
          rotate_left 1
          focus (intro w8 hSw; (try dsimp only at hSw); go_simp; (try with_reducible rfl); done)
          try simp only [Act.put, List.setIfInBounds_toArray, List.set_cons_zero, List.set_cons_succ]
          refine takeW (v := ?_) 4 (by decide +kernel) (by decide +kernel) (by kernel_rfl) (by simp only [List.getElem?_toArray, List.getElem?_cons_succ, List.getElem?_cons_zero]; rfl) (by rfl) (by exact fun _ _ _ h => h) (by assumption) ?_ ?_
          rotate_left 1
          focus (intro w8 hSw; (try dsimp only at hSw); go_simp; (try with_reducible rfl); done)
          try simp only [Act.put, List.setIfInBounds_toArray, List.set_cons_zero, List.set_cons_succ]
          refine takeW (v := ?_) 6 (by decide +kernel) (by decide +kernel) (by kernel_rfl) (by simp only [List.getElem?_toArray, List.getElem?_cons_succ, List.getElem?_cons_zero]; rfl) (by rfl) (by exact fun _ _ _ h => h) (by assumption) ?_ ?_
          rotate_left 1
          focus (intro w8 hSw; (try dsimp only at hSw); go_simp; (try with_reducible rfl); done)
          try simp only [Act.put, List.setIfInBounds_toArray, List.set_cons_zero, List.set_cons_succ]
          refine wpAnyH_ready (rs := [5]) (by decide +kernel) (by simp) ?_
          refine AllReadyH.cons (by simp only [List.getElem?_toArray, List.getElem?_cons_succ, List.getElem?_cons_zero]; rfl) (fun K hK => ?_) AllReadyH.nil
          go_simp
          (go_at_call 16; with_reducible refine (HDV.out _ (by first | exact good_id (by assumption) | exact good_drew (by assumption))).mono ?_; rintro e w7 ⟨rfl, b7⟩; have HG7 := Lib.hid b7; have HK7 := Lib.hid (HKEEP.out _ b7); clear b7)
          go_wp2_with fail
          refine hK.out _ _ (by (try dsimp only); (first | assumption | exact HK7.out)) (fun hHeld => ?_)
          clear hK K
          try simp only [Act.put, List.setIfInBounds_toArray, List.set_cons_zero, List.set_cons_succ]
          refine wpAnyH_ready (rs := [7]) (by decide +kernel) (by simp) ?_
          refine AllReadyH.cons (by simp only [List.getElem?_toArray, List.getElem?_cons_succ, List.getElem?_cons_zero]; rfl) (fun K hK => ?_) AllReadyH.nil
          go_simp
          (go_at_call 17; with_reducible refine (HRV.out _ (by first | exact good_id (by assumption) | exact good_drew (by assumption))).mono ?_; rintro e w7 ⟨rfl, b7⟩; have HG7 := Lib.hid b7; have HK7 := Lib.hid (HKEEP.out _ b7); clear b7)
          go_wp2_with fail
          refine hK.out _ _ (by (try dsimp only); (first | assumption | exact HK7.out)) (fun hHeld => ?_)
          clear hK K
          try simp only [Act.put, List.setIfInBounds_toArray, List.set_cons_zero, List.set_cons_succ]
          refine wpAnyH_ready (rs := [8]) (by decide +kernel) (by simp) ?_
          refine AllReadyH.cons (by simp only [List.getElem?_toArray, List.getElem?_cons_succ, List.getElem?_cons_zero]; rfl) (fun K hK => ?_) AllReadyH.nil
          go_simp
          (go_at_call 15; with_reducible refine (HL1.out _).mono ?_; rintro e w7 ⟨rfl, rfl⟩)
          go_wp2_with fail
          refine hK.out _ _ (by (try dsimp only); (first | assumption | exact HK7.out)) (fun hHeld => ?_)
          clear hK K
          try simp only [Act.put, List.setIfInBounds_toArray, List.set_cons_zero, List.set_cons_succ]
          refine takeW (v := ?_) 9 (by decide +kernel) (by decide +kernel) (by kernel_rfl) (by simp only [List.getElem?_toArray, List.getElem?_cons_succ, List.getElem?_cons_zero]; rfl) (by rfl) (by exact fun _ _ _ h => h) (by assumption) ?_ ?_
          rotate_left 1
          focus (intro w8 hSw; (try dsimp only at hSw); go_simp; (try with_reducible rfl); done)
          try simp only [Act.put, List.setIfInBounds_toArray, List.set_cons_zero, List.set_cons_succ]
          refine takeW (v := ?_) 10 (by decide +kernel) (by decide +kernel) (by kernel_rfl) (by simp only [List.getElem?_toArray, List.getElem?_cons_succ, List.getElem?_cons_zero]; rfl) (by rfl) (by exact fun _ _ _ h => h) (by assumption) ?_ ?_
          rotate_left 1
          focus (intro w8 hSw; (try dsimp only at hSw); go_simp; (try with_reducible rfl); done)
          try simp only [Act.put, List.setIfInBounds_toArray, List.set_cons_zero, List.set_cons_succ]
          refine takeW (v := ?_) 11 (by decide +kernel) (by decide +kernel) (by kernel_rfl) (by simp only [List.getElem?_toArray, List.getElem?_cons_succ, List.getElem?_cons_zero]; rfl) (by rfl) (by exact fun _ _ _ h => h) (by assumption) ?_ ?_
          rotate_left 1
          focus (intro w8 hSw; (try dsimp only at hSw); go_simp; (try with_reducible rfl); done)
          try simp only [Act.put, List.setIfInBounds_toArray, List.set_cons_zero, List.set_cons_succ]
          refine takeW (v := ?_) 12 (by decide +kernel) (by decide +kernel) (by kernel_rfl) (by simp only [List.getElem?_toArray, List.getElem?_cons_succ, List.getElem?_cons_zero]; rfl) (by rfl) (by exact fun _ _ _ h => h) (by assumption) ?_ ?_
          rotate_left 1
          focus (intro w8 hSw; (try dsimp only at hSw); go_simp; (try with_reducible rfl); done)
          try simp only [Act.put, List.setIfInBounds_toArray, List.set_cons_zero, List.set_cons_succ]
          refine takeW (v := ?_) 13 (by decide +kernel) (by decide +kernel) (by kernel_rfl) (by simp only [List.getElem?_toArray, List.getElem?_cons_succ, List.getElem?_cons_zero]; rfl) (by rfl) (by exact fun _ _ _ h => h) (by assumption) ?_ ?_
          rotate_left 1
          focus (intro w8 hSw; (try dsimp only at hSw); go_simp; (try with_reducible rfl); done)
          try simp only [Act.put, List.setIfInBounds_toArray, List.set_cons_zero, List.set_cons_succ]
          refine takeW (v := ?_) 15 (by decide +kernel) (by decide +kernel) (by kernel_rfl) (by simp only [List.getElem?_toArray, List.getElem?_cons_succ, List.getElem?_cons_zero]; rfl) (by rfl) (by exact fun _ _ _ h => h) (by assumption) ?_ ?_
          rotate_left 1
          focus (intro w8 hSw; (try dsimp only at hSw); go_simp; (try with_reducible rfl); done)
          try simp only [Act.put, List.setIfInBounds_toArray, List.set_cons_zero, List.set_cons_succ]
          refine wpAnyH_ready (rs := [14]) (by decide +kernel) (by simp) ?_
          refine AllReadyH.cons (by simp only [List.getElem?_toArray, List.getElem?_cons_succ, List.getElem?_cons_zero]; rfl) (fun K hK => ?_) AllReadyH.nil
          go_simp
          (go_at_call 18; with_reducible refine (HDM.out _ (by first | exact good_id (by assumption) | exact good_drew (by assumption))).mono ?_; rintro e w7 ⟨rfl, b7⟩; have HG7 := Lib.hid b7; have HK7 := Lib.hid (HKEEP.out _ b7); clear b7)
          go_wp2_with fail
          refine hK.out _ _ (by (try dsimp only); (first | assumption | exact HK7.out)) (fun hHeld => ?_)
          clear hK K
          try simp only [Act.put, List.setIfInBounds_toArray, List.set_cons_zero, List.set_cons_succ]
          refine wpAnyH_ready (rs := [16]) (by decide +kernel) (by simp) ?_
          refine AllReadyH.cons (by simp only [List.getElem?_toArray, List.getElem?_cons_succ, List.getElem?_cons_zero]; rfl) (fun K hK => ?_) AllReadyH.nil
          go_simp
          (go_at_call 19; with_reducible refine (HRM.out _ (by first | exact good_id (by assumption) | exact good_drew (by assumption))).mono ?_; rintro e w7 ⟨rfl, b7⟩; have HG7 := Lib.hid b7; have HK7 := Lib.hid (HKEEP.out _ b7); clear b7)
          go_wp2_with fail
          refine hK.out _ _ (by (try dsimp only); (first | assumption | exact HK7.out)) (fun hHeld => ?_)
          clear hK K
          try simp only [Act.put, List.setIfInBounds_toArray, List.set_cons_zero, List.set_cons_succ]
          refine wpAnyH_ready (rs := [17]) (by decide +kernel) (by simp) ?_
          refine AllReadyH.cons (by simp only [List.getElem?_toArray, List.getElem?_cons_succ, List.getElem?_cons_zero]; rfl) (fun K hK => ?_) AllReadyH.nil
          go_simp
          (go_at_call 15; with_reducible refine (HL2.out _).mono ?_; rintro e w7 ⟨rfl, rfl⟩)
          go_wp2_with fail
          refine hK.out _ _ (by (try dsimp only); (first | assumption | exact HK7.out)) (fun hHeld => ?_)
          clear hK K
          try simp only [Act.put, List.setIfInBounds_toArray, List.set_cons_zero, List.set_cons_succ]
          refine takeW (v := ?_) 18 (by decide +kernel) (by decide +kernel) (by kernel_rfl) (by simp only [List.getElem?_toArray, List.getElem?_cons_succ, List.getElem?_cons_zero]; rfl) (by rfl) (by exact fun _ _ _ h => h) (by assumption) ?_ ?_
          rotate_left 1
          focus (intro w8 hSw; (try dsimp only at hSw); go_simp; (try with_reducible rfl); done)
          try simp only [Act.put, List.setIfInBounds_toArray, List.set_cons_zero, List.set_cons_succ]
          refine takeW (v := ?_) 19 (by decide +kernel) (by decide +kernel) (by kernel_rfl) (by simp only [List.getElem?_toArray, List.getElem?_cons_succ, List.getElem?_cons_zero]; rfl) (by rfl) (by exact fun _ _ _ h => h) (by assumption) ?_ ?_
          rotate_left 1
          focus (intro w8 hSw; (try dsimp only at hSw); go_simp; (try with_reducible rfl); done)
          try simp only [Act.put, List.setIfInBounds_toArray, List.set_cons_zero, List.set_cons_succ]
          refine takeW (v := ?_) 20 (by decide +kernel) (by decide +kernel) (by kernel_rfl) (by simp only [List.getElem?_toArray, List.getElem?_cons_succ, List.getElem?_cons_zero]; rfl) (by rfl) (by exact fun _ _ _ h => h) (by assumption) ?_ ?_
          rotate_left 1
          focus (intro w8 hSw; (try dsimp only at hSw); go_simp; (try with_reducible rfl); done)
          try simp only [Act.put, List.setIfInBounds_toArray, List.set_cons_zero, List.set_cons_succ]
          refine takeW (v := ?_) 21 (by decide +kernel) (by decide +kernel) (by kernel_rfl) (by simp only [List.getElem?_toArray, List.getElem?_cons_succ, List.getElem?_cons_zero]; rfl) (by rfl) (by exact fun _ _ _ h => h) (by assumption) ?_ ?_
          rotate_left 1
          focus (intro w8 hSw; (try dsimp only at hSw); go_simp; (try with_reducible rfl); done)
          try simp only [Act.put, List.setIfInBounds_toArray, List.set_cons_zero, List.set_cons_succ]
          refine takeW (v := ?_) 22 (by decide +kernel) (by decide +kernel) (by kernel_rfl) (by simp only [List.getElem?_toArray, List.getElem?_cons_succ, List.getElem?_cons_zero]; rfl) (by rfl) (by exact fun _ _ _ h => h) (by assumption) ?_ ?_
          rotate_left 1
          focus (intro w8 hSw; (try dsimp only at hSw); go_simp; (try with_reducible rfl); done)
          try simp only [Act.put, List.setIfInBounds_toArray, List.set_cons_zero, List.set_cons_succ]
          refine takeW (v := ?_) 23 (by decide +kernel) (by decide +kernel) (by kernel_rfl) (by simp only [List.getElem?_toArray, List.getElem?_cons_succ, List.getElem?_cons_zero]; rfl) (by rfl) (by exact fun _ _ _ h => h) (by assumption) ?_ ?_
          rotate_left 1
          focus (intro w8 hSw; (try dsimp only at hSw); go_simp; (try with_reducible rfl); done)
          try simp only [Act.put, List.setIfInBounds_toArray, List.set_cons_zero, List.set_cons_succ]
          refine takeW (v := ?_) 24 (by decide +kernel) (by decide +kernel) (by kernel_rfl) (by simp only [List.getElem?_toArray, List.getElem?_cons_succ, List.getElem?_cons_zero]; rfl) (by rfl) (by exact fun _ _ _ h => h) (by assumption) ?_ ?_
          rotate_left 1
          focus (intro w8 hSw; (try dsimp only at hSw); go_simp; (try with_reducible rfl); done)
          try simp only [Act.put, List.setIfInBounds_toArray, List.set_cons_zero, List.set_cons_succ]
          refine takeU 25 (by decide +kernel) (by decide +kernel) (by kernel_rfl) (by simp only [List.getElem?_toArray, List.getElem?_cons_succ, List.getElem?_cons_zero]; rfl) (by rfl) (by exact fun _ _ _ h => h) (by assumption) ?_
          try simp only [Act.put, List.setIfInBounds_toArray, List.set_cons_zero, List.set_cons_succ]
          refine takeU 26 (by decide +kernel) (by decide +kernel) (by kernel_rfl) (by simp only [List.getElem?_toArray, List.getElem?_cons_succ, List.getElem?_cons_zero]; rfl) (by rfl) (by exact fun _ _ _ h => h) (by assumption) ?_
          try simp only [Act.put, List.setIfInBounds_toArray, List.set_cons_zero, List.set_cons_succ]
          refine takeW (v := ?_) 27 (by decide +kernel) (by decide +kernel) (by kernel_rfl) (by simp only [List.getElem?_toArray, List.getElem?_cons_succ, List.getElem?_cons_zero]; rfl) (by rfl) (by exact fun _ _ _ h => h) (by assumption) ?_ ?_
          rotate_left 1
          focus (intro w8 hSw; (try dsimp only at hSw); go_simp; (try with_reducible rfl); done)
          try simp only [Act.put, List.setIfInBounds_toArray, List.set_cons_zero, List.set_cons_succ]
          refine takeW (v := ?_) 28 (by decide +kernel) (by decide +kernel) (by kernel_rfl) (by simp only [List.getElem?_toArray, List.getElem?_cons_succ, List.getElem?_cons_zero]; rfl) (by rfl) (by exact fun _ _ _ h => h) (by assumption) ?_ ?_
          rotate_left 1
          focus (intro w8 hSw; (try dsimp only at hSw); go_simp; (try with_reducible rfl); done)
          try simp only [Act.put, List.setIfInBounds_toArray, List.set_cons_zero, List.set_cons_succ]
          refine takeW (v := ?_) 29 (by decide +kernel) (by decide +kernel) (by kernel_rfl) (by simp only [List.getElem?_toArray, List.getElem?_cons_succ, List.getElem?_cons_zero]; rfl) (by rfl) (by exact fun _ _ _ h => h) (by assumption) ?_ ?_
          rotate_left 1
          focus (intro w8 hSw; (try dsimp only at hSw); go_simp; (try with_reducible rfl); done)
          try simp only [Act.put, List.setIfInBounds_toArray, List.set_cons_zero, List.set_cons_succ]
          refine takeW (v := ?_) 30 (by decide +kernel) (by decide +kernel) (by kernel_rfl) (by simp only [List.getElem?_toArray, List.getElem?_cons_succ, List.getElem?_cons_zero]; rfl) (by rfl) (by exact fun _ _ _ h => h) (by assumption) ?_ ?_
          rotate_left 1
          focus (intro w8 hSw; (try dsimp only at hSw); go_simp; (try with_reducible rfl); done)
          try simp only [Act.put, List.setIfInBounds_toArray, List.set_cons_zero, List.set_cons_succ]
          refine takeW (v := ?_) 31 (by decide +kernel) (by decide +kernel) (by kernel_rfl) (by simp only [List.getElem?_toArray, List.getElem?_cons_succ, List.getElem?_cons_zero]; rfl) (by rfl) (by exact fun _ _ _ h => h) (by assumption) ?_ ?_
          rotate_left 1
          focus (intro w8 hSw; (try dsimp only at hSw); go_simp; (try with_reducible rfl); done)
          try simp only [Act.put, List.setIfInBounds_toArray, List.set_cons_zero, List.set_cons_succ]
          refine takeW (v := ?_) 33 (by decide +kernel) (by decide +kernel) (by kernel_rfl) (by simp only [List.getElem?_toArray, List.getElem?_cons_succ, List.getElem?_cons_zero]; rfl) (by rfl) (by exact fun _ _ _ h => h) (by assumption) ?_ ?_
          rotate_left 1
          focus (intro w8 hSw; (try dsimp only at hSw); go_simp; (try with_reducible rfl); done)
          try simp only [Act.put, List.setIfInBounds_toArray, List.set_cons_zero, List.set_cons_succ]
          refine wpAnyH_ready (rs := [32]) (by decide +kernel) (by simp) ?_
          refine AllReadyH.cons (by simp only [List.getElem?_toArray, List.getElem?_cons_succ, List.getElem?_cons_zero]; rfl) (fun K hK => ?_) AllReadyH.nil
          go_simp
          (go_at_call 20; with_reducible refine (HDI.out _ (by first | exact good_id (by assumption) | exact good_drew (by assumption))).mono ?_; rintro e w7 ⟨rfl, b7⟩; have HG7 := Lib.hid b7; have HK7 := Lib.hid (HKEEP.out _ b7); clear b7)
          go_wp2_with fail
          refine hK.out _ _ (by (try dsimp only); (first | assumption | exact HK7.out)) (fun hHeld => ?_)
          clear hK K
          try simp only [Act.put, List.setIfInBounds_toArray, List.set_cons_zero, List.set_cons_succ]
          refine wpAnyH_ready (rs := [34]) (by decide +kernel) (by simp) ?_
          refine AllReadyH.cons (by simp only [List.getElem?_toArray, List.getElem?_cons_succ, List.getElem?_cons_zero]; rfl) (fun K hK => ?_) AllReadyH.nil
          go_simp
          (go_at_call 21; with_reducible refine (HRI.out _ (by first | exact good_id (by assumption) | exact good_drew (by assumption))).mono ?_; rintro e w7 ⟨rfl, b7⟩; have HG7 := Lib.hid b7; have HK7 := Lib.hid (HKEEP.out _ b7); clear b7)
          go_wp2_with fail
          refine hK.out _ _ (by (try dsimp only); (first | assumption | exact HK7.out)) (fun hHeld => ?_)
          clear hK K
          try simp only [Act.put, List.setIfInBounds_toArray, List.set_cons_zero, List.set_cons_succ]
          refine wpAnyH_ready (rs := [35]) (by decide +kernel) (by simp) ?_
          refine AllReadyH.cons (by simp only [List.getElem?_toArray, List.getElem?_cons_succ, List.getElem?_cons_zero]; rfl) (fun K hK => ?_) AllReadyH.nil
          go_simp
          (go_at_call 15; with_reducible refine (HL3.out _).mono ?_; rintro e w7 ⟨rfl, rfl⟩)
          go_wp2_with fail
          refine hK.out _ _ (by (try dsimp only); (first | assumption | exact HK7.out)) (fun hHeld => ?_)
          clear hK K
          try simp only [Act.put, List.setIfInBounds_toArray, List.set_cons_zero, List.set_cons_succ]
          refine takeW (v := ?_) 36 (by decide +kernel) (by decide +kernel) (by kernel_rfl) (by simp only [List.getElem?_toArray, List.getElem?_cons_succ, List.getElem?_cons_zero]; rfl) (by rfl) (by exact fun _ _ _ h => h) (by assumption) ?_ ?_
          rotate_left 1
          focus (intro w8 hSw; (try dsimp only at hSw); go_simp; (try with_reducible rfl); done)
          try simp only [Act.put, List.setIfInBounds_toArray, List.set_cons_zero, List.set_cons_succ]
          refine takeW (v := ?_) 37 (by decide +kernel) (by decide +kernel) (by kernel_rfl) (by simp only [List.getElem?_toArray, List.getElem?_cons_succ, List.getElem?_cons_zero]; rfl) (by rfl) (by exact fun _ _ _ h => h) (by assumption) ?_ ?_
          rotate_left 1
          focus (intro w8 hSw; (try dsimp only at hSw); go_simp; (try with_reducible rfl); done)
          try simp only [Act.put, List.setIfInBounds_toArray, List.set_cons_zero, List.set_cons_succ]
          refine takeW (v := ?_) 38 (by decide +kernel) (by decide +kernel) (by kernel_rfl) (by simp only [List.getElem?_toArray, List.getElem?_cons_succ, List.getElem?_cons_zero]; rfl) (by rfl) (by exact fun _ _ _ h => h) (by assumption) ?_ ?_
          rotate_left 1
          focus (intro w8 hSw; (try dsimp only at hSw); go_simp; (try with_reducible rfl); done)
          try simp only [Act.put, List.setIfInBounds_toArray, List.set_cons_zero, List.set_cons_succ]
          refine wpAnyH_done (by decide +kernel) ?_ _
          all_goals
            go_wp2_with fail
            go_ret
            exact ⟨rfl, HFIN.out _ (by first | exact good_id (by assumption) | exact good_drew (by assumption))⟩
        · have hc40i : (40 : Int) < (x.counts.length : Int) := by omega
          clear hb e0 e1 e2 hVA hKA hFA hAT hCT hBT hva hka hfa hat hct hbt hv hm hi hW0 hfew hfb hb200 hbm hk40 hf40 ha40 hc40
          go_enter Try.func3, Try.ntmps3
          go_wp2_with fail
          rw [← HW0.out]
          refine (HAW.out _ HG0.out).mono ?_
          rintro e w1 ⟨rfl, b1⟩
          have HG1 := Lib.hid b1
          obtain ⟨⟨p0, p1, p2, p3⟩, ⟨q0, q1, q2, q3⟩, ⟨s0, s1, s2, s3, s4, s5, s6⟩⟩ := HKEEP.out _ HG1.out
          clear b1
          go_wp2_with fail
          refine (HFEW.out _ HG1.out).mono ?_
          rintro e w2 ⟨rfl, b2⟩
          have HG2 := Lib.hid b2
          obtain ⟨⟨p0, p1, p2, p3⟩, ⟨q0, q1, q2, q3⟩, ⟨s0, s1, s2, s3, s4, s5, s6⟩⟩ := HKEEP.out _ HG2.out
          clear b2
          go_wp2_with fail
          refine (HFWB.out _ HG2.out).mono ?_
          rintro e w3 ⟨rfl, b3⟩
          have HG3 := Lib.hid b3
          obtain ⟨⟨p0, p1, p2, p3⟩, ⟨q0, q1, q2, q3⟩, ⟨s0, s1, s2, s3, s4, s5, s6⟩⟩ := HKEEP.out _ HG3.out
          clear b3
          go_wp2_with fail
          refine (HAW.out _ HG3.out).mono ?_
          rintro e w4 ⟨rfl, b4⟩
          have HG4 := Lib.hid b4
          clear b4
          go_wp2_with fail
          go_ret
          exact ⟨rfl, HFIN.out _ HG4.out⟩
      · have ha40i : (40 : Int) < (x.attrs.length : Int) := by omega
        clear hb e0 e1 e2 hVA hKA hFA hAT hCT hBT hva hka hfa hat hct hbt hv hm hi hW0 hfew hfb hb200 hbm hk40 hf40 ha40
        go_enter Try.func3, Try.ntmps3
        go_wp2_with fail
        rw [← HW0.out]
        refine (HAW.out _ HG0.out).mono ?_
        rintro e w1 ⟨rfl, b1⟩
        have HG1 := Lib.hid b1
        obtain ⟨⟨p0, p1, p2, p3⟩, ⟨q0, q1, q2, q3⟩, ⟨s0, s1, s2, s3, s4, s5, s6⟩⟩ := HKEEP.out _ HG1.out
        clear b1
        go_wp2_with fail
        refine (HFEW.out _ HG1.out).mono ?_
        rintro e w2 ⟨rfl, b2⟩
        have HG2 := Lib.hid b2
        obtain ⟨⟨p0, p1, p2, p3⟩, ⟨q0, q1, q2, q3⟩, ⟨s0, s1, s2, s3, s4, s5, s6⟩⟩ := HKEEP.out _ HG2.out
        clear b2
        go_wp2_with fail
        refine (HFWB.out _ HG2.out).mono ?_
        rintro e w3 ⟨rfl, b3⟩
        have HG3 := Lib.hid b3
        obtain ⟨⟨p0, p1, p2, p3⟩, ⟨q0, q1, q2, q3⟩, ⟨s0, s1, s2, s3, s4, s5, s6⟩⟩ := HKEEP.out _ HG3.out
        clear b3
        go_wp2_with fail
        refine (HAW.out _ HG3.out).mono ?_
        rintro e w4 ⟨rfl, b4⟩
        have HG4 := Lib.hid b4
        clear b4
        go_wp2_with fail
        go_ret
        exact ⟨rfl, HFIN.out _ HG4.out⟩
    · have hfb2 : fewB x.box = false := by simpa using hfb
      rw [hfb2] at HFWB
      by_cases hbig : x.box.length ≤ 4096
      · have hbi : (x.box.length : Int) ≤ 4096 := by omega
        clear hb e0 e1 e2 hVA hKA hFA hAT hCT hBT hva hka hfa hat hct hbt hv hm hi hW0 hfew hfb hfb2 hk40 hf40 hbig
        go_enter Try.func3, Try.ntmps3
        go_wp2_with fail
        rw [← HW0.out]
        refine (HAW.out _ HG0.out).mono ?_
        rintro e w1 ⟨rfl, b1⟩
        have HG1 := Lib.hid b1
        obtain ⟨⟨p0, p1, p2, p3⟩, ⟨q0, q1, q2, q3⟩, ⟨s0, s1, s2, s3, s4, s5, s6⟩⟩ := HKEEP.out _ HG1.out
        clear b1
        go_wp2_with fail
        refine (HFEW.out _ HG1.out).mono ?_
        rintro e w2 ⟨rfl, b2⟩
        have HG2 := Lib.hid b2
        obtain ⟨⟨p0, p1, p2, p3⟩, ⟨q0, q1, q2, q3⟩, ⟨s0, s1, s2, s3, s4, s5, s6⟩⟩ := HKEEP.out _ HG2.out
        clear b2
        go_wp2_with fail
        refine (HFWB.out _ HG2.out).mono ?_
        rintro e w3 ⟨rfl, b3⟩
        have HG3 := Lib.hid b3
        obtain ⟨⟨p0, p1, p2, p3⟩, ⟨q0, q1, q2, q3⟩, ⟨s0, s1, s2, s3, s4, s5, s6⟩⟩ := HKEEP.out _ HG3.out
        clear b3
        go_wp2_with fail
        refine (HAW.out _ HG3.out).mono ?_
        rintro e w4 ⟨rfl, b4⟩
        have HG4 := Lib.hid b4
        clear b4
        go_wp2_with fail
        go_ret
        exact ⟨rfl, HFIN.out _ HG4.out⟩
      · have hbi : ¬ (x.box.length : Int) ≤ 4096 := by omega
        have hbj : (4096 : Int) < (x.box.length : Int) := by omega
        by_cases ha40 : x.attrs.length ≤ 40
        · have ha40i : ¬ (40 : Int) < (x.attrs.length : Int) := by omega
          by_cases hc40 : x.counts.length ≤ 40
          · have hc40i : ¬ (40 : Int) < (x.counts.length : Int) := by omega
            have HPV := Lib.hid (fun W (k : Good W0 W) => good_calls (R := fun e => e = .returned (putR (valB v) (rightB v))) k (PutValue_any v hv.in_ va vk W (hVA.below k)))
            have HPM := Lib.hid (fun W (k : Good W0 W) => good_calls (R := fun e => e = .returned (putR (mailB m) (mailOk m))) k (PutMail_any m hm.in_ ka kc fa fc W (hKA.below k) (hFA.below k)))
            have HPI := Lib.hid (fun W (k : Good W0 W) => good_calls (R := fun e => e = .returned (putR (itemB x) (itemOk x))) k (PutItem_any x hi.in_ aa ac ca cc ba bc W (hAT.below k) (hCT.below k) (hBT.below k)))
            have HDV := Lib.hid (fun W (k : Good W0 W) => good_calls (R := fun e => e = .returned (.string (S (valB v)))) k (rval_any v hv va vk W (hVA.below k)))
            have HRV := Lib.hid (fun W (k : Good W0 W) => good_calls (R := fun e => e = .returned (.bool (rightB v))) k (refRight_any v hv.in_.ok va vk W))
            unfold valC at HDV HRV
            have HDM := Lib.hid (fun W (k : Good W0 W) => good_calls (R := fun e => e = .returned (.string (S (mailB m)))) k (rmail_any m hm hk40 hf40 ka kc fa fc W (hKA.below k) (hFA.below k)))
            have HRM := Lib.hid (fun W (k : Good W0 W) => good_calls (R := fun e => e = .returned (.bool (mailOk m))) k (rrightMail_any m hm ka kc fa fc W (hKA.below k) (hFA.below k)))
            have HL1 := Lib.hid (fun W => lawPut_any (valB v) (rightB v) W)
            have HL2 := Lib.hid (fun W => lawPut_any (mailB m) (mailOk m) W)
            rw [item_no x hbig] at HPI
            unfold putR at HPV HPM HPI
            generalize S (if rightB v = true then valB v else []) = A1 at *
            generalize (if rightB v = true then (0 : Int) else 4) = E1 at *
            generalize S (valB v) = D1 at *
            generalize rightB v = O1 at *
            generalize S (if mailOk m = true then mailB m else []) = A2 at *
            generalize (if mailOk m = true then (0 : Int) else 4) = E2 at *
            generalize S (mailB m) = D2 at *
            generalize mailOk m = O2 at *
            simp only [Bool.false_eq_true, if_false] at HPI
            clear hb e0 e1 e2 hVA hKA hFA hAT hCT hBT hva hka hfa hat hct hbt hv hm hi hW0 hfew hfb hfb2 hbig hk40 hf40 ha40 hc40
            go_enter Try.func3, Try.ntmps3
            go_wp2_with fail
            rw [← HW0.out]
            refine (HAW.out _ HG0.out).mono ?_
            rintro e w1 ⟨rfl, b1⟩
            have HG1 := Lib.hid b1
            obtain ⟨⟨p0, p1, p2, p3⟩, ⟨q0, q1, q2, q3⟩, ⟨s0, s1, s2, s3, s4, s5, s6⟩⟩ := HKEEP.out _ HG1.out
            clear b1
            go_wp2_with fail
            refine (HFEW.out _ HG1.out).mono ?_
            rintro e w2 ⟨rfl, b2⟩
            have HG2 := Lib.hid b2
            obtain ⟨⟨p0, p1, p2, p3⟩, ⟨q0, q1, q2, q3⟩, ⟨s0, s1, s2, s3, s4, s5, s6⟩⟩ := HKEEP.out _ HG2.out
            clear b2
            go_wp2_with fail
            refine (HFWB.out _ HG2.out).mono ?_
            rintro e w3 ⟨rfl, b3⟩
            have HG3 := Lib.hid b3
            obtain ⟨⟨p0, p1, p2, p3⟩, ⟨q0, q1, q2, q3⟩, ⟨s0, s1, s2, s3, s4, s5, s6⟩⟩ := HKEEP.out _ HG3.out
            clear b3
            go_wp2_with fail
            refine (HPV.out _ HG3.out).mono ?_
            rintro e w4 ⟨rfl, b4⟩
            have HG4 := Lib.hid b4
            obtain ⟨⟨p0, p1, p2, p3⟩, ⟨q0, q1, q2, q3⟩, ⟨s0, s1, s2, s3, s4, s5, s6⟩⟩ := HKEEP.out _ HG4.out
            clear b4
            go_wp2_with fail
            refine (HPM.out _ HG4.out).mono ?_
            rintro e w5 ⟨rfl, b5⟩
            have HG5 := Lib.hid b5
            obtain ⟨⟨p0, p1, p2, p3⟩, ⟨q0, q1, q2, q3⟩, ⟨s0, s1, s2, s3, s4, s5, s6⟩⟩ := HKEEP.out _ HG5.out
            clear b5
            go_wp2_with fail
            refine (HPI.out _ HG5.out).mono ?_
            rintro e w6 ⟨rfl, b6⟩
            have HG6 := Lib.hid b6
            obtain ⟨⟨p0, p1, p2, p3⟩, ⟨q0, q1, q2, q3⟩, ⟨s0, s1, s2, s3, s4, s5, s6⟩⟩ := HKEEP.out _ HG6.out
            clear b6
            go_wp2_with fail
            have HST := Lib.hid (HKEEP.out _ HG6.out.drew)
            refine wp_region_held_drew (S := (fun w7 => (w7.cell? ⟨w.heap.size, 0, none⟩ = some (.int .i64 v.kind) ∧ w7.cell? ⟨w.heap.size, 1, none⟩ = some (.int .i64 v.num) ∧ w7.cell? ⟨w.heap.size, 2, none⟩ = some (.string (S v.text)) ∧ w7.cell? ⟨w.heap.size, 3, none⟩ = some (.slice va v.list.length vk)) ∧ (w7.cell? ⟨w.heap.size + 1, 0, none⟩ = some (.int .i64 m.id) ∧ w7.cell? ⟨w.heap.size + 1, 1, none⟩ = some (.string (S m.chan)) ∧ w7.cell? ⟨w.heap.size + 1, 2, none⟩ = some (.slice ka m.key.length kc) ∧ w7.cell? ⟨w.heap.size + 1, 3, none⟩ = some (.slice fa m.fields.length fc)) ∧ (w7.cell? ⟨w.heap.size + 1 + 1, 0, none⟩ = some (.int .i64 x.id) ∧ w7.cell? ⟨w.heap.size + 1 + 1, 1, none⟩ = some (.string (S x.typ)) ∧ w7.cell? ⟨w.heap.size + 1 + 1, 2, none⟩ = some (.string (S x.state)) ∧ w7.cell? ⟨w.heap.size + 1 + 1, 3, none⟩ = some (.int .i64 x.since) ∧ w7.cell? ⟨w.heap.size + 1 + 1, 4, none⟩ = some (.slice aa x.attrs.length ac) ∧ w7.cell? ⟨w.heap.size + 1 + 1, 5, none⟩ = some (.slice ca x.counts.length cc) ∧ w7.cell? ⟨w.heap.size + 1 + 1, 6, none⟩ = some (.slice ba x.box.length bc)))) (by kernel_rfl) (by (try dsimp only); (first | assumption | exact HST.out)) (fun hHeld => ?_)
            refine wpAnyH_ready (rs := [0]) (by decide +kernel) (by simp) ?_
            refine AllReadyH.cons (by simp only [List.getElem?_toArray, List.getElem?_cons_succ, List.getElem?_cons_zero]; rfl) (fun K hK => ?_) AllReadyH.nil
            go_simp
            (go_at_call 10; with_reducible refine (HAW.out _ (by first | exact good_id (by assumption) | exact good_drew (by assumption))).mono ?_; rintro e w7 ⟨rfl, b7⟩; have HG7 := Lib.hid b7; have HK7 := Lib.hid (HKEEP.out _ b7); clear b7)
            go_wp2_with fail
            refine hK.out _ _ (by (try dsimp only); (first | assumption | exact HK7.out)) (fun hHeld => ?_)
            clear hK K
            try simp only [Act.put, List.setIfInBounds_toArray, List.set_cons_zero, List.set_cons_succ]
            refine takeW (v := ?_) 1 (by decide +kernel) (by decide +kernel) (by kernel_rfl) (by simp only [List.getElem?_toArray, List.getElem?_cons_succ, List.getElem?_cons_zero]; rfl) (by rfl) (by exact fun _ _ _ h => h) (by assumption) ?_ ?_
            rotate_left 1
            focus (intro w8 hSw; (try dsimp only at hSw); go_simp; (try with_reducible rfl); done)
            try simp only [Act.put, List.setIfInBounds_toArray, List.set_cons_zero, List.set_cons_succ]
            refine takeW (v := ?_) 2 (by decide +kernel) (by decide +kernel) (by kernel_rfl) (by simp only [List.getElem?_toArray, List.getElem?_cons_succ, List.getElem?_cons_zero]; rfl) (by rfl) (by exact fun _ _ _ h => h) (by assumption) ?_ ?_
            rotate_left 1
            focus (intro w8 hSw; (try dsimp only at hSw); go_simp; (try with_reducible rfl); done)
            try simp only [Act.put, List.setIfInBounds_toArray, List.set_cons_zero, List.set_cons_succ]
            refine takeW (v := ?_) 3 (by decide +kernel) (by decide +kernel) (by kernel_rfl) (by simp only [List.getElem?_toArray, List.getElem?_cons_succ, List.getElem?_cons_zero]; rfl) (by rfl) (by exact fun _ _ _ h => h) (by assumption) ?_ ?_
            rotate_left 1
            focus (intro w8 hSw; (try dsimp only at hSw); go_simp; (try with_reducible rfl); done)
            try simp only [Act.put, List.setIfInBounds_toArray, List.set_cons_zero, List.set_cons_succ]
            refine takeW (v := ?_) 4 (by decide +kernel) (by decide +kernel) (by kernel_rfl) (by simp only [List.getElem?_toArray, List.getElem?_cons_succ, List.getElem?_cons_zero]; rfl) (by rfl) (by exact fun _ _ _ h => h) (by assumption) ?_ ?_
            rotate_left 1
            focus (intro w8 hSw; (try dsimp only at hSw); go_simp; (try with_reducible rfl); done)
            try simp only [Act.put, List.setIfInBounds_toArray, List.set_cons_zero, List.set_cons_succ]
            refine takeW (v := ?_) 6 (by decide +kernel) (by decide +kernel) (by kernel_rfl) (by simp only [List.getElem?_toArray, List.getElem?_cons_succ, List.getElem?_cons_zero]; rfl) (by rfl) (by exact fun _ _ _ h => h) (by assumption) ?_ ?_
            rotate_left 1
            focus (intro w8 hSw; (try dsimp only at hSw); go_simp; (try with_reducible rfl); done)
            try simp only [Act.put, List.setIfInBounds_toArray, List.set_cons_zero, List.set_cons_succ]
            refine wpAnyH_ready (rs := [5]) (by decide +kernel) (by simp) ?_
            refine AllReadyH.cons (by simp only [List.getElem?_toArray, List.getElem?_cons_succ, List.getElem?_cons_zero]; rfl) (fun K hK => ?_) AllReadyH.nil
            go_simp
            (go_at_call 16; with_reducible refine (HDV.out _ (by first | exact good_id (by assumption) | exact good_drew (by assumption))).mono ?_; rintro e w7 ⟨rfl, b7⟩; have HG7 := Lib.hid b7; have HK7 := Lib.hid (HKEEP.out _ b7); clear b7)
            go_wp2_with fail
            refine hK.out _ _ (by (try dsimp only); (first | assumption | exact HK7.out)) (fun hHeld => ?_)
            clear hK K
            try simp only [Act.put, List.setIfInBounds_toArray, List.set_cons_zero, List.set_cons_succ]
            refine wpAnyH_ready (rs := [7]) (by decide +kernel) (by simp) ?_
            refine AllReadyH.cons (by simp only [List.getElem?_toArray, List.getElem?_cons_succ, List.getElem?_cons_zero]; rfl) (fun K hK => ?_) AllReadyH.nil
            go_simp
            (go_at_call 17; with_reducible refine (HRV.out _ (by first | exact good_id (by assumption) | exact good_drew (by assumption))).mono ?_; rintro e w7 ⟨rfl, b7⟩; have HG7 := Lib.hid b7; have HK7 := Lib.hid (HKEEP.out _ b7); clear b7)
            go_wp2_with fail
            refine hK.out _ _ (by (try dsimp only); (first | assumption | exact HK7.out)) (fun hHeld => ?_)
            clear hK K
            try simp only [Act.put, List.setIfInBounds_toArray, List.set_cons_zero, List.set_cons_succ]
            refine wpAnyH_ready (rs := [8]) (by decide +kernel) (by simp) ?_
            refine AllReadyH.cons (by simp only [List.getElem?_toArray, List.getElem?_cons_succ, List.getElem?_cons_zero]; rfl) (fun K hK => ?_) AllReadyH.nil
            go_simp
            (go_at_call 15; with_reducible refine (HL1.out _).mono ?_; rintro e w7 ⟨rfl, rfl⟩)
            go_wp2_with fail
            refine hK.out _ _ (by (try dsimp only); (first | assumption | exact HK7.out)) (fun hHeld => ?_)
            clear hK K
            try simp only [Act.put, List.setIfInBounds_toArray, List.set_cons_zero, List.set_cons_succ]
            refine takeW (v := ?_) 9 (by decide +kernel) (by decide +kernel) (by kernel_rfl) (by simp only [List.getElem?_toArray, List.getElem?_cons_succ, List.getElem?_cons_zero]; rfl) (by rfl) (by exact fun _ _ _ h => h) (by assumption) ?_ ?_
            rotate_left 1
            focus (intro w8 hSw; (try dsimp only at hSw); go_simp; (try with_reducible rfl); done)
            try simp only [Act.put, List.setIfInBounds_toArray, List.set_cons_zero, List.set_cons_succ]
            refine takeW (v := ?_) 10 (by decide +kernel) (by decide +kernel) (by kernel_rfl) (by simp only [List.getElem?_toArray, List.getElem?_cons_succ, List.getElem?_cons_zero]; rfl) (by rfl) (by exact fun _ _ _ h => h) (by assumption) ?_ ?_
            rotate_left 1
            focus (intro w8 hSw; (try dsimp only at hSw); go_simp; (try with_reducible rfl); done)
            try simp only [Act.put, List.setIfInBounds_toArray, List.set_cons_zero, List.set_cons_succ]
            refine takeW (v := ?_) 11 (by decide +kernel) (by decide +kernel) (by kernel_rfl) (by simp only [List.getElem?_toArray, List.getElem?_cons_succ, List.getElem?_cons_zero]; rfl) (by rfl) (by exact fun _ _ _ h => h) (by assumption) ?_ ?_
            rotate_left 1
            focus (intro w8 hSw; (try dsimp only at hSw); go_simp; (try with_reducible rfl); done)
            try simp only [Act.put, List.setIfInBounds_toArray, List.set_cons_zero, List.set_cons_succ]
            refine takeW (v := ?_) 12 (by decide +kernel) (by decide +kernel) (by kernel_rfl) (by simp only [List.getElem?_toArray, List.getElem?_cons_succ, List.getElem?_cons_zero]; rfl) (by rfl) (by exact fun _ _ _ h => h) (by assumption) ?_ ?_
            rotate_left 1
            focus (intro w8 hSw; (try dsimp only at hSw); go_simp; (try with_reducible rfl); done)
            try simp only [Act.put, List.setIfInBounds_toArray, List.set_cons_zero, List.set_cons_succ]
            refine takeW (v := ?_) 13 (by decide +kernel) (by decide +kernel) (by kernel_rfl) (by simp only [List.getElem?_toArray, List.getElem?_cons_succ, List.getElem?_cons_zero]; rfl) (by rfl) (by exact fun _ _ _ h => h) (by assumption) ?_ ?_
            rotate_left 1
            focus (intro w8 hSw; (try dsimp only at hSw); go_simp; (try with_reducible rfl); done)
            try simp only [Act.put, List.setIfInBounds_toArray, List.set_cons_zero, List.set_cons_succ]
            refine takeW (v := ?_) 15 (by decide +kernel) (by decide +kernel) (by kernel_rfl) (by simp only [List.getElem?_toArray, List.getElem?_cons_succ, List.getElem?_cons_zero]; rfl) (by rfl) (by exact fun _ _ _ h => h) (by assumption) ?_ ?_
            rotate_left 1
            focus (intro w8 hSw; (try dsimp only at hSw); go_simp; (try with_reducible rfl); done)
            try simp only [Act.put, List.setIfInBounds_toArray, List.set_cons_zero, List.set_cons_succ]
            refine wpAnyH_ready (rs := [14]) (by decide +kernel) (by simp) ?_
            refine AllReadyH.cons (by simp only [List.getElem?_toArray, List.getElem?_cons_succ, List.getElem?_cons_zero]; rfl) (fun K hK => ?_) AllReadyH.nil
            go_simp
            (go_at_call 18; with_reducible refine (HDM.out _ (by first | exact good_id (by assumption) | exact good_drew (by assumption))).mono ?_; rintro e w7 ⟨rfl, b7⟩; have HG7 := Lib.hid b7; have HK7 := Lib.hid (HKEEP.out _ b7); clear b7)
            go_wp2_with fail
            refine hK.out _ _ (by (try dsimp only); (first | assumption | exact HK7.out)) (fun hHeld => ?_)
            clear hK K
            try simp only [Act.put, List.setIfInBounds_toArray, List.set_cons_zero, List.set_cons_succ]
            refine wpAnyH_ready (rs := [16]) (by decide +kernel) (by simp) ?_
            refine AllReadyH.cons (by simp only [List.getElem?_toArray, List.getElem?_cons_succ, List.getElem?_cons_zero]; rfl) (fun K hK => ?_) AllReadyH.nil
            go_simp
            (go_at_call 19; with_reducible refine (HRM.out _ (by first | exact good_id (by assumption) | exact good_drew (by assumption))).mono ?_; rintro e w7 ⟨rfl, b7⟩; have HG7 := Lib.hid b7; have HK7 := Lib.hid (HKEEP.out _ b7); clear b7)
            go_wp2_with fail
            refine hK.out _ _ (by (try dsimp only); (first | assumption | exact HK7.out)) (fun hHeld => ?_)
            clear hK K
            try simp only [Act.put, List.setIfInBounds_toArray, List.set_cons_zero, List.set_cons_succ]
            refine wpAnyH_ready (rs := [17]) (by decide +kernel) (by simp) ?_
            refine AllReadyH.cons (by simp only [List.getElem?_toArray, List.getElem?_cons_succ, List.getElem?_cons_zero]; rfl) (fun K hK => ?_) AllReadyH.nil
            go_simp
            (go_at_call 15; with_reducible refine (HL2.out _).mono ?_; rintro e w7 ⟨rfl, rfl⟩)
            go_wp2_with fail
            refine hK.out _ _ (by (try dsimp only); (first | assumption | exact HK7.out)) (fun hHeld => ?_)
            clear hK K
            try simp only [Act.put, List.setIfInBounds_toArray, List.set_cons_zero, List.set_cons_succ]
            refine takeW (v := ?_) 18 (by decide +kernel) (by decide +kernel) (by kernel_rfl) (by simp only [List.getElem?_toArray, List.getElem?_cons_succ, List.getElem?_cons_zero]; rfl) (by rfl) (by exact fun _ _ _ h => h) (by assumption) ?_ ?_
            rotate_left 1
            focus (intro w8 hSw; (try dsimp only at hSw); go_simp; (try with_reducible rfl); done)
            try simp only [Act.put, List.setIfInBounds_toArray, List.set_cons_zero, List.set_cons_succ]
            refine takeW (v := ?_) 19 (by decide +kernel) (by decide +kernel) (by kernel_rfl) (by simp only [List.getElem?_toArray, List.getElem?_cons_succ, List.getElem?_cons_zero]; rfl) (by rfl) (by exact fun _ _ _ h => h) (by assumption) ?_ ?_
            rotate_left 1
            focus (intro w8 hSw; (try dsimp only at hSw); go_simp; (try with_reducible rfl); done)
            try simp only [Act.put, List.setIfInBounds_toArray, List.set_cons_zero, List.set_cons_succ]
            refine takeW (v := ?_) 20 (by decide +kernel) (by decide +kernel) (by kernel_rfl) (by simp only [List.getElem?_toArray, List.getElem?_cons_succ, List.getElem?_cons_zero]; rfl) (by rfl) (by exact fun _ _ _ h => h) (by assumption) ?_ ?_
            rotate_left 1
            focus (intro w8 hSw; (try dsimp only at hSw); go_simp; (try with_reducible rfl); done)
            try simp only [Act.put, List.setIfInBounds_toArray, List.set_cons_zero, List.set_cons_succ]
            refine takeW (v := ?_) 21 (by decide +kernel) (by decide +kernel) (by kernel_rfl) (by simp only [List.getElem?_toArray, List.getElem?_cons_succ, List.getElem?_cons_zero]; rfl) (by rfl) (by exact fun _ _ _ h => h) (by assumption) ?_ ?_
            rotate_left 1
            focus (intro w8 hSw; (try dsimp only at hSw); go_simp; (try with_reducible rfl); done)
            try simp only [Act.put, List.setIfInBounds_toArray, List.set_cons_zero, List.set_cons_succ]
            refine takeW (v := ?_) 22 (by decide +kernel) (by decide +kernel) (by kernel_rfl) (by simp only [List.getElem?_toArray, List.getElem?_cons_succ, List.getElem?_cons_zero]; rfl) (by rfl) (by exact fun _ _ _ h => h) (by assumption) ?_ ?_
            rotate_left 1
            focus (intro w8 hSw; (try dsimp only at hSw); go_simp; (try with_reducible rfl); done)
            try simp only [Act.put, List.setIfInBounds_toArray, List.set_cons_zero, List.set_cons_succ]
            refine takeW (v := ?_) 23 (by decide +kernel) (by decide +kernel) (by kernel_rfl) (by simp only [List.getElem?_toArray, List.getElem?_cons_succ, List.getElem?_cons_zero]; rfl) (by rfl) (by exact fun _ _ _ h => h) (by assumption) ?_ ?_
            rotate_left 1
            focus (intro w8 hSw; (try dsimp only at hSw); go_simp; (try with_reducible rfl); done)
            try simp only [Act.put, List.setIfInBounds_toArray, List.set_cons_zero, List.set_cons_succ]
            refine takeW (v := ?_) 24 (by decide +kernel) (by decide +kernel) (by kernel_rfl) (by simp only [List.getElem?_toArray, List.getElem?_cons_succ, List.getElem?_cons_zero]; rfl) (by rfl) (by exact fun _ _ _ h => h) (by assumption) ?_ ?_
            rotate_left 1
            focus (intro w8 hSw; (try dsimp only at hSw); go_simp; (try with_reducible rfl); done)
            try simp only [Act.put, List.setIfInBounds_toArray, List.set_cons_zero, List.set_cons_succ]
            refine takeW (v := ?_) 25 (by decide +kernel) (by decide +kernel) (by kernel_rfl) (by simp only [List.getElem?_toArray, List.getElem?_cons_succ, List.getElem?_cons_zero]; rfl) (by rfl) (by exact fun _ _ _ h => h) (by assumption) ?_ ?_
            rotate_left 1
            focus (intro w8 hSw; (try dsimp only at hSw); go_simp; (try with_reducible rfl); done)
            try simp only [Act.put, List.setIfInBounds_toArray, List.set_cons_zero, List.set_cons_succ]
            refine takeW (v := ?_) 26 (by decide +kernel) (by decide +kernel) (by kernel_rfl) (by simp only [List.getElem?_toArray, List.getElem?_cons_succ, List.getElem?_cons_zero]; rfl) (by rfl) (by exact fun _ _ _ h => h) (by assumption) ?_ ?_
            rotate_left 1
            focus (intro w8 hSw; (try dsimp only at hSw); go_simp; (try with_reducible rfl); done)
            try simp only [Act.put, List.setIfInBounds_toArray, List.set_cons_zero, List.set_cons_succ]
            refine takeW (v := ?_) 27 (by decide +kernel) (by decide +kernel) (by kernel_rfl) (by simp only [List.getElem?_toArray, List.getElem?_cons_succ, List.getElem?_cons_zero]; rfl) (by rfl) (by exact fun _ _ _ h => h) (by assumption) ?_ ?_
            rotate_left 1
            focus (intro w8 hSw; (try dsimp only at hSw); go_simp; (try with_reducible rfl); done)
            try simp only [Act.put, List.setIfInBounds_toArray, List.set_cons_zero, List.set_cons_succ]
            refine takeW (v := ?_) 28 (by decide +kernel) (by decide +kernel) (by kernel_rfl) (by simp only [List.getElem?_toArray, List.getElem?_cons_succ, List.getElem?_cons_zero]; rfl) (by rfl) (by exact fun _ _ _ h => h) (by assumption) ?_ ?_
            rotate_left 1
            focus (intro w8 hSw; (try dsimp only at hSw); go_simp; (try with_reducible rfl); done)
            try simp only [Act.put, List.setIfInBounds_toArray, List.set_cons_zero, List.set_cons_succ]
            refine takeU 29 (by decide +kernel) (by decide +kernel) (by kernel_rfl) (by simp only [List.getElem?_toArray, List.getElem?_cons_succ, List.getElem?_cons_zero]; rfl) (by rfl) (by exact fun _ _ _ h => h) (by assumption) ?_
            try simp only [Act.put, List.setIfInBounds_toArray, List.set_cons_zero, List.set_cons_succ]
            refine takeU 30 (by decide +kernel) (by decide +kernel) (by kernel_rfl) (by simp only [List.getElem?_toArray, List.getElem?_cons_succ, List.getElem?_cons_zero]; rfl) (by rfl) (by exact fun _ _ _ h => h) (by assumption) ?_
            try simp only [Act.put, List.setIfInBounds_toArray, List.set_cons_zero, List.set_cons_succ]
            refine takeU 31 (by decide +kernel) (by decide +kernel) (by kernel_rfl) (by simp only [List.getElem?_toArray, List.getElem?_cons_succ, List.getElem?_cons_zero]; rfl) (by rfl) (by exact fun _ _ _ h => h) (by assumption) ?_
            try simp only [Act.put, List.setIfInBounds_toArray, List.set_cons_zero, List.set_cons_succ]
            refine takeU 32 (by decide +kernel) (by decide +kernel) (by kernel_rfl) (by simp only [List.getElem?_toArray, List.getElem?_cons_succ, List.getElem?_cons_zero]; rfl) (by rfl) (by exact fun _ _ _ h => h) (by assumption) ?_
            try simp only [Act.put, List.setIfInBounds_toArray, List.set_cons_zero, List.set_cons_succ]
            refine takeU 33 (by decide +kernel) (by decide +kernel) (by kernel_rfl) (by simp only [List.getElem?_toArray, List.getElem?_cons_succ, List.getElem?_cons_zero]; rfl) (by rfl) (by exact fun _ _ _ h => h) (by assumption) ?_
            try simp only [Act.put, List.setIfInBounds_toArray, List.set_cons_zero, List.set_cons_succ]
            refine takeU 34 (by decide +kernel) (by decide +kernel) (by kernel_rfl) (by simp only [List.getElem?_toArray, List.getElem?_cons_succ, List.getElem?_cons_zero]; rfl) (by rfl) (by exact fun _ _ _ h => h) (by assumption) ?_
            try simp only [Act.put, List.setIfInBounds_toArray, List.set_cons_zero, List.set_cons_succ]
            refine takeU 35 (by decide +kernel) (by decide +kernel) (by kernel_rfl) (by simp only [List.getElem?_toArray, List.getElem?_cons_succ, List.getElem?_cons_zero]; rfl) (by rfl) (by exact fun _ _ _ h => h) (by assumption) ?_
            try simp only [Act.put, List.setIfInBounds_toArray, List.set_cons_zero, List.set_cons_succ]
            refine takeW (v := ?_) 36 (by decide +kernel) (by decide +kernel) (by kernel_rfl) (by simp only [List.getElem?_toArray, List.getElem?_cons_succ, List.getElem?_cons_zero]; rfl) (by rfl) (by exact fun _ _ _ h => h) (by assumption) ?_ ?_
            rotate_left 1
            focus (intro w8 hSw; (try dsimp only at hSw); go_simp; (try with_reducible rfl); done)
            try simp only [Act.put, List.setIfInBounds_toArray, List.set_cons_zero, List.set_cons_succ]
            refine takeW (v := ?_) 37 (by decide +kernel) (by decide +kernel) (by kernel_rfl) (by simp only [List.getElem?_toArray, List.getElem?_cons_succ, List.getElem?_cons_zero]; rfl) (by rfl) (by exact fun _ _ _ h => h) (by assumption) ?_ ?_
            rotate_left 1
            focus (intro w8 hSw; (try dsimp only at hSw); go_simp; (try with_reducible rfl); done)
            try simp only [Act.put, List.setIfInBounds_toArray, List.set_cons_zero, List.set_cons_succ]
            refine takeW (v := ?_) 38 (by decide +kernel) (by decide +kernel) (by kernel_rfl) (by simp only [List.getElem?_toArray, List.getElem?_cons_succ, List.getElem?_cons_zero]; rfl) (by rfl) (by exact fun _ _ _ h => h) (by assumption) ?_ ?_
            rotate_left 1
            focus (intro w8 hSw; (try dsimp only at hSw); go_simp; (try with_reducible rfl); done)
            try simp only [Act.put, List.setIfInBounds_toArray, List.set_cons_zero, List.set_cons_succ]
            refine wpAnyH_done (by decide +kernel) ?_ _
            all_goals
              go_wp2_with fail
              go_ret
              exact ⟨rfl, HFIN.out _ (by first | exact good_id (by assumption) | exact good_drew (by assumption))⟩
          · have hc40i : (40 : Int) < (x.counts.length : Int) := by omega
            clear hb e0 e1 e2 hVA hKA hFA hAT hCT hBT hva hka hfa hat hct hbt hv hm hi hW0 hfew hfb hfb2 hbig hk40 hf40 ha40 hc40
            go_enter Try.func3, Try.ntmps3
            go_wp2_with fail
            rw [← HW0.out]
            refine (HAW.out _ HG0.out).mono ?_
            rintro e w1 ⟨rfl, b1⟩
            have HG1 := Lib.hid b1
            obtain ⟨⟨p0, p1, p2, p3⟩, ⟨q0, q1, q2, q3⟩, ⟨s0, s1, s2, s3, s4, s5, s6⟩⟩ := HKEEP.out _ HG1.out
            clear b1
            go_wp2_with fail
            refine (HFEW.out _ HG1.out).mono ?_
            rintro e w2 ⟨rfl, b2⟩
            have HG2 := Lib.hid b2
            obtain ⟨⟨p0, p1, p2, p3⟩, ⟨q0, q1, q2, q3⟩, ⟨s0, s1, s2, s3, s4, s5, s6⟩⟩ := HKEEP.out _ HG2.out
            clear b2
            go_wp2_with fail
            refine (HFWB.out _ HG2.out).mono ?_
            rintro e w3 ⟨rfl, b3⟩
            have HG3 := Lib.hid b3
            obtain ⟨⟨p0, p1, p2, p3⟩, ⟨q0, q1, q2, q3⟩, ⟨s0, s1, s2, s3, s4, s5, s6⟩⟩ := HKEEP.out _ HG3.out
            clear b3
            go_wp2_with fail
            refine (HAW.out _ HG3.out).mono ?_
            rintro e w4 ⟨rfl, b4⟩
            have HG4 := Lib.hid b4
            clear b4
            go_wp2_with fail
            go_ret
            exact ⟨rfl, HFIN.out _ HG4.out⟩
        · have ha40i : (40 : Int) < (x.attrs.length : Int) := by omega
          clear hb e0 e1 e2 hVA hKA hFA hAT hCT hBT hva hka hfa hat hct hbt hv hm hi hW0 hfew hfb hfb2 hbig hk40 hf40 ha40
          go_enter Try.func3, Try.ntmps3
          go_wp2_with fail
          rw [← HW0.out]
          refine (HAW.out _ HG0.out).mono ?_
          rintro e w1 ⟨rfl, b1⟩
          have HG1 := Lib.hid b1
          obtain ⟨⟨p0, p1, p2, p3⟩, ⟨q0, q1, q2, q3⟩, ⟨s0, s1, s2, s3, s4, s5, s6⟩⟩ := HKEEP.out _ HG1.out
          clear b1
          go_wp2_with fail
          refine (HFEW.out _ HG1.out).mono ?_
          rintro e w2 ⟨rfl, b2⟩
          have HG2 := Lib.hid b2
          obtain ⟨⟨p0, p1, p2, p3⟩, ⟨q0, q1, q2, q3⟩, ⟨s0, s1, s2, s3, s4, s5, s6⟩⟩ := HKEEP.out _ HG2.out
          clear b2
          go_wp2_with fail
          refine (HFWB.out _ HG2.out).mono ?_
          rintro e w3 ⟨rfl, b3⟩
          have HG3 := Lib.hid b3
          obtain ⟨⟨p0, p1, p2, p3⟩, ⟨q0, q1, q2, q3⟩, ⟨s0, s1, s2, s3, s4, s5, s6⟩⟩ := HKEEP.out _ HG3.out
          clear b3
          go_wp2_with fail
          refine (HAW.out _ HG3.out).mono ?_
          rintro e w4 ⟨rfl, b4⟩
          have HG4 := Lib.hid b4
          clear b4
          go_wp2_with fail
          go_ret
          exact ⟨rfl, HFIN.out _ HG4.out⟩
  · have hfew2 : fewB [m] = false := by simpa using hfew
    rw [hfew2] at HFEW
    clear hb e0 e1 e2 hVA hKA hFA hAT hCT hBT hva hka hfa hat hct hbt hv hm hi hW0 hfew hfew2
    go_enter Try.func3, Try.ntmps3
    go_wp2_with fail
    rw [← HW0.out]
    refine (HAW.out _ HG0.out).mono ?_
    rintro e w1 ⟨rfl, b1⟩
    have HG1 := Lib.hid b1
    obtain ⟨⟨p0, p1, p2, p3⟩, ⟨q0, q1, q2, q3⟩, ⟨s0, s1, s2, s3, s4, s5, s6⟩⟩ := HKEEP.out _ HG1.out
    clear b1
    go_wp2_with fail
    refine (HFEW.out _ HG1.out).mono ?_
    rintro e w2 ⟨rfl, b2⟩
    have HG2 := Lib.hid b2
    obtain ⟨⟨p0, p1, p2, p3⟩, ⟨q0, q1, q2, q3⟩, ⟨s0, s1, s2, s3, s4, s5, s6⟩⟩ := HKEEP.out _ HG2.out
    clear b2
    go_wp2_with fail
    refine (HAW.out _ HG2.out).mono ?_
    rintro e w3 ⟨rfl, b3⟩
    have HG3 := Lib.hid b3
    clear b3
    go_wp2_with fail
    go_ret
    exact ⟨rfl, HFIN.out _ HG3.out⟩

end Go.Proofs.Ytgfgafpaokefhaa.Cd
