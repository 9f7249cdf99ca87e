/-
  CodeBack, walked.
-/
import Derived.Test.YtkdhchdhgmaolaaZTzB
import Derived.Test.YtkdhchdhgmaolaaZCdSameR
import Derived.Test.YtkdhchdhgmaolaaZCdAwake
import Derived.Test.YtkdhchdhgmaolaaZTzE
namespace Go.Proofs.Ytkdhchdhgmaolaa.Cd
open Go.RowKit
open Pk Va
set_option linter.unusedVariables false
set_option linter.unusedSimpArgs false

theorem rok_of {l : List V} (h : ∀ v ∈ l, VBig v) (hl : l.length ≤ 140737488355328) : ROk l := ⟨fun v hv => (h v hv).ok, hl⟩
theorem mok_of {m : MailP} (h : MBig m) (hk : m.key.length ≤ 40) (hf : m.fields.length ≤ 40) : MOk m := ⟨rok_of h.key (by omega), rok_of h.fields (by omega)⟩

set_option maxRecDepth 100000 in
set_option maxHeartbeats 16000000 in
theorem CodeBack_door (v : V) (va : Option Addr) (vk : Nat) (x : ItemP) (aa : Option Addr) (ac : Nat) (ca : Option Addr) (cc : Nat) (ba : Option Addr) (bc : Nat) (y : DeadP) (ka : Option Addr) (kc : Nat) (fa : Option Addr) (fc : Nat) (w : World)
    (hv : VBig v) (hva : NumsAt w va v.list) (hi : IBig x) (hat : ValsAt w aa x.attrs) (hct : NumsAt w ca x.counts) (hbt : MailsAt w ba x.box) (hyn : Num64 y.n) (hyr : Num64 y.reason) (hm : MBig y.mail) (hka : ValsAt w ka y.mail.key) (hfa : ValsAt w fa y.mail.fields) :
    Calls Try.prog 5 #[.agg #[.int .i64 v.kind, .int .i64 v.num, .string (S v.text), .slice va v.list.length vk], .agg #[.int .i64 x.id, .string (S x.typ), .string (S x.state), .int .i64 x.since, .slice aa x.attrs.length ac, .slice ca x.counts.length cc, .slice ba x.box.length bc], .agg #[.int .i64 y.n, .int .i64 y.mail.id, .string (S y.mail.chan), .slice ka y.mail.key.length kc, .slice fa y.mail.fields.length fc, .int .i64 y.reason]] w fun e w' => e = .returned (.bool true) ∧ Below w.heap.size w w' := by
  obtain ⟨W0, hW0⟩ : ∃ W0, W0 = ((w.alloc (.cells #[.int .i64 v.kind, .int .i64 v.num, .string (S v.text), .slice va v.list.length vk] 25)).alloc (.cells #[.int .i64 x.id, .string (S x.typ), .string (S x.state), .int .i64 x.since, .slice aa x.attrs.length ac, .slice ca x.counts.length cc, .slice ba x.box.length bc] 41)).alloc (.cells #[.int .i64 y.n, .int .i64 y.mail.id, .string (S y.mail.chan), .slice ka y.mail.key.length kc, .slice fa y.mail.fields.length fc, .int .i64 y.reason] 51) := ⟨_, rfl⟩
  have hb : Below w.heap.size w W0 := by rw [hW0]; exact (((Below.refl w.heap.size w).alloc (Nat.le_refl _) _).alloc (by simp) _).alloc (by simp; omega) _
  have e0 : W0.heap[w.heap.size]? = some (.cells #[.int .i64 v.kind, .int .i64 v.num, .string (S v.text), .slice va v.list.length vk] 25 (0, 0)) := by rw [hW0]; exact (((Below.refl _ _).alloc (Nat.le_refl _) _).block _ (by simp; omega)).trans ((((Below.refl _ _).alloc (Nat.le_refl _) _).block _ (by simp)).trans (heap_alloc_new w _))
  have e1 : W0.heap[w.heap.size + 1]? = some (.cells #[.int .i64 x.id, .string (S x.typ), .string (S x.state), .int .i64 x.since, .slice aa x.attrs.length ac, .slice ca x.counts.length cc, .slice ba x.box.length bc] 41 (0, 0)) := by rw [hW0]; exact (((Below.refl _ _).alloc (Nat.le_refl _) _).block _ (by simp)).trans (by have := heap_alloc_new (w.alloc (.cells #[.int .i64 v.kind, .int .i64 v.num, .string (S v.text), .slice va v.list.length vk] 25)) (.cells #[.int .i64 x.id, .string (S x.typ), .string (S x.state), .int .i64 x.since, .slice aa x.attrs.length ac, .slice ca x.counts.length cc, .slice ba x.box.length bc] 41); rwa [show (w.alloc (.cells #[.int .i64 v.kind, .int .i64 v.num, .string (S v.text), .slice va v.list.length vk] 25)).heap.size = w.heap.size + 1 by simp] at this)
  have e2 : W0.heap[w.heap.size + 1 + 1]? = some (.cells #[.int .i64 y.n, .int .i64 y.mail.id, .string (S y.mail.chan), .slice ka y.mail.key.length kc, .slice fa y.mail.fields.length fc, .int .i64 y.reason] 51 (0, 0)) := by rw [hW0]; have := heap_alloc_new ((w.alloc (.cells #[.int .i64 v.kind, .int .i64 v.num, .string (S v.text), .slice va v.list.length vk] 25)).alloc (.cells #[.int .i64 x.id, .string (S x.typ), .string (S x.state), .int .i64 x.since, .slice aa x.attrs.length ac, .slice ca x.counts.length cc, .slice ba x.box.length bc] 41)) (.cells #[.int .i64 y.n, .int .i64 y.mail.id, .string (S y.mail.chan), .slice ka y.mail.key.length kc, .slice fa y.mail.fields.length fc, .int .i64 y.reason] 51); rwa [show ((w.alloc (.cells #[.int .i64 v.kind, .int .i64 v.num, .string (S v.text), .slice va v.list.length vk] 25)).alloc (.cells #[.int .i64 x.id, .string (S x.typ), .string (S x.state), .int .i64 x.since, .slice aa x.attrs.length ac, .slice ca x.counts.length cc, .slice ba x.box.length bc] 41)).heap.size = w.heap.size + 1 + 1 by simp] at this
  have hVA := hva.below hb
  have hAT := hat.below hb
  have hCT := hct.below hb
  have hBT := hbt.below hb
  have hKA := hka.below hb
  have hFA := hfa.below hb
  have HKEEP := Lib.hid (fun W (k : Good W0 W) => show (W.cell? ⟨w.heap.size, 0, none⟩ = some (.int .i64 v.kind) ∧ W.cell? ⟨w.heap.size, 1, none⟩ = some (.int .i64 v.num) ∧ W.cell? ⟨w.heap.size, 2, none⟩ = some (.string (S v.text)) ∧ W.cell? ⟨w.heap.size, 3, none⟩ = some (.slice va v.list.length vk)) ∧ (W.cell? ⟨w.heap.size + 1, 0, none⟩ = some (.int .i64 x.id) ∧ W.cell? ⟨w.heap.size + 1, 1, none⟩ = some (.string (S x.typ)) ∧ W.cell? ⟨w.heap.size + 1, 2, none⟩ = some (.string (S x.state)) ∧ W.cell? ⟨w.heap.size + 1, 3, none⟩ = some (.int .i64 x.since) ∧ W.cell? ⟨w.heap.size + 1, 4, none⟩ = some (.slice aa x.attrs.length ac) ∧ W.cell? ⟨w.heap.size + 1, 5, none⟩ = some (.slice ca x.counts.length cc) ∧ W.cell? ⟨w.heap.size + 1, 6, none⟩ = some (.slice ba x.box.length bc)) ∧ (W.cell? ⟨w.heap.size + 1 + 1, 0, none⟩ = some (.int .i64 y.n) ∧ W.cell? ⟨w.heap.size + 1 + 1, 1, none⟩ = some (.int .i64 y.mail.id) ∧ W.cell? ⟨w.heap.size + 1 + 1, 2, none⟩ = some (.string (S y.mail.chan)) ∧ W.cell? ⟨w.heap.size + 1 + 1, 3, none⟩ = some (.slice ka y.mail.key.length kc) ∧ W.cell? ⟨w.heap.size + 1 + 1, 4, none⟩ = some (.slice fa y.mail.fields.length fc) ∧ W.cell? ⟨w.heap.size + 1 + 1, 5, none⟩ = some (.int .i64 y.reason)) from ⟨⟨cell_of_row W (w.heap.size) 0 _ _ (0, 0) ((k.block (w.heap.size) (lt_of_heapV e0)).trans e0), cell_of_row W (w.heap.size) 1 _ _ (0, 0) ((k.block (w.heap.size) (lt_of_heapV e0)).trans e0), cell_of_row W (w.heap.size) 2 _ _ (0, 0) ((k.block (w.heap.size) (lt_of_heapV e0)).trans e0), cell_of_row W (w.heap.size) 3 _ _ (0, 0) ((k.block (w.heap.size) (lt_of_heapV e0)).trans e0)⟩, ⟨cell_of_row W (w.heap.size + 1) 0 _ _ (0, 0) ((k.block (w.heap.size + 1) (lt_of_heapV e1)).trans e1), cell_of_row W (w.heap.size + 1) 1 _ _ (0, 0) ((k.block (w.heap.size + 1) (lt_of_heapV e1)).trans e1), cell_of_row W (w.heap.size + 1) 2 _ _ (0, 0) ((k.block (w.heap.size + 1) (lt_of_heapV e1)).trans e1), cell_of_row W (w.heap.size + 1) 3 _ _ (0, 0) ((k.block (w.heap.size + 1) (lt_of_heapV e1)).trans e1), cell_of_row W (w.heap.size + 1) 4 _ _ (0, 0) ((k.block (w.heap.size + 1) (lt_of_heapV e1)).trans e1), cell_of_row W (w.heap.size + 1) 5 _ _ (0, 0) ((k.block (w.heap.size + 1) (lt_of_heapV e1)).trans e1), cell_of_row W (w.heap.size + 1) 6 _ _ (0, 0) ((k.block (w.heap.size + 1) (lt_of_heapV e1)).trans e1)⟩, ⟨cell_of_row W (w.heap.size + 1 + 1) 0 _ _ (0, 0) ((k.block (w.heap.size + 1 + 1) (lt_of_heapV e2)).trans e2), cell_of_row W (w.heap.size + 1 + 1) 1 _ _ (0, 0) ((k.block (w.heap.size + 1 + 1) (lt_of_heapV e2)).trans e2), cell_of_row W (w.heap.size + 1 + 1) 2 _ _ (0, 0) ((k.block (w.heap.size + 1 + 1) (lt_of_heapV e2)).trans e2), cell_of_row W (w.heap.size + 1 + 1) 3 _ _ (0, 0) ((k.block (w.heap.size + 1 + 1) (lt_of_heapV e2)).trans e2), cell_of_row W (w.heap.size + 1 + 1) 4 _ _ (0, 0) ((k.block (w.heap.size + 1 + 1) (lt_of_heapV e2)).trans e2), cell_of_row W (w.heap.size + 1 + 1) 5 _ _ (0, 0) ((k.block (w.heap.size + 1 + 1) (lt_of_heapV e2)).trans e2)⟩⟩)
  have HFIN := Lib.hid (fun (wr : World) (h : Good W0 wr) => hb.trans (h.mono hb.size))
  have HAW := Lib.hid (fun W (k : Good W0 W) => good_call (R := fun e => e = .returned (.bool true)) k (awake_any W))
  have HG0 := Lib.hid (Good.refl W0)
  have HFEW := Lib.hid (fun W (k : Good W0 W) => good_call (R := fun e => e = .returned (.bool (fewB [y.mail]))) (k.alloc (.cells #[.int .i64 y.mail.id, .string (S y.mail.chan), .slice ka y.mail.key.length kc, .slice fa y.mail.fields.length fc] 33)) (few_any [y.mail] (by simp) (fun m' h => by simp at h; subst h; exact ⟨hm.klen, hm.flen⟩) (some ⟨W.heap.size, 0, none⟩) 1 (W.alloc (.cells #[.int .i64 y.mail.id, .string (S y.mail.chan), .slice ka y.mail.key.length kc, .slice fa y.mail.fields.length fc] 33)) (mails_one W y.mail ka fa kc fc (hKA.below k) (hFA.below k))))
  have HFWB := Lib.hid (fun W (k : Good W0 W) => good_call (R := fun e => e = .returned (.bool (fewB x.box))) k (few_any x.box hi.blen (fun m' h => ⟨(hi.box m' h).klen, (hi.box m' h).flen⟩) ba bc W (hBT.below k)))
  have HW0 := Lib.hid hW0
  by_cases hfew : fewB [y.mail] = true
  · rw [hfew] at HFEW
    obtain ⟨_, hk40, hf40⟩ := fewB_at hfew (List.mem_singleton.2 rfl)
    by_cases hfb : fewB x.box = true
    · rw [hfb] at HFWB
      have hbm : ∀ m ∈ x.box, m.key.length ≤ 40 ∧ m.fields.length ≤ 40 := fun m hmm => (fewB_at hfb hmm).2
      have hb200 : x.box.length ≤ 200 := by
        cases hx : x.box with
        | nil => simp
        | cons m r => rw [← hx]; exact (fewB_at hfb (show m ∈ x.box by rw [hx]; simp)).1
      clear hfew hfb
      by_cases ha40 : x.attrs.length ≤ 40
      · have ha40i : ¬ (40 : Int) < (x.attrs.length : Int) := by omega
        by_cases hc40 : x.counts.length ≤ 40
        · have hc40i : ¬ (40 : Int) < (x.counts.length : Int) := by omega
          obtain ⟨t1, E1, v2, g1, ep1, hl1, hg1, f1⟩ := put_get getV v (valB v) (rightB v) (fun h => Nat.le_trans (valB_short h) (by omega)) (fun h => getV_put hv.in_ h)
          obtain ⟨t2, E2, x2, g2, ep2, hl2, hg2, f2⟩ := put_get getI x (itemB x) (itemOk x) (fun h => itemB_short h hb200) (fun h => getI_put hi.in_ h)
          obtain ⟨t3, E3, y2, g3, ep3, hl3, hg3, f3⟩ := put_get getD y (deadB y) (deadOk y) (fun h => deadB_short h) (fun h => getD_put hyn hm.in_ h)
          have HPV := Lib.hid (fun W (k : Good W0 W) => good_call (R := fun e => e = .returned (putR (valB v) (rightB v))) k (PutValue_any v hv.in_ va vk W (hVA.below k)))
          have HPI := Lib.hid (fun W (k : Good W0 W) => good_call (R := fun e => e = .returned (putR (itemB x) (itemOk x))) k (PutItem_any x hi.in_ aa ac ca cc ba bc W (hAT.below k) (hCT.below k) (hBT.below k)))
          have HPD := Lib.hid (fun W (k : Good W0 W) => good_call (R := fun e => e = .returned (putR (deadB y) (deadOk y))) k (PutDead_any y hyn hyr hm.in_ ka kc fa fc W (hKA.below k) (hFA.below k)))
          rw [ep1] at HPV
          rw [ep2] at HPI
          rw [ep3] at HPD
          have HGV := Lib.hid (fun W => GetValue_any t1 hl1 W)
          have HGI := Lib.hid (fun W => GetItem_any t2 hl2 W)
          have HGD := Lib.hid (fun W => GetDead_any t3 hl3 W)
          rw [hg1] at HGV
          rw [hg2] at HGI
          rw [hg3] at HGD
          unfold GotI at HGI
          unfold GotD at HGD
          unfold valC at HGV
          have F1 := Lib.hid f1
          have F2 := Lib.hid f2
          have F3 := Lib.hid f3
          have HSV := Lib.hid (fun W0' W (k : Good W0' W) (k0 : Good W0 W) q cap (h : NumsAt W q v.list) => good_call (R := fun e => e = .returned (.bool true)) k (show Calls _ _ _ W _ from by have := refSame_any v v hv.ok hv.ok va q vk cap W (hVA.below k0) h; rwa [(sameV_iff v v).2 rfl] at this))
          have HSI := Lib.hid (fun W0' W (k : Good W0' W) (k0 : Good W0 W) a2 c2 b2 d2 m2 n2 (h1 : ValsAt W a2 x.attrs) (h2 : NumsAt W b2 x.counts) (h3 : MailsAt W m2 x.box) => good_call (R := fun e => e = .returned (.bool true)) k (sameItem_refl x (rok_of hi.attrs (by omega)) (by omega) (fun m hmm => mok_of (hi.box m hmm) (hbm m hmm).1 (hbm m hmm).2) (by omega) aa ac ca cc ba bc a2 c2 b2 d2 m2 n2 W (hAT.below k0) (hCT.below k0) (hBT.below k0) h1 h2 h3))
          have HSD := Lib.hid (fun W0' W (k : Good W0' W) (k0 : Good W0 W) a2 c2 b2 d2 (h1 : ValsAt W a2 y.mail.key) (h2 : ValsAt W b2 y.mail.fields) => good_call (R := fun e => e = .returned (.bool true)) k (sameDead_refl y (mok_of hm hk40 hf40) ka kc fa fc a2 c2 b2 d2 W (hKA.below k0) (hFA.below k0) h1 h2))
          unfold valC at HSV
          clear ep1 ep2 ep3 hg1 hg2 hg3 hl1 hl2 hl3 f1 f2 f3
          clear hb e0 e1 e2 hVA hAT hCT hBT hKA hFA hva hat hct hbt hka hfa hv hi hm hyn hyr hW0 hk40 hf40 hb200 hbm
          go_enter Try.func5, Try.ntmps5
          go_wp2_with fail
          rw [← HW0.out]
          refine (HAW.out _ HG0.out).mono ?_
          rintro e w1 ⟨rfl, b1⟩
          have HG1 := Lib.hid b1
          obtain ⟨⟨p0, p1, p2, p3⟩, ⟨q0, q1, q2, q3, q4, q5, q6⟩, ⟨s0, s1, s2, s3, s4, s5⟩⟩ := HKEEP.out _ HG1.out
          clear b1
          go_wp2_with fail
          refine (HFEW.out _ HG1.out).mono ?_
          rintro e w2 ⟨rfl, b2⟩
          have HG2 := Lib.hid b2
          obtain ⟨⟨p0, p1, p2, p3⟩, ⟨q0, q1, q2, q3, q4, q5, q6⟩, ⟨s0, s1, s2, s3, s4, s5⟩⟩ := HKEEP.out _ HG2.out
          clear b2
          go_wp2_with fail
          refine (HFWB.out _ HG2.out).mono ?_
          rintro e w3 ⟨rfl, b3⟩
          have HG3 := Lib.hid b3
          obtain ⟨⟨p0, p1, p2, p3⟩, ⟨q0, q1, q2, q3, q4, q5, q6⟩, ⟨s0, s1, s2, s3, s4, s5⟩⟩ := HKEEP.out _ HG3.out
          clear b3
          go_wp2_with fail
          refine (HPV.out _ HG3.out).mono ?_
          rintro e w4 ⟨rfl, b4⟩
          have HG4 := Lib.hid b4
          obtain ⟨⟨p0, p1, p2, p3⟩, ⟨q0, q1, q2, q3, q4, q5, q6⟩, ⟨s0, s1, s2, s3, s4, s5⟩⟩ := HKEEP.out _ HG4.out
          clear b4
          go_wp2_with fail
          refine (HPI.out _ HG4.out).mono ?_
          rintro e w5 ⟨rfl, b5⟩
          have HG5 := Lib.hid b5
          obtain ⟨⟨p0, p1, p2, p3⟩, ⟨q0, q1, q2, q3, q4, q5, q6⟩, ⟨s0, s1, s2, s3, s4, s5⟩⟩ := HKEEP.out _ HG5.out
          clear b5
          go_wp2_with fail
          refine (HPD.out _ HG5.out).mono ?_
          rintro e w6 ⟨rfl, b6⟩
          have HG6 := Lib.hid b6
          obtain ⟨⟨p0, p1, p2, p3⟩, ⟨q0, q1, q2, q3, q4, q5, q6⟩, ⟨s0, s1, s2, s3, s4, s5⟩⟩ := HKEEP.out _ HG6.out
          clear b6
          go_wp2_with fail
          refine (HGV.out _).mono ?_
          rintro e v9 ⟨nq, nc, rfl, b9, nn, _⟩
          (try simp only at nn)
          obtain ⟨V9, hV9⟩ : ∃ V9, V9 = v9.alloc (.cells #[.int .i64 v2.kind, .int .i64 v2.num, .string (S v2.text), .slice nq v2.list.length nc] 25) := ⟨_, rfl⟩
          have hz1 := heap_alloc_new v9 (.cells #[.int .i64 v2.kind, .int .i64 v2.num, .string (S v2.text), .slice nq v2.list.length nc] 25)
          have K1 := Lib.hid ((HG6.out.step b9).alloc (.cells #[.int .i64 v2.kind, .int .i64 v2.num, .string (S v2.text), .slice nq v2.list.length nc] 25))
          have N1 := Lib.hid (nn.below ((Below.refl _ _).alloc (Nat.le_refl _) (.cells #[.int .i64 v2.kind, .int .i64 v2.num, .string (S v2.text), .slice nq v2.list.length nc] 25)))
          rw [← hV9] at hz1 K1 N1
          have Z1 := Lib.hid hz1
          have HV9 := Lib.hid hV9
          clear b9 nn hz1 hV9
          go_wp2_with fail
          rw [← HV9.out]
          refine (HGI.out _).mono ?_
          rintro e i9 ⟨a2, c2, b2, d2, m2, n2, rfl, b9, n1, n2', n3⟩
          (try simp only at n1 n2' n3)
          obtain ⟨I9, hI9⟩ : ∃ I9, I9 = i9.alloc (.cells #[.int .i64 x2.id, .string (S x2.typ), .string (S x2.state), .int .i64 x2.since, .slice a2 x2.attrs.length c2, .slice b2 x2.counts.length d2, .slice m2 x2.box.length n2] 41) := ⟨_, rfl⟩
          have kk := (Below.refl i9.heap.size i9).alloc (Nat.le_refl _) (.cells #[.int .i64 x2.id, .string (S x2.typ), .string (S x2.state), .int .i64 x2.since, .slice a2 x2.attrs.length c2, .slice b2 x2.counts.length d2, .slice m2 x2.box.length n2] 41)
          have hz2 := heap_alloc_new i9 (.cells #[.int .i64 x2.id, .string (S x2.typ), .string (S x2.state), .int .i64 x2.since, .slice a2 x2.attrs.length c2, .slice b2 x2.counts.length d2, .slice m2 x2.box.length n2] 41)
          have kv := Good.alloc (show Good V9 i9 from b9) (.cells #[.int .i64 x2.id, .string (S x2.typ), .string (S x2.state), .int .i64 x2.since, .slice a2 x2.attrs.length c2, .slice b2 x2.counts.length d2, .slice m2 x2.box.length n2] 41)
          have N2 := Lib.hid (n1.below kk)
          have N3 := Lib.hid (n2'.below kk)
          have N4 := Lib.hid (n3.below kk)
          rw [← hI9] at hz2 kv N2 N3 N4
          have Z2 := Lib.hid hz2
          have KV := Lib.hid kv
          have HI9 := Lib.hid hI9
          clear b9 n1 n2' n3 kk hz2 kv hI9
          go_wp2_with fail
          rw [← HI9.out]
          refine (HGD.out _).mono ?_
          rintro e d9 ⟨k3, l3, f3, h3, rfl, b9, n1, n2'⟩
          (try simp only at n1 n2')
          obtain ⟨D9, hD9⟩ : ∃ D9, D9 = d9.alloc (.cells #[.int .i64 y2.n, .int .i64 y2.mail.id, .string (S y2.mail.chan), .slice k3 y2.mail.key.length l3, .slice f3 y2.mail.fields.length h3, .int .i64 y2.reason] 51) := ⟨_, rfl⟩
          have kk := (Below.refl d9.heap.size d9).alloc (Nat.le_refl _) (.cells #[.int .i64 y2.n, .int .i64 y2.mail.id, .string (S y2.mail.chan), .slice k3 y2.mail.key.length l3, .slice f3 y2.mail.fields.length h3, .int .i64 y2.reason] 51)
          have hz3 := heap_alloc_new d9 (.cells #[.int .i64 y2.n, .int .i64 y2.mail.id, .string (S y2.mail.chan), .slice k3 y2.mail.key.length l3, .slice f3 y2.mail.fields.length h3, .int .i64 y2.reason] 51)
          have ki := Good.alloc (show Good I9 d9 from b9) (.cells #[.int .i64 y2.n, .int .i64 y2.mail.id, .string (S y2.mail.chan), .slice k3 y2.mail.key.length l3, .slice f3 y2.mail.fields.length h3, .int .i64 y2.reason] 51)
          have N5 := Lib.hid (n1.below kk)
          have N6 := Lib.hid (n2'.below kk)
          rw [← hD9] at hz3 ki N5 N6
          have Z3 := Lib.hid hz3
          have KI := Lib.hid ki
          have HD9 := Lib.hid hD9
          clear b9 n1 n2' kk hz3 ki hD9
          go_wp2_with fail
          rw [← HD9.out]
          have KVD := Lib.hid (KV.out.step (KI.out))
          have K0 := Lib.hid (K1.out.step KVD.out)
          have HKP := Lib.hid (fun W (k : Good D9 W) => show ((W.cell? ⟨w.heap.size, 0, none⟩ = some (.int .i64 v.kind) ∧ W.cell? ⟨w.heap.size, 1, none⟩ = some (.int .i64 v.num) ∧ W.cell? ⟨w.heap.size, 2, none⟩ = some (.string (S v.text)) ∧ W.cell? ⟨w.heap.size, 3, none⟩ = some (.slice va v.list.length vk)) ∧ (W.cell? ⟨w.heap.size + 1, 0, none⟩ = some (.int .i64 x.id) ∧ W.cell? ⟨w.heap.size + 1, 1, none⟩ = some (.string (S x.typ)) ∧ W.cell? ⟨w.heap.size + 1, 2, none⟩ = some (.string (S x.state)) ∧ W.cell? ⟨w.heap.size + 1, 3, none⟩ = some (.int .i64 x.since) ∧ W.cell? ⟨w.heap.size + 1, 4, none⟩ = some (.slice aa x.attrs.length ac) ∧ W.cell? ⟨w.heap.size + 1, 5, none⟩ = some (.slice ca x.counts.length cc) ∧ W.cell? ⟨w.heap.size + 1, 6, none⟩ = some (.slice ba x.box.length bc)) ∧ (W.cell? ⟨w.heap.size + 1 + 1, 0, none⟩ = some (.int .i64 y.n) ∧ W.cell? ⟨w.heap.size + 1 + 1, 1, none⟩ = some (.int .i64 y.mail.id) ∧ W.cell? ⟨w.heap.size + 1 + 1, 2, none⟩ = some (.string (S y.mail.chan)) ∧ W.cell? ⟨w.heap.size + 1 + 1, 3, none⟩ = some (.slice ka y.mail.key.length kc) ∧ W.cell? ⟨w.heap.size + 1 + 1, 4, none⟩ = some (.slice fa y.mail.fields.length fc) ∧ W.cell? ⟨w.heap.size + 1 + 1, 5, none⟩ = some (.int .i64 y.reason))) ∧ (W.cell? ⟨v9.heap.size, 0, none⟩ = some (.int .i64 v2.kind) ∧ W.cell? ⟨v9.heap.size, 1, none⟩ = some (.int .i64 v2.num) ∧ W.cell? ⟨v9.heap.size, 2, none⟩ = some (.string (S v2.text)) ∧ W.cell? ⟨v9.heap.size, 3, none⟩ = some (.slice nq v2.list.length nc)) ∧ (W.cell? ⟨i9.heap.size, 0, none⟩ = some (.int .i64 x2.id) ∧ W.cell? ⟨i9.heap.size, 1, none⟩ = some (.string (S x2.typ)) ∧ W.cell? ⟨i9.heap.size, 2, none⟩ = some (.string (S x2.state)) ∧ W.cell? ⟨i9.heap.size, 3, none⟩ = some (.int .i64 x2.since) ∧ W.cell? ⟨i9.heap.size, 4, none⟩ = some (.slice a2 x2.attrs.length c2) ∧ W.cell? ⟨i9.heap.size, 5, none⟩ = some (.slice b2 x2.counts.length d2) ∧ W.cell? ⟨i9.heap.size, 6, none⟩ = some (.slice m2 x2.box.length n2)) ∧ (W.cell? ⟨d9.heap.size, 0, none⟩ = some (.int .i64 y2.n) ∧ W.cell? ⟨d9.heap.size, 1, none⟩ = some (.int .i64 y2.mail.id) ∧ W.cell? ⟨d9.heap.size, 2, none⟩ = some (.string (S y2.mail.chan)) ∧ W.cell? ⟨d9.heap.size, 3, none⟩ = some (.slice k3 y2.mail.key.length l3) ∧ W.cell? ⟨d9.heap.size, 4, none⟩ = some (.slice f3 y2.mail.fields.length h3) ∧ W.cell? ⟨d9.heap.size, 5, none⟩ = some (.int .i64 y2.reason)) from
            ⟨HKEEP.out W (K0.out.step k), ⟨cell_of_row W v9.heap.size 0 _ _ (0, 0) (((KVD.out.step k).block _ (lt_of_heapV Z1.out)).trans Z1.out), cell_of_row W v9.heap.size 1 _ _ (0, 0) (((KVD.out.step k).block _ (lt_of_heapV Z1.out)).trans Z1.out), cell_of_row W v9.heap.size 2 _ _ (0, 0) (((KVD.out.step k).block _ (lt_of_heapV Z1.out)).trans Z1.out), cell_of_row W v9.heap.size 3 _ _ (0, 0) (((KVD.out.step k).block _ (lt_of_heapV Z1.out)).trans Z1.out)⟩, ⟨cell_of_row W i9.heap.size 0 _ _ (0, 0) (((KI.out.step k).block _ (lt_of_heapV Z2.out)).trans Z2.out), cell_of_row W i9.heap.size 1 _ _ (0, 0) (((KI.out.step k).block _ (lt_of_heapV Z2.out)).trans Z2.out), cell_of_row W i9.heap.size 2 _ _ (0, 0) (((KI.out.step k).block _ (lt_of_heapV Z2.out)).trans Z2.out), cell_of_row W i9.heap.size 3 _ _ (0, 0) (((KI.out.step k).block _ (lt_of_heapV Z2.out)).trans Z2.out), cell_of_row W i9.heap.size 4 _ _ (0, 0) (((KI.out.step k).block _ (lt_of_heapV Z2.out)).trans Z2.out), cell_of_row W i9.heap.size 5 _ _ (0, 0) (((KI.out.step k).block _ (lt_of_heapV Z2.out)).trans Z2.out), cell_of_row W i9.heap.size 6 _ _ (0, 0) (((KI.out.step k).block _ (lt_of_heapV Z2.out)).trans Z2.out)⟩, ⟨cell_of_row W d9.heap.size 0 _ _ (0, 0) ((k.block _ (lt_of_heapV Z3.out)).trans Z3.out), cell_of_row W d9.heap.size 1 _ _ (0, 0) ((k.block _ (lt_of_heapV Z3.out)).trans Z3.out), cell_of_row W d9.heap.size 2 _ _ (0, 0) ((k.block _ (lt_of_heapV Z3.out)).trans Z3.out), cell_of_row W d9.heap.size 3 _ _ (0, 0) ((k.block _ (lt_of_heapV Z3.out)).trans Z3.out), cell_of_row W d9.heap.size 4 _ _ (0, 0) ((k.block _ (lt_of_heapV Z3.out)).trans Z3.out), cell_of_row W d9.heap.size 5 _ _ (0, 0) ((k.block _ (lt_of_heapV Z3.out)).trans Z3.out)⟩⟩)
          have R0 := Lib.hid (Good.refl D9)
          have HAD := Lib.hid (fun W (k : Good D9 W) => good_call (R := fun e => e = .returned (.bool true)) k (awake_any W))
          refine (HAD.out _ R0.out).mono ?_
          rintro e r1 ⟨rfl, b9⟩
          have R1 := Lib.hid b9
          clear b9
          clear p0 p1 p2 p3 q0 q1 q2 q3 q4 q5 q6 s0 s1 s2 s3 s4 s5
          rcases F1.out with ⟨rfl, rfl, rfl⟩ | rfl
          · skip
            rcases F2.out with ⟨rfl, rfl, rfl⟩ | rfl
            · skip
              rcases F3.out with ⟨rfl, rfl, rfl⟩ | rfl
              · skip
                obtain ⟨⟨⟨p0, p1, p2, p3⟩, ⟨q0, q1, q2, q3, q4, q5, q6⟩, ⟨s0, s1, s2, s3, s4, s5⟩⟩, ⟨x0, x1, x2, x3⟩, ⟨y0, y1, y2, y3, y4, y5, y6⟩, ⟨z0, z1, z2, z3, z4, z5⟩⟩ := HKP.out _ R1.out
                go_wp2_with fail
                refine (HSV.out D9 _ R1.out (K0.out.step R1.out) nq nc (N1.out.below (KVD.out.step R1.out))).mono ?_
                rintro e r2 ⟨rfl, b9⟩
                have R2 := Lib.hid b9
                clear b9
                clear p0 p1 p2 p3 q0 q1 q2 q3 q4 q5 q6 s0 s1 s2 s3 s4 s5 x0 x1 x2 x3 y0 y1 y2 y3 y4 y5 y6 z0 z1 z2 z3 z4 z5
                obtain ⟨⟨⟨p0, p1, p2, p3⟩, ⟨q0, q1, q2, q3, q4, q5, q6⟩, ⟨s0, s1, s2, s3, s4, s5⟩⟩, ⟨x0, x1, x2, x3⟩, ⟨y0, y1, y2, y3, y4, y5, y6⟩, ⟨z0, z1, z2, z3, z4, z5⟩⟩ := HKP.out _ R2.out
                go_wp2_with fail
                refine (HSI.out D9 _ R2.out (K0.out.step R2.out) a2 c2 b2 d2 m2 n2 (N2.out.below (KI.out.step R2.out)) (N3.out.below (KI.out.step R2.out)) (N4.out.below (KI.out.step R2.out))).mono ?_
                rintro e r3 ⟨rfl, b9⟩
                have R3 := Lib.hid b9
                clear b9
                clear p0 p1 p2 p3 q0 q1 q2 q3 q4 q5 q6 s0 s1 s2 s3 s4 s5 x0 x1 x2 x3 y0 y1 y2 y3 y4 y5 y6 z0 z1 z2 z3 z4 z5
                obtain ⟨⟨⟨p0, p1, p2, p3⟩, ⟨q0, q1, q2, q3, q4, q5, q6⟩, ⟨s0, s1, s2, s3, s4, s5⟩⟩, ⟨x0, x1, x2, x3⟩, ⟨y0, y1, y2, y3, y4, y5, y6⟩, ⟨z0, z1, z2, z3, z4, z5⟩⟩ := HKP.out _ R3.out
                go_wp2_with fail
                refine (HSD.out D9 _ R3.out (K0.out.step R3.out) k3 l3 f3 h3 (N5.out.below R3.out) (N6.out.below R3.out)).mono ?_
                rintro e r4 ⟨rfl, b9⟩
                have R4 := Lib.hid b9
                clear b9
                clear p0 p1 p2 p3 q0 q1 q2 q3 q4 q5 q6 s0 s1 s2 s3 s4 s5 x0 x1 x2 x3 y0 y1 y2 y3 y4 y5 y6 z0 z1 z2 z3 z4 z5
                obtain ⟨⟨⟨p0, p1, p2, p3⟩, ⟨q0, q1, q2, q3, q4, q5, q6⟩, ⟨s0, s1, s2, s3, s4, s5⟩⟩, ⟨x0, x1, x2, x3⟩, ⟨y0, y1, y2, y3, y4, y5, y6⟩, ⟨z0, z1, z2, z3, z4, z5⟩⟩ := HKP.out _ R4.out
                go_wp2_with fail
                go_ret
                exact ⟨rfl, HFIN.out _ (K0.out.step R4.out)⟩
              · skip
                obtain ⟨⟨⟨p0, p1, p2, p3⟩, ⟨q0, q1, q2, q3, q4, q5, q6⟩, ⟨s0, s1, s2, s3, s4, s5⟩⟩, ⟨x0, x1, x2, x3⟩, ⟨y0, y1, y2, y3, y4, y5, y6⟩, ⟨z0, z1, z2, z3, z4, z5⟩⟩ := HKP.out _ R1.out
                go_wp2_with fail
                refine (HSV.out D9 _ R1.out (K0.out.step R1.out) nq nc (N1.out.below (KVD.out.step R1.out))).mono ?_
                rintro e r2 ⟨rfl, b9⟩
                have R2 := Lib.hid b9
                clear b9
                clear p0 p1 p2 p3 q0 q1 q2 q3 q4 q5 q6 s0 s1 s2 s3 s4 s5 x0 x1 x2 x3 y0 y1 y2 y3 y4 y5 y6 z0 z1 z2 z3 z4 z5
                obtain ⟨⟨⟨p0, p1, p2, p3⟩, ⟨q0, q1, q2, q3, q4, q5, q6⟩, ⟨s0, s1, s2, s3, s4, s5⟩⟩, ⟨x0, x1, x2, x3⟩, ⟨y0, y1, y2, y3, y4, y5, y6⟩, ⟨z0, z1, z2, z3, z4, z5⟩⟩ := HKP.out _ R2.out
                go_wp2_with fail
                refine (HSI.out D9 _ R2.out (K0.out.step R2.out) a2 c2 b2 d2 m2 n2 (N2.out.below (KI.out.step R2.out)) (N3.out.below (KI.out.step R2.out)) (N4.out.below (KI.out.step R2.out))).mono ?_
                rintro e r3 ⟨rfl, b9⟩
                have R3 := Lib.hid b9
                clear b9
                clear p0 p1 p2 p3 q0 q1 q2 q3 q4 q5 q6 s0 s1 s2 s3 s4 s5 x0 x1 x2 x3 y0 y1 y2 y3 y4 y5 y6 z0 z1 z2 z3 z4 z5
                obtain ⟨⟨⟨p0, p1, p2, p3⟩, ⟨q0, q1, q2, q3, q4, q5, q6⟩, ⟨s0, s1, s2, s3, s4, s5⟩⟩, ⟨x0, x1, x2, x3⟩, ⟨y0, y1, y2, y3, y4, y5, y6⟩, ⟨z0, z1, z2, z3, z4, z5⟩⟩ := HKP.out _ R3.out
                go_wp2_with fail
                go_ret
                exact ⟨rfl, HFIN.out _ (K0.out.step R3.out)⟩
            · skip
              rcases F3.out with ⟨rfl, rfl, rfl⟩ | rfl
              · skip
                obtain ⟨⟨⟨p0, p1, p2, p3⟩, ⟨q0, q1, q2, q3, q4, q5, q6⟩, ⟨s0, s1, s2, s3, s4, s5⟩⟩, ⟨x0, x1, x2, x3⟩, ⟨y0, y1, y2, y3, y4, y5, y6⟩, ⟨z0, z1, z2, z3, z4, z5⟩⟩ := HKP.out _ R1.out
                go_wp2_with fail
                refine (HSV.out D9 _ R1.out (K0.out.step R1.out) nq nc (N1.out.below (KVD.out.step R1.out))).mono ?_
                rintro e r2 ⟨rfl, b9⟩
                have R2 := Lib.hid b9
                clear b9
                clear p0 p1 p2 p3 q0 q1 q2 q3 q4 q5 q6 s0 s1 s2 s3 s4 s5 x0 x1 x2 x3 y0 y1 y2 y3 y4 y5 y6 z0 z1 z2 z3 z4 z5
                obtain ⟨⟨⟨p0, p1, p2, p3⟩, ⟨q0, q1, q2, q3, q4, q5, q6⟩, ⟨s0, s1, s2, s3, s4, s5⟩⟩, ⟨x0, x1, x2, x3⟩, ⟨y0, y1, y2, y3, y4, y5, y6⟩, ⟨z0, z1, z2, z3, z4, z5⟩⟩ := HKP.out _ R2.out
                go_wp2_with fail
                refine (HSD.out D9 _ R2.out (K0.out.step R2.out) k3 l3 f3 h3 (N5.out.below R2.out) (N6.out.below R2.out)).mono ?_
                rintro e r3 ⟨rfl, b9⟩
                have R3 := Lib.hid b9
                clear b9
                clear p0 p1 p2 p3 q0 q1 q2 q3 q4 q5 q6 s0 s1 s2 s3 s4 s5 x0 x1 x2 x3 y0 y1 y2 y3 y4 y5 y6 z0 z1 z2 z3 z4 z5
                obtain ⟨⟨⟨p0, p1, p2, p3⟩, ⟨q0, q1, q2, q3, q4, q5, q6⟩, ⟨s0, s1, s2, s3, s4, s5⟩⟩, ⟨x0, x1, x2, x3⟩, ⟨y0, y1, y2, y3, y4, y5, y6⟩, ⟨z0, z1, z2, z3, z4, z5⟩⟩ := HKP.out _ R3.out
                go_wp2_with fail
                go_ret
                exact ⟨rfl, HFIN.out _ (K0.out.step R3.out)⟩
              · skip
                obtain ⟨⟨⟨p0, p1, p2, p3⟩, ⟨q0, q1, q2, q3, q4, q5, q6⟩, ⟨s0, s1, s2, s3, s4, s5⟩⟩, ⟨x0, x1, x2, x3⟩, ⟨y0, y1, y2, y3, y4, y5, y6⟩, ⟨z0, z1, z2, z3, z4, z5⟩⟩ := HKP.out _ R1.out
                go_wp2_with fail
                refine (HSV.out D9 _ R1.out (K0.out.step R1.out) nq nc (N1.out.below (KVD.out.step R1.out))).mono ?_
                rintro e r2 ⟨rfl, b9⟩
                have R2 := Lib.hid b9
                clear b9
                clear p0 p1 p2 p3 q0 q1 q2 q3 q4 q5 q6 s0 s1 s2 s3 s4 s5 x0 x1 x2 x3 y0 y1 y2 y3 y4 y5 y6 z0 z1 z2 z3 z4 z5
                obtain ⟨⟨⟨p0, p1, p2, p3⟩, ⟨q0, q1, q2, q3, q4, q5, q6⟩, ⟨s0, s1, s2, s3, s4, s5⟩⟩, ⟨x0, x1, x2, x3⟩, ⟨y0, y1, y2, y3, y4, y5, y6⟩, ⟨z0, z1, z2, z3, z4, z5⟩⟩ := HKP.out _ R2.out
                go_wp2_with fail
                go_ret
                exact ⟨rfl, HFIN.out _ (K0.out.step R2.out)⟩
          · skip
            rcases F2.out with ⟨rfl, rfl, rfl⟩ | rfl
            · skip
              rcases F3.out with ⟨rfl, rfl, rfl⟩ | rfl
              · skip
                obtain ⟨⟨⟨p0, p1, p2, p3⟩, ⟨q0, q1, q2, q3, q4, q5, q6⟩, ⟨s0, s1, s2, s3, s4, s5⟩⟩, ⟨x0, x1, x2, x3⟩, ⟨y0, y1, y2, y3, y4, y5, y6⟩, ⟨z0, z1, z2, z3, z4, z5⟩⟩ := HKP.out _ R1.out
                go_wp2_with fail
                refine (HSI.out D9 _ R1.out (K0.out.step R1.out) a2 c2 b2 d2 m2 n2 (N2.out.below (KI.out.step R1.out)) (N3.out.below (KI.out.step R1.out)) (N4.out.below (KI.out.step R1.out))).mono ?_
                rintro e r2 ⟨rfl, b9⟩
                have R2 := Lib.hid b9
                clear b9
                clear p0 p1 p2 p3 q0 q1 q2 q3 q4 q5 q6 s0 s1 s2 s3 s4 s5 x0 x1 x2 x3 y0 y1 y2 y3 y4 y5 y6 z0 z1 z2 z3 z4 z5
                obtain ⟨⟨⟨p0, p1, p2, p3⟩, ⟨q0, q1, q2, q3, q4, q5, q6⟩, ⟨s0, s1, s2, s3, s4, s5⟩⟩, ⟨x0, x1, x2, x3⟩, ⟨y0, y1, y2, y3, y4, y5, y6⟩, ⟨z0, z1, z2, z3, z4, z5⟩⟩ := HKP.out _ R2.out
                go_wp2_with fail
                refine (HSD.out D9 _ R2.out (K0.out.step R2.out) k3 l3 f3 h3 (N5.out.below R2.out) (N6.out.below R2.out)).mono ?_
                rintro e r3 ⟨rfl, b9⟩
                have R3 := Lib.hid b9
                clear b9
                clear p0 p1 p2 p3 q0 q1 q2 q3 q4 q5 q6 s0 s1 s2 s3 s4 s5 x0 x1 x2 x3 y0 y1 y2 y3 y4 y5 y6 z0 z1 z2 z3 z4 z5
                obtain ⟨⟨⟨p0, p1, p2, p3⟩, ⟨q0, q1, q2, q3, q4, q5, q6⟩, ⟨s0, s1, s2, s3, s4, s5⟩⟩, ⟨x0, x1, x2, x3⟩, ⟨y0, y1, y2, y3, y4, y5, y6⟩, ⟨z0, z1, z2, z3, z4, z5⟩⟩ := HKP.out _ R3.out
                go_wp2_with fail
                go_ret
                exact ⟨rfl, HFIN.out _ (K0.out.step R3.out)⟩
              · skip
                obtain ⟨⟨⟨p0, p1, p2, p3⟩, ⟨q0, q1, q2, q3, q4, q5, q6⟩, ⟨s0, s1, s2, s3, s4, s5⟩⟩, ⟨x0, x1, x2, x3⟩, ⟨y0, y1, y2, y3, y4, y5, y6⟩, ⟨z0, z1, z2, z3, z4, z5⟩⟩ := HKP.out _ R1.out
                go_wp2_with fail
                refine (HSI.out D9 _ R1.out (K0.out.step R1.out) a2 c2 b2 d2 m2 n2 (N2.out.below (KI.out.step R1.out)) (N3.out.below (KI.out.step R1.out)) (N4.out.below (KI.out.step R1.out))).mono ?_
                rintro e r2 ⟨rfl, b9⟩
                have R2 := Lib.hid b9
                clear b9
                clear p0 p1 p2 p3 q0 q1 q2 q3 q4 q5 q6 s0 s1 s2 s3 s4 s5 x0 x1 x2 x3 y0 y1 y2 y3 y4 y5 y6 z0 z1 z2 z3 z4 z5
                obtain ⟨⟨⟨p0, p1, p2, p3⟩, ⟨q0, q1, q2, q3, q4, q5, q6⟩, ⟨s0, s1, s2, s3, s4, s5⟩⟩, ⟨x0, x1, x2, x3⟩, ⟨y0, y1, y2, y3, y4, y5, y6⟩, ⟨z0, z1, z2, z3, z4, z5⟩⟩ := HKP.out _ R2.out
                go_wp2_with fail
                go_ret
                exact ⟨rfl, HFIN.out _ (K0.out.step R2.out)⟩
            · skip
              rcases F3.out with ⟨rfl, rfl, rfl⟩ | rfl
              · skip
                obtain ⟨⟨⟨p0, p1, p2, p3⟩, ⟨q0, q1, q2, q3, q4, q5, q6⟩, ⟨s0, s1, s2, s3, s4, s5⟩⟩, ⟨x0, x1, x2, x3⟩, ⟨y0, y1, y2, y3, y4, y5, y6⟩, ⟨z0, z1, z2, z3, z4, z5⟩⟩ := HKP.out _ R1.out
                go_wp2_with fail
                refine (HSD.out D9 _ R1.out (K0.out.step R1.out) k3 l3 f3 h3 (N5.out.below R1.out) (N6.out.below R1.out)).mono ?_
                rintro e r2 ⟨rfl, b9⟩
                have R2 := Lib.hid b9
                clear b9
                clear p0 p1 p2 p3 q0 q1 q2 q3 q4 q5 q6 s0 s1 s2 s3 s4 s5 x0 x1 x2 x3 y0 y1 y2 y3 y4 y5 y6 z0 z1 z2 z3 z4 z5
                obtain ⟨⟨⟨p0, p1, p2, p3⟩, ⟨q0, q1, q2, q3, q4, q5, q6⟩, ⟨s0, s1, s2, s3, s4, s5⟩⟩, ⟨x0, x1, x2, x3⟩, ⟨y0, y1, y2, y3, y4, y5, y6⟩, ⟨z0, z1, z2, z3, z4, z5⟩⟩ := HKP.out _ R2.out
                go_wp2_with fail
                go_ret
                exact ⟨rfl, HFIN.out _ (K0.out.step R2.out)⟩
              · skip
                obtain ⟨⟨⟨p0, p1, p2, p3⟩, ⟨q0, q1, q2, q3, q4, q5, q6⟩, ⟨s0, s1, s2, s3, s4, s5⟩⟩, ⟨x0, x1, x2, x3⟩, ⟨y0, y1, y2, y3, y4, y5, y6⟩, ⟨z0, z1, z2, z3, z4, z5⟩⟩ := HKP.out _ R1.out
                go_wp2_with fail
                go_ret
                exact ⟨rfl, HFIN.out _ (K0.out.step R1.out)⟩
        · have hc40i : (40 : Int) < (x.counts.length : Int) := by omega
          clear hb e0 e1 e2 hVA hAT hCT hBT hKA hFA hva hat hct hbt hka hfa hv hi hm hyn hyr hW0 hk40 hf40 hb200 hbm
          go_enter Try.func5, Try.ntmps5
          go_wp2_with fail
          rw [← HW0.out]
          refine (HAW.out _ HG0.out).mono ?_
          rintro e w1 ⟨rfl, b1⟩
          have HG1 := Lib.hid b1
          obtain ⟨⟨p0, p1, p2, p3⟩, ⟨q0, q1, q2, q3, q4, q5, q6⟩, ⟨s0, s1, s2, s3, s4, s5⟩⟩ := HKEEP.out _ HG1.out
          clear b1
          go_wp2_with fail
          refine (HFEW.out _ HG1.out).mono ?_
          rintro e w2 ⟨rfl, b2⟩
          have HG2 := Lib.hid b2
          obtain ⟨⟨p0, p1, p2, p3⟩, ⟨q0, q1, q2, q3, q4, q5, q6⟩, ⟨s0, s1, s2, s3, s4, s5⟩⟩ := HKEEP.out _ HG2.out
          clear b2
          go_wp2_with fail
          refine (HFWB.out _ HG2.out).mono ?_
          rintro e w3 ⟨rfl, b3⟩
          have HG3 := Lib.hid b3
          obtain ⟨⟨p0, p1, p2, p3⟩, ⟨q0, q1, q2, q3, q4, q5, q6⟩, ⟨s0, s1, s2, s3, s4, s5⟩⟩ := HKEEP.out _ HG3.out
          clear b3
          go_wp2_with fail
          refine (HAW.out _ HG3.out).mono ?_
          rintro e w4 ⟨rfl, b4⟩
          have HG4 := Lib.hid b4
          clear b4
          go_wp2_with fail
          go_ret
          exact ⟨rfl, HFIN.out _ HG4.out⟩
      · have ha40i : (40 : Int) < (x.attrs.length : Int) := by omega
        clear hb e0 e1 e2 hVA hAT hCT hBT hKA hFA hva hat hct hbt hka hfa hv hi hm hyn hyr hW0 hk40 hf40 hb200 hbm
        go_enter Try.func5, Try.ntmps5
        go_wp2_with fail
        rw [← HW0.out]
        refine (HAW.out _ HG0.out).mono ?_
        rintro e w1 ⟨rfl, b1⟩
        have HG1 := Lib.hid b1
        obtain ⟨⟨p0, p1, p2, p3⟩, ⟨q0, q1, q2, q3, q4, q5, q6⟩, ⟨s0, s1, s2, s3, s4, s5⟩⟩ := HKEEP.out _ HG1.out
        clear b1
        go_wp2_with fail
        refine (HFEW.out _ HG1.out).mono ?_
        rintro e w2 ⟨rfl, b2⟩
        have HG2 := Lib.hid b2
        obtain ⟨⟨p0, p1, p2, p3⟩, ⟨q0, q1, q2, q3, q4, q5, q6⟩, ⟨s0, s1, s2, s3, s4, s5⟩⟩ := HKEEP.out _ HG2.out
        clear b2
        go_wp2_with fail
        refine (HFWB.out _ HG2.out).mono ?_
        rintro e w3 ⟨rfl, b3⟩
        have HG3 := Lib.hid b3
        obtain ⟨⟨p0, p1, p2, p3⟩, ⟨q0, q1, q2, q3, q4, q5, q6⟩, ⟨s0, s1, s2, s3, s4, s5⟩⟩ := HKEEP.out _ HG3.out
        clear b3
        go_wp2_with fail
        refine (HAW.out _ HG3.out).mono ?_
        rintro e w4 ⟨rfl, b4⟩
        have HG4 := Lib.hid b4
        clear b4
        go_wp2_with fail
        go_ret
        exact ⟨rfl, HFIN.out _ HG4.out⟩
    · have hfb2 : fewB x.box = false := by simpa using hfb
      rw [hfb2] at HFWB
      clear hb e0 e1 e2 hVA hAT hCT hBT hKA hFA hva hat hct hbt hka hfa hv hi hm hyn hyr hW0 hk40 hf40 hfew hfb hfb2
      go_enter Try.func5, Try.ntmps5
      go_wp2_with fail
      rw [← HW0.out]
      refine (HAW.out _ HG0.out).mono ?_
      rintro e w1 ⟨rfl, b1⟩
      have HG1 := Lib.hid b1
      obtain ⟨⟨p0, p1, p2, p3⟩, ⟨q0, q1, q2, q3, q4, q5, q6⟩, ⟨s0, s1, s2, s3, s4, s5⟩⟩ := HKEEP.out _ HG1.out
      clear b1
      go_wp2_with fail
      refine (HFEW.out _ HG1.out).mono ?_
      rintro e w2 ⟨rfl, b2⟩
      have HG2 := Lib.hid b2
      obtain ⟨⟨p0, p1, p2, p3⟩, ⟨q0, q1, q2, q3, q4, q5, q6⟩, ⟨s0, s1, s2, s3, s4, s5⟩⟩ := HKEEP.out _ HG2.out
      clear b2
      go_wp2_with fail
      refine (HFWB.out _ HG2.out).mono ?_
      rintro e w3 ⟨rfl, b3⟩
      have HG3 := Lib.hid b3
      obtain ⟨⟨p0, p1, p2, p3⟩, ⟨q0, q1, q2, q3, q4, q5, q6⟩, ⟨s0, s1, s2, s3, s4, s5⟩⟩ := HKEEP.out _ HG3.out
      clear b3
      go_wp2_with fail
      refine (HAW.out _ HG3.out).mono ?_
      rintro e w4 ⟨rfl, b4⟩
      have HG4 := Lib.hid b4
      clear b4
      go_wp2_with fail
      go_ret
      exact ⟨rfl, HFIN.out _ HG4.out⟩
  · have hf2 : fewB [y.mail] = false := by simpa using hfew
    rw [hf2] at HFEW
    clear hb e0 e1 e2 hVA hAT hCT hBT hKA hFA hva hat hct hbt hka hfa hv hi hm hyn hyr hW0 hfew hf2
    go_enter Try.func5, Try.ntmps5
    go_wp2_with fail
    rw [← HW0.out]
    refine (HAW.out _ HG0.out).mono ?_
    rintro e w1 ⟨rfl, b1⟩
    have HG1 := Lib.hid b1
    obtain ⟨⟨p0, p1, p2, p3⟩, ⟨q0, q1, q2, q3, q4, q5, q6⟩, ⟨s0, s1, s2, s3, s4, s5⟩⟩ := HKEEP.out _ HG1.out
    clear b1
    go_wp2_with fail
    refine (HFEW.out _ HG1.out).mono ?_
    rintro e w2 ⟨rfl, b2⟩
    have HG2 := Lib.hid b2
    obtain ⟨⟨p0, p1, p2, p3⟩, ⟨q0, q1, q2, q3, q4, q5, q6⟩, ⟨s0, s1, s2, s3, s4, s5⟩⟩ := HKEEP.out _ HG2.out
    clear b2
    go_wp2_with fail
    refine (HAW.out _ HG2.out).mono ?_
    rintro e w3 ⟨rfl, b3⟩
    have HG3 := Lib.hid b3
    clear b3
    go_wp2_with fail
    go_ret
    exact ⟨rfl, HFIN.out _ HG3.out⟩

end Go.Proofs.Ytkdhchdhgmaolaa.Cd
