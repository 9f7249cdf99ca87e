/-
  CodeApart, walked.
-/
import Derived.Test.YtgfgafpaokefhaaZCdSame
import Derived.Test.YtgfgafpaokefhaaZCdAhead
namespace Go.Proofs.Ytgfgafpaokefhaa.Cd
open Go.RowKit
open Pk Va
set_option linter.unusedVariables false
set_option linter.unusedSimpArgs false

/-- What may come of two things that are kept: their bytes, their errors, whether they are the same. -/
def Ways (A1 : ByteArray) (E1 : Int) (A2 : ByteArray) (E2 : Int) (sm : Bool) : Prop :=
  (E1 = 4) ∨ (E1 = 0 ∧ E2 = 4) ∨ (E1 = 0 ∧ E2 = 0 ∧ sm = true ∧ (A1.toList == A2.toList) = true) ∨
  (E1 = 0 ∧ E2 = 0 ∧ sm = false ∧ (A1.toList == A2.toList) = false ∧ ∀ W, Calls Try.prog 48 #[.string A1, .string A2] W fun e w' => e = .returned (.bool false) ∧ Below W.heap.size W w')
theorem ways_of {α : Type} (f : α → List UInt8) (ok : α → Bool) (same : α → α → Bool) (x y : α) (hs : same x y = true ↔ x = y) (hcut : ok x = true → ok y = true → ∀ r s, f x ++ r = f y ++ s → x = y ∧ r = s) (lx : (f x).length ≤ 4000000000000000000) (ly : (f y).length ≤ 4000000000000000000) :
    Ways (S (if ok x = true then f x else [])) (if ok x = true then (0 : Int) else 4) (S (if ok y = true then f y else [])) (if ok y = true then (0 : Int) else 4) (same x y) := by
  unfold Ways
  cases hx : ok x with
  | false => exact .inl (by simp)
  | true =>
    cases hy : ok y with
    | false => exact .inr (.inl ⟨by simp, by simp⟩)
    | true =>
      simp only [if_true]
      cases h : same x y with
      | true =>
        have := hs.1 h
        subst this
        exact .inr (.inr (.inl ⟨by simp, by simp, by simp, by rw [Va.S_beq]; simp⟩))
      | false =>
        have hne : f x ≠ f y := fun e => by
          have := (hcut hx hy [] [] (by rw [e])).1
          rw [hs.2 this] at h
          cases h
        refine .inr (.inr (.inr ⟨by simp, by simp, by simp, by rw [Va.S_beq]; simpa using hne, fun W => ?_⟩))
        have h2 := ahead_any (f x) (f y) lx ly W
        rw [ahead_no (hcut hx hy) hne] at h2
        exact h2
theorem fewB_keys {m : MailP} (h : fewB [m] = true) : m.key.length ≤ 40 ∧ m.fields.length ≤ 40 := (fewB_at h (List.mem_singleton.2 rfl)).2

set_option maxRecDepth 100000 in
set_option maxHeartbeats 16000000 in
theorem CodeApart_door (v : V) (va : Option Addr) (vk : Nat) (u : V) (ua : Option Addr) (uk : Nat) (x : MailP) (ka : Option Addr) (kc : Nat) (fa : Option Addr) (fc : Nat) (y : MailP) (la : Option Addr) (lc : Nat) (ga : Option Addr) (gc : Nat) (w : World)
    (hv : VBig v) (hva : NumsAt w va v.list) (hu : VBig u) (hua : NumsAt w ua u.list) (hx : MBig x) (hka : ValsAt w ka x.key) (hfa : ValsAt w fa x.fields) (hy : MBig y) (hla : ValsAt w la y.key) (hga : ValsAt w ga y.fields) :
    Calls Try.prog 9 #[.agg #[.int .i64 v.kind, .int .i64 v.num, .string (S v.text), .slice va v.list.length vk], .agg #[.int .i64 u.kind, .int .i64 u.num, .string (S u.text), .slice ua u.list.length uk], .agg #[.int .i64 x.id, .string (S x.chan), .slice ka x.key.length kc, .slice fa x.fields.length fc], .agg #[.int .i64 y.id, .string (S y.chan), .slice la y.key.length lc, .slice ga y.fields.length gc]] w fun e w' => e = .returned (.bool true) ∧ Below w.heap.size w w' := by
  obtain ⟨W0, hW0⟩ : ∃ W0, W0 = ((((w.alloc (.cells #[.int .i64 v.kind, .int .i64 v.num, .string (S v.text), .slice va v.list.length vk] 24)).alloc (.cells #[.int .i64 u.kind, .int .i64 u.num, .string (S u.text), .slice ua u.list.length uk] 24)).alloc (.cells #[.int .i64 x.id, .string (S x.chan), .slice ka x.key.length kc, .slice fa x.fields.length fc] 27)).alloc (.cells #[.int .i64 y.id, .string (S y.chan), .slice la y.key.length lc, .slice ga y.fields.length gc] 27)) := ⟨_, rfl⟩
  have z1 : (w.alloc (.cells #[.int .i64 v.kind, .int .i64 v.num, .string (S v.text), .slice va v.list.length vk] 24)).heap.size = w.heap.size + 1 := by simp
  have z2 : ((w.alloc (.cells #[.int .i64 v.kind, .int .i64 v.num, .string (S v.text), .slice va v.list.length vk] 24)).alloc (.cells #[.int .i64 u.kind, .int .i64 u.num, .string (S u.text), .slice ua u.list.length uk] 24)).heap.size = w.heap.size + 1 + 1 := by simp
  have z3 : (((w.alloc (.cells #[.int .i64 v.kind, .int .i64 v.num, .string (S v.text), .slice va v.list.length vk] 24)).alloc (.cells #[.int .i64 u.kind, .int .i64 u.num, .string (S u.text), .slice ua u.list.length uk] 24)).alloc (.cells #[.int .i64 x.id, .string (S x.chan), .slice ka x.key.length kc, .slice fa x.fields.length fc] 27)).heap.size = w.heap.size + 1 + 1 + 1 := by simp
  have b1 : Below w.heap.size w (w.alloc (.cells #[.int .i64 v.kind, .int .i64 v.num, .string (S v.text), .slice va v.list.length vk] 24)) := (Below.refl w.heap.size w).alloc (Nat.le_refl _) _
  have b2 : Below w.heap.size w ((w.alloc (.cells #[.int .i64 v.kind, .int .i64 v.num, .string (S v.text), .slice va v.list.length vk] 24)).alloc (.cells #[.int .i64 u.kind, .int .i64 u.num, .string (S u.text), .slice ua u.list.length uk] 24)) := b1.alloc (by omega) _
  have b3 : Below w.heap.size w (((w.alloc (.cells #[.int .i64 v.kind, .int .i64 v.num, .string (S v.text), .slice va v.list.length vk] 24)).alloc (.cells #[.int .i64 u.kind, .int .i64 u.num, .string (S u.text), .slice ua u.list.length uk] 24)).alloc (.cells #[.int .i64 x.id, .string (S x.chan), .slice ka x.key.length kc, .slice fa x.fields.length fc] 27)) := b2.alloc (by omega) _
  have hb : Below w.heap.size w W0 := by rw [hW0]; exact b3.alloc (by omega) _
  have e0 : W0.heap[w.heap.size]? = some (.cells #[.int .i64 v.kind, .int .i64 v.num, .string (S v.text), .slice va v.list.length vk] 24 (0, 0)) := by rw [hW0, Below.heap_alloc _ _ _ (by omega), Below.heap_alloc _ _ _ (by omega), Below.heap_alloc _ _ _ (by omega)]; exact heap_alloc_new w _
  have e1 : W0.heap[w.heap.size + 1]? = some (.cells #[.int .i64 u.kind, .int .i64 u.num, .string (S u.text), .slice ua u.list.length uk] 24 (0, 0)) := by rw [hW0, Below.heap_alloc _ _ _ (by omega), Below.heap_alloc _ _ _ (by omega), ← z1]; exact heap_alloc_new _ _
  have e2 : W0.heap[w.heap.size + 1 + 1]? = some (.cells #[.int .i64 x.id, .string (S x.chan), .slice ka x.key.length kc, .slice fa x.fields.length fc] 27 (0, 0)) := by rw [hW0, Below.heap_alloc _ _ _ (by omega), ← z2]; exact heap_alloc_new _ _
  have e3 : W0.heap[w.heap.size + 1 + 1 + 1]? = some (.cells #[.int .i64 y.id, .string (S y.chan), .slice la y.key.length lc, .slice ga y.fields.length gc] 27 (0, 0)) := by rw [hW0, ← z3]; exact heap_alloc_new _ _
  have hVA := hva.below hb
  have hUA := hua.below hb
  have hKA := hka.below hb
  have hFA := hfa.below hb
  have hLA := hla.below hb
  have hGA := hga.below hb
  have HKEEP := Lib.hid (fun W (k : Good W0 W) => show (W.cell? ⟨w.heap.size, 0, none⟩ = some (.int .i64 v.kind) ∧ W.cell? ⟨w.heap.size, 1, none⟩ = some (.int .i64 v.num) ∧ W.cell? ⟨w.heap.size, 2, none⟩ = some (.string (S v.text)) ∧ W.cell? ⟨w.heap.size, 3, none⟩ = some (.slice va v.list.length vk)) ∧ (W.cell? ⟨w.heap.size + 1, 0, none⟩ = some (.int .i64 u.kind) ∧ W.cell? ⟨w.heap.size + 1, 1, none⟩ = some (.int .i64 u.num) ∧ W.cell? ⟨w.heap.size + 1, 2, none⟩ = some (.string (S u.text)) ∧ W.cell? ⟨w.heap.size + 1, 3, none⟩ = some (.slice ua u.list.length uk)) ∧ (W.cell? ⟨w.heap.size + 1 + 1, 0, none⟩ = some (.int .i64 x.id) ∧ W.cell? ⟨w.heap.size + 1 + 1, 1, none⟩ = some (.string (S x.chan)) ∧ W.cell? ⟨w.heap.size + 1 + 1, 2, none⟩ = some (.slice ka x.key.length kc) ∧ W.cell? ⟨w.heap.size + 1 + 1, 3, none⟩ = some (.slice fa x.fields.length fc)) ∧ (W.cell? ⟨w.heap.size + 1 + 1 + 1, 0, none⟩ = some (.int .i64 y.id) ∧ W.cell? ⟨w.heap.size + 1 + 1 + 1, 1, none⟩ = some (.string (S y.chan)) ∧ W.cell? ⟨w.heap.size + 1 + 1 + 1, 2, none⟩ = some (.slice la y.key.length lc) ∧ W.cell? ⟨w.heap.size + 1 + 1 + 1, 3, none⟩ = some (.slice ga y.fields.length gc)) from
    ⟨⟨cell_of_row W (w.heap.size) 0 _ _ (0, 0) ((k.block (w.heap.size) (lt_of_heapV e0)).trans e0), cell_of_row W (w.heap.size) 1 _ _ (0, 0) ((k.block (w.heap.size) (lt_of_heapV e0)).trans e0), cell_of_row W (w.heap.size) 2 _ _ (0, 0) ((k.block (w.heap.size) (lt_of_heapV e0)).trans e0), cell_of_row W (w.heap.size) 3 _ _ (0, 0) ((k.block (w.heap.size) (lt_of_heapV e0)).trans e0)⟩, ⟨cell_of_row W (w.heap.size + 1) 0 _ _ (0, 0) ((k.block (w.heap.size + 1) (lt_of_heapV e1)).trans e1), cell_of_row W (w.heap.size + 1) 1 _ _ (0, 0) ((k.block (w.heap.size + 1) (lt_of_heapV e1)).trans e1), cell_of_row W (w.heap.size + 1) 2 _ _ (0, 0) ((k.block (w.heap.size + 1) (lt_of_heapV e1)).trans e1), cell_of_row W (w.heap.size + 1) 3 _ _ (0, 0) ((k.block (w.heap.size + 1) (lt_of_heapV e1)).trans e1)⟩, ⟨cell_of_row W (w.heap.size + 1 + 1) 0 _ _ (0, 0) ((k.block (w.heap.size + 1 + 1) (lt_of_heapV e2)).trans e2), cell_of_row W (w.heap.size + 1 + 1) 1 _ _ (0, 0) ((k.block (w.heap.size + 1 + 1) (lt_of_heapV e2)).trans e2), cell_of_row W (w.heap.size + 1 + 1) 2 _ _ (0, 0) ((k.block (w.heap.size + 1 + 1) (lt_of_heapV e2)).trans e2), cell_of_row W (w.heap.size + 1 + 1) 3 _ _ (0, 0) ((k.block (w.heap.size + 1 + 1) (lt_of_heapV e2)).trans e2)⟩, ⟨cell_of_row W (w.heap.size + 1 + 1 + 1) 0 _ _ (0, 0) ((k.block (w.heap.size + 1 + 1 + 1) (lt_of_heapV e3)).trans e3), cell_of_row W (w.heap.size + 1 + 1 + 1) 1 _ _ (0, 0) ((k.block (w.heap.size + 1 + 1 + 1) (lt_of_heapV e3)).trans e3), cell_of_row W (w.heap.size + 1 + 1 + 1) 2 _ _ (0, 0) ((k.block (w.heap.size + 1 + 1 + 1) (lt_of_heapV e3)).trans e3), cell_of_row W (w.heap.size + 1 + 1 + 1) 3 _ _ (0, 0) ((k.block (w.heap.size + 1 + 1 + 1) (lt_of_heapV e3)).trans e3)⟩⟩)
  have HFIN := Lib.hid (fun (wr : World) (h : Good W0 wr) => hb.trans (h.mono hb.size))
  have HAW := Lib.hid (fun W (k : Good W0 W) => good_calls (R := fun e => e = .returned (.bool true)) k (awake_any W))
  have HG0 := Lib.hid (Good.refl W0)
  have HF1 := Lib.hid (fun W (k : Good W0 W) => good_calls (R := fun e => e = .returned (.bool (fewB [x]))) (k.alloc (.cells #[.int .i64 x.id, .string (S x.chan), .slice ka x.key.length kc, .slice fa x.fields.length fc] 27)) (few_any [x] (by simp) (fun m' h => by simp at h; subst h; exact ⟨hx.klen, hx.flen⟩) (some ⟨W.heap.size, 0, none⟩) 1 (W.alloc (.cells #[.int .i64 x.id, .string (S x.chan), .slice ka x.key.length kc, .slice fa x.fields.length fc] 27)) (mails_one W x ka fa kc fc (hKA.below k) (hFA.below k))))
  have HF2 := Lib.hid (fun W (k : Good W0 W) => good_calls (R := fun e => e = .returned (.bool (fewB [y]))) (k.alloc (.cells #[.int .i64 y.id, .string (S y.chan), .slice la y.key.length lc, .slice ga y.fields.length gc] 27)) (few_any [y] (by simp) (fun m' h => by simp at h; subst h; exact ⟨hy.klen, hy.flen⟩) (some ⟨W.heap.size, 0, none⟩) 1 (W.alloc (.cells #[.int .i64 y.id, .string (S y.chan), .slice la y.key.length lc, .slice ga y.fields.length gc] 27)) (mails_one W y la ga lc gc (hLA.below k) (hGA.below k))))
  have HW0 := Lib.hid hW0
  by_cases hf1 : fewB [x] = true
  · rw [hf1] at HF1
    by_cases hf2 : fewB [y] = true
    · rw [hf2] at HF2
      obtain ⟨xk, xf⟩ := fewB_keys hf1
      obtain ⟨yk, yf⟩ := fewB_keys hf2
      have HP1 := Lib.hid (fun W (k : Good W0 W) => good_calls (R := fun e => e = .returned (putR (valB v) (rightB v))) k (PutValue_any v hv.in_ va vk W (hVA.below k)))
      have HP2 := Lib.hid (fun W (k : Good W0 W) => good_calls (R := fun e => e = .returned (putR (valB u) (rightB u))) k (PutValue_any u hu.in_ ua uk W (hUA.below k)))
      have HP3 := Lib.hid (fun W (k : Good W0 W) => good_calls (R := fun e => e = .returned (putR (mailB x) (mailOk x))) k (PutMail_any x hx.in_ ka kc fa fc W (hKA.below k) (hFA.below k)))
      have HP4 := Lib.hid (fun W (k : Good W0 W) => good_calls (R := fun e => e = .returned (putR (mailB y) (mailOk y))) k (PutMail_any y hy.in_ la lc ga gc W (hLA.below k) (hGA.below k)))
      have HS1 := Lib.hid (fun W (k : Good W0 W) => good_calls (R := fun e => e = .returned (.bool (sameV v u))) k (refSame_any v u hv.in_.ok hu.in_.ok va ua vk uk W (hVA.below k) (hUA.below k)))
      unfold valC at HS1
      have HS2 := Lib.hid (fun W (k : Good W0 W) => good_calls (R := fun e => e = .returned (.bool (sameM x y))) k (sameMail_any x y hx hy xk xf ka kc fa fc la lc ga gc W (hKA.below k) (hFA.below k) (hLA.below k) (hGA.below k)))
      have HV := Lib.hid (ways_of valB rightB sameV v u (sameV_iff v u) (fun h1 h2 r s h => valB_cut hv.in_.nums hu.in_.nums hv.in_.num hu.in_.num h1 h2 h) (by have := valB_len v hv; omega) (by have := valB_len u hu; omega))
      have HM := Lib.hid (ways_of mailB mailOk sameM x y (sameM_iff x y) (fun h1 h2 r s h => mailB_cut (fun v hv => (hx.key v hv).in_) (fun v hv => (hx.fields v hv).in_) (fun v hv => (hy.key v hv).in_) (fun v hv => (hy.fields v hv).in_) hx.id hy.id h1 h2 h) (by have := mailB_len x hx xk xf; omega) (by have := mailB_len y hy yk yf; omega))
      unfold putR at HP1 HP2 HP3 HP4
      generalize S (if rightB v = true then valB v else []) = A1 at *
      generalize (if rightB v = true then (0 : Int) else 4) = E1 at *
      generalize S (if rightB u = true then valB u else []) = A2 at *
      generalize (if rightB u = true then (0 : Int) else 4) = E2 at *
      generalize S (if mailOk x = true then mailB x else []) = A3 at *
      generalize (if mailOk x = true then (0 : Int) else 4) = E3 at *
      generalize S (if mailOk y = true then mailB y else []) = A4 at *
      generalize (if mailOk y = true then (0 : Int) else 4) = E4 at *
      generalize sameV v u = s1 at *
      generalize sameM x y = s2 at *
      clear z1 z2 z3 b1 b2 b3 hb e0 e1 e2 e3 hVA hUA hKA hFA hLA hGA hva hua hka hfa hla hga hv hu hx hy hW0 xk xf yk yf hf1 hf2
      go_enter Try.func9, Try.ntmps9
      go_wp2_with fail
      rw [← HW0.out]
      refine (HAW.out _ HG0.out).mono ?_
      rintro e w1 ⟨rfl, b1⟩
      have HG1 := Lib.hid b1
      obtain ⟨⟨p0, p1, p2, p3⟩, ⟨q0, q1, q2, q3⟩, ⟨s0, s1, s2, s3⟩, ⟨t0, t1, t2, t3⟩⟩ := HKEEP.out _ HG1.out
      clear b1
      go_wp2_with fail
      refine (HF1.out _ HG1.out).mono ?_
      rintro e w2 ⟨rfl, b2⟩
      have HG2 := Lib.hid b2
      obtain ⟨⟨p0, p1, p2, p3⟩, ⟨q0, q1, q2, q3⟩, ⟨s0, s1, s2, s3⟩, ⟨t0, t1, t2, t3⟩⟩ := HKEEP.out _ HG2.out
      clear b2
      go_wp2_with fail
      refine (HF2.out _ HG2.out).mono ?_
      rintro e w3 ⟨rfl, b3⟩
      have HG3 := Lib.hid b3
      obtain ⟨⟨p0, p1, p2, p3⟩, ⟨q0, q1, q2, q3⟩, ⟨s0, s1, s2, s3⟩, ⟨t0, t1, t2, t3⟩⟩ := HKEEP.out _ HG3.out
      clear b3
      go_wp2_with fail
      refine (HP1.out _ HG3.out).mono ?_
      rintro e w4 ⟨rfl, b4⟩
      have HG4 := Lib.hid b4
      obtain ⟨⟨p0, p1, p2, p3⟩, ⟨q0, q1, q2, q3⟩, ⟨s0, s1, s2, s3⟩, ⟨t0, t1, t2, t3⟩⟩ := HKEEP.out _ HG4.out
      clear b4
      go_wp2_with fail
      refine (HP2.out _ HG4.out).mono ?_
      rintro e w5 ⟨rfl, b5⟩
      have HG5 := Lib.hid b5
      obtain ⟨⟨p0, p1, p2, p3⟩, ⟨q0, q1, q2, q3⟩, ⟨s0, s1, s2, s3⟩, ⟨t0, t1, t2, t3⟩⟩ := HKEEP.out _ HG5.out
      clear b5
      go_wp2_with fail
      refine (HP3.out _ HG5.out).mono ?_
      rintro e w6 ⟨rfl, b6⟩
      have HG6 := Lib.hid b6
      obtain ⟨⟨p0, p1, p2, p3⟩, ⟨q0, q1, q2, q3⟩, ⟨s0, s1, s2, s3⟩, ⟨t0, t1, t2, t3⟩⟩ := HKEEP.out _ HG6.out
      clear b6
      go_wp2_with fail
      refine (HP4.out _ HG6.out).mono ?_
      rintro e w7 ⟨rfl, b7⟩
      have HG7 := Lib.hid b7
      obtain ⟨⟨p0, p1, p2, p3⟩, ⟨q0, q1, q2, q3⟩, ⟨s0, s1, s2, s3⟩, ⟨t0, t1, t2, t3⟩⟩ := HKEEP.out _ HG7.out
      clear b7
      rcases HV.out with h1 | ⟨h1, h2⟩ | ⟨h1, h2, h3, h4⟩ | ⟨h1, h2, h3, h4, h5⟩
      · subst h1
        go_wp2_with fail
        refine (HAW.out _ HG7.out).mono ?_
        rintro e w8 ⟨rfl, b8⟩
        have HG8 := Lib.hid b8
        obtain ⟨⟨p0, p1, p2, p3⟩, ⟨q0, q1, q2, q3⟩, ⟨s0, s1, s2, s3⟩, ⟨t0, t1, t2, t3⟩⟩ := HKEEP.out _ HG8.out
        clear b8
        rcases HM.out with m1 | ⟨m1, m2⟩ | ⟨m1, m2, m3, m4⟩ | ⟨m1, m2, m3, m4, m5⟩
        · subst m1
          clear HV HM
          go_wp2_with fail
          go_ret
          exact ⟨rfl, HFIN.out _ HG8.out⟩
        · subst m1 m2
          clear HV HM
          go_wp2_with fail
          go_ret
          exact ⟨rfl, HFIN.out _ HG8.out⟩
        · subst m1 m2 m3
          clear HV HM
          go_wp2_with fail
          refine (HS2.out _ HG8.out).mono ?_
          rintro e w9 ⟨rfl, b9⟩
          have HG9 := Lib.hid b9
          obtain ⟨⟨p0, p1, p2, p3⟩, ⟨q0, q1, q2, q3⟩, ⟨s0, s1, s2, s3⟩, ⟨t0, t1, t2, t3⟩⟩ := HKEEP.out _ HG9.out
          clear b9
          go_wp2_with fail
          go_ret
          exact ⟨rfl, HFIN.out _ HG9.out⟩
        · subst m1 m2 m3
          have HA2 := Lib.hid (fun W (k : Good W0 W) => good_calls (R := fun e => e = .returned (.bool false)) k (m5 W))
          clear m5
          clear HV HM
          go_wp2_with fail
          refine (HS2.out _ HG8.out).mono ?_
          rintro e w9 ⟨rfl, b9⟩
          have HG9 := Lib.hid b9
          obtain ⟨⟨p0, p1, p2, p3⟩, ⟨q0, q1, q2, q3⟩, ⟨s0, s1, s2, s3⟩, ⟨t0, t1, t2, t3⟩⟩ := HKEEP.out _ HG9.out
          clear b9
          go_wp2_with fail
          refine (HA2.out _ HG9.out).mono ?_
          rintro e w10 ⟨rfl, b10⟩
          have HG10 := Lib.hid b10
          clear b10
          go_wp2_with fail
          go_ret
          exact ⟨rfl, HFIN.out _ HG10.out⟩
      · subst h1 h2
        go_wp2_with fail
        refine (HAW.out _ HG7.out).mono ?_
        rintro e w8 ⟨rfl, b8⟩
        have HG8 := Lib.hid b8
        obtain ⟨⟨p0, p1, p2, p3⟩, ⟨q0, q1, q2, q3⟩, ⟨s0, s1, s2, s3⟩, ⟨t0, t1, t2, t3⟩⟩ := HKEEP.out _ HG8.out
        clear b8
        rcases HM.out with m1 | ⟨m1, m2⟩ | ⟨m1, m2, m3, m4⟩ | ⟨m1, m2, m3, m4, m5⟩
        · subst m1
          clear HV HM
          go_wp2_with fail
          go_ret
          exact ⟨rfl, HFIN.out _ HG8.out⟩
        · subst m1 m2
          clear HV HM
          go_wp2_with fail
          go_ret
          exact ⟨rfl, HFIN.out _ HG8.out⟩
        · subst m1 m2 m3
          clear HV HM
          go_wp2_with fail
          refine (HS2.out _ HG8.out).mono ?_
          rintro e w9 ⟨rfl, b9⟩
          have HG9 := Lib.hid b9
          obtain ⟨⟨p0, p1, p2, p3⟩, ⟨q0, q1, q2, q3⟩, ⟨s0, s1, s2, s3⟩, ⟨t0, t1, t2, t3⟩⟩ := HKEEP.out _ HG9.out
          clear b9
          go_wp2_with fail
          go_ret
          exact ⟨rfl, HFIN.out _ HG9.out⟩
        · subst m1 m2 m3
          have HA2 := Lib.hid (fun W (k : Good W0 W) => good_calls (R := fun e => e = .returned (.bool false)) k (m5 W))
          clear m5
          clear HV HM
          go_wp2_with fail
          refine (HS2.out _ HG8.out).mono ?_
          rintro e w9 ⟨rfl, b9⟩
          have HG9 := Lib.hid b9
          obtain ⟨⟨p0, p1, p2, p3⟩, ⟨q0, q1, q2, q3⟩, ⟨s0, s1, s2, s3⟩, ⟨t0, t1, t2, t3⟩⟩ := HKEEP.out _ HG9.out
          clear b9
          go_wp2_with fail
          refine (HA2.out _ HG9.out).mono ?_
          rintro e w10 ⟨rfl, b10⟩
          have HG10 := Lib.hid b10
          clear b10
          go_wp2_with fail
          go_ret
          exact ⟨rfl, HFIN.out _ HG10.out⟩
      · subst h1 h2 h3
        go_wp2_with fail
        refine (HS1.out _ HG7.out).mono ?_
        rintro e w8 ⟨rfl, b8⟩
        have HG8 := Lib.hid b8
        obtain ⟨⟨p0, p1, p2, p3⟩, ⟨q0, q1, q2, q3⟩, ⟨s0, s1, s2, s3⟩, ⟨t0, t1, t2, t3⟩⟩ := HKEEP.out _ HG8.out
        clear b8
        go_wp2_with fail
        refine (HAW.out _ HG8.out).mono ?_
        rintro e w9 ⟨rfl, b9⟩
        have HG9 := Lib.hid b9
        obtain ⟨⟨p0, p1, p2, p3⟩, ⟨q0, q1, q2, q3⟩, ⟨s0, s1, s2, s3⟩, ⟨t0, t1, t2, t3⟩⟩ := HKEEP.out _ HG9.out
        clear b9
        rcases HM.out with m1 | ⟨m1, m2⟩ | ⟨m1, m2, m3, m4⟩ | ⟨m1, m2, m3, m4, m5⟩
        · subst m1
          clear HV HM
          go_wp2_with fail
          go_ret
          exact ⟨rfl, HFIN.out _ HG9.out⟩
        · subst m1 m2
          clear HV HM
          go_wp2_with fail
          go_ret
          exact ⟨rfl, HFIN.out _ HG9.out⟩
        · subst m1 m2 m3
          clear HV HM
          go_wp2_with fail
          refine (HS2.out _ HG9.out).mono ?_
          rintro e w10 ⟨rfl, b10⟩
          have HG10 := Lib.hid b10
          obtain ⟨⟨p0, p1, p2, p3⟩, ⟨q0, q1, q2, q3⟩, ⟨s0, s1, s2, s3⟩, ⟨t0, t1, t2, t3⟩⟩ := HKEEP.out _ HG10.out
          clear b10
          go_wp2_with fail
          go_ret
          exact ⟨rfl, HFIN.out _ HG10.out⟩
        · subst m1 m2 m3
          have HA2 := Lib.hid (fun W (k : Good W0 W) => good_calls (R := fun e => e = .returned (.bool false)) k (m5 W))
          clear m5
          clear HV HM
          go_wp2_with fail
          refine (HS2.out _ HG9.out).mono ?_
          rintro e w10 ⟨rfl, b10⟩
          have HG10 := Lib.hid b10
          obtain ⟨⟨p0, p1, p2, p3⟩, ⟨q0, q1, q2, q3⟩, ⟨s0, s1, s2, s3⟩, ⟨t0, t1, t2, t3⟩⟩ := HKEEP.out _ HG10.out
          clear b10
          go_wp2_with fail
          refine (HA2.out _ HG10.out).mono ?_
          rintro e w11 ⟨rfl, b11⟩
          have HG11 := Lib.hid b11
          clear b11
          go_wp2_with fail
          go_ret
          exact ⟨rfl, HFIN.out _ HG11.out⟩
      · subst h1 h2 h3
        have HA1 := Lib.hid (fun W (k : Good W0 W) => good_calls (R := fun e => e = .returned (.bool false)) k (h5 W))
        clear h5
        go_wp2_with fail
        refine (HS1.out _ HG7.out).mono ?_
        rintro e w8 ⟨rfl, b8⟩
        have HG8 := Lib.hid b8
        obtain ⟨⟨p0, p1, p2, p3⟩, ⟨q0, q1, q2, q3⟩, ⟨s0, s1, s2, s3⟩, ⟨t0, t1, t2, t3⟩⟩ := HKEEP.out _ HG8.out
        clear b8
        go_wp2_with fail
        refine (HA1.out _ HG8.out).mono ?_
        rintro e w9 ⟨rfl, b9⟩
        have HG9 := Lib.hid b9
        obtain ⟨⟨p0, p1, p2, p3⟩, ⟨q0, q1, q2, q3⟩, ⟨s0, s1, s2, s3⟩, ⟨t0, t1, t2, t3⟩⟩ := HKEEP.out _ HG9.out
        clear b9
        go_wp2_with fail
        refine (HAW.out _ HG9.out).mono ?_
        rintro e w10 ⟨rfl, b10⟩
        have HG10 := Lib.hid b10
        obtain ⟨⟨p0, p1, p2, p3⟩, ⟨q0, q1, q2, q3⟩, ⟨s0, s1, s2, s3⟩, ⟨t0, t1, t2, t3⟩⟩ := HKEEP.out _ HG10.out
        clear b10
        rcases HM.out with m1 | ⟨m1, m2⟩ | ⟨m1, m2, m3, m4⟩ | ⟨m1, m2, m3, m4, m5⟩
        · subst m1
          clear HV HM
          go_wp2_with fail
          go_ret
          exact ⟨rfl, HFIN.out _ HG10.out⟩
        · subst m1 m2
          clear HV HM
          go_wp2_with fail
          go_ret
          exact ⟨rfl, HFIN.out _ HG10.out⟩
        · subst m1 m2 m3
          clear HV HM
          go_wp2_with fail
          refine (HS2.out _ HG10.out).mono ?_
          rintro e w11 ⟨rfl, b11⟩
          have HG11 := Lib.hid b11
          obtain ⟨⟨p0, p1, p2, p3⟩, ⟨q0, q1, q2, q3⟩, ⟨s0, s1, s2, s3⟩, ⟨t0, t1, t2, t3⟩⟩ := HKEEP.out _ HG11.out
          clear b11
          go_wp2_with fail
          go_ret
          exact ⟨rfl, HFIN.out _ HG11.out⟩
        · subst m1 m2 m3
          have HA2 := Lib.hid (fun W (k : Good W0 W) => good_calls (R := fun e => e = .returned (.bool false)) k (m5 W))
          clear m5
          clear HV HM
          go_wp2_with fail
          refine (HS2.out _ HG10.out).mono ?_
          rintro e w11 ⟨rfl, b11⟩
          have HG11 := Lib.hid b11
          obtain ⟨⟨p0, p1, p2, p3⟩, ⟨q0, q1, q2, q3⟩, ⟨s0, s1, s2, s3⟩, ⟨t0, t1, t2, t3⟩⟩ := HKEEP.out _ HG11.out
          clear b11
          go_wp2_with fail
          refine (HA2.out _ HG11.out).mono ?_
          rintro e w12 ⟨rfl, b12⟩
          have HG12 := Lib.hid b12
          clear b12
          go_wp2_with fail
          go_ret
          exact ⟨rfl, HFIN.out _ HG12.out⟩
    · have hf3 : fewB [y] = false := by simpa using hf2
      rw [hf3] at HF2
      clear z1 z2 z3 b1 b2 b3 hb e0 e1 e2 e3 hVA hUA hKA hFA hLA hGA hva hua hka hfa hla hga hv hu hx hy hW0 hf1 hf2 hf3
      go_enter Try.func9, Try.ntmps9
      go_wp2_with fail
      rw [← HW0.out]
      refine (HAW.out _ HG0.out).mono ?_
      rintro e w1 ⟨rfl, b1⟩
      have HG1 := Lib.hid b1
      obtain ⟨⟨p0, p1, p2, p3⟩, ⟨q0, q1, q2, q3⟩, ⟨s0, s1, s2, s3⟩, ⟨t0, t1, t2, t3⟩⟩ := HKEEP.out _ HG1.out
      clear b1
      go_wp2_with fail
      refine (HF1.out _ HG1.out).mono ?_
      rintro e w2 ⟨rfl, b2⟩
      have HG2 := Lib.hid b2
      obtain ⟨⟨p0, p1, p2, p3⟩, ⟨q0, q1, q2, q3⟩, ⟨s0, s1, s2, s3⟩, ⟨t0, t1, t2, t3⟩⟩ := HKEEP.out _ HG2.out
      clear b2
      go_wp2_with fail
      refine (HF2.out _ HG2.out).mono ?_
      rintro e w3 ⟨rfl, b3⟩
      have HG3 := Lib.hid b3
      obtain ⟨⟨p0, p1, p2, p3⟩, ⟨q0, q1, q2, q3⟩, ⟨s0, s1, s2, s3⟩, ⟨t0, t1, t2, t3⟩⟩ := HKEEP.out _ HG3.out
      clear b3
      go_wp2_with fail
      refine (HAW.out _ HG3.out).mono ?_
      rintro e w4 ⟨rfl, b4⟩
      have HG4 := Lib.hid b4
      clear b4
      go_wp2_with fail
      go_ret
      exact ⟨rfl, HFIN.out _ HG4.out⟩
  · have hf3 : fewB [x] = false := by simpa using hf1
    rw [hf3] at HF1
    clear z1 z2 z3 b1 b2 b3 hb e0 e1 e2 e3 hVA hUA hKA hFA hLA hGA hva hua hka hfa hla hga hv hu hx hy hW0 hf1 hf3
    go_enter Try.func9, Try.ntmps9
    go_wp2_with fail
    rw [← HW0.out]
    refine (HAW.out _ HG0.out).mono ?_
    rintro e w1 ⟨rfl, b1⟩
    have HG1 := Lib.hid b1
    obtain ⟨⟨p0, p1, p2, p3⟩, ⟨q0, q1, q2, q3⟩, ⟨s0, s1, s2, s3⟩, ⟨t0, t1, t2, t3⟩⟩ := HKEEP.out _ HG1.out
    clear b1
    go_wp2_with fail
    refine (HF1.out _ HG1.out).mono ?_
    rintro e w2 ⟨rfl, b2⟩
    have HG2 := Lib.hid b2
    obtain ⟨⟨p0, p1, p2, p3⟩, ⟨q0, q1, q2, q3⟩, ⟨s0, s1, s2, s3⟩, ⟨t0, t1, t2, t3⟩⟩ := HKEEP.out _ HG2.out
    clear b2
    go_wp2_with fail
    refine (HAW.out _ HG2.out).mono ?_
    rintro e w3 ⟨rfl, b3⟩
    have HG3 := Lib.hid b3
    clear b3
    go_wp2_with fail
    go_ret
    exact ⟨rfl, HFIN.out _ HG3.out⟩

end Go.Proofs.Ytgfgafpaokefhaa.Cd
