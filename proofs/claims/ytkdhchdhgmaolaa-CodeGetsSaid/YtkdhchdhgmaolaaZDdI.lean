/-
  The document's reading: an artifact.
-/
import Derived.Test.YtkdhchdhgmaolaaZTzF
import Derived.Test.YtkdhchdhgmaolaaZTzJ
namespace Go.Proofs.Ytkdhchdhgmaolaa.Dd
open Go.RowKit
open Pk Va
open Cd (pByte pNum pTruth pText pSmall pSym pVal pLoop pAll pRej pMail pCnt pItem Rs ItemP MailP MK dM app_int1 owned_ints NumsAt.set NumsAt.of_block)
set_option linter.unusedVariables false
set_option linter.unusedSimpArgs false

theorem LRel.err {α : Type} {p : List UInt8 → Nat → Rs α} {X : Rs (List α)} {m : Nat} {acc : List α} {li : List UInt8} {bi : Nat} (h : LRel p X m acc li bi) (hb : bi ≠ 0) : Sim X acc li bi := ⟨(h.2 hb).symm, fun e => absurd e hb⟩
theorem ne_int : 3 ≠ 87 ∧ True := by decide
theorem keeps_cnt : Keeps pCnt := fun l b h => by unfold pCnt; simp only; exact keeps_small 1000 l b h
theorem MRow.set {B r cap g j : Nat} {w : World} {q : Option Addr} {d : List MK} (h : MRow B r w q d cap) (hg : g < B) (hr : g ≠ r) (v : Value) : MRow B r (w.setCell ⟨g, j, none⟩ v) q d cap := by
  refine ⟨⟨h.own.1, ?_⟩, fun y hy => ⟨(h.rows y hy).1.set hg hr v, (h.rows y hy).2.1.set hg hr v, (h.rows y hy).2.2⟩⟩
  rcases h.own.2 with h0 | ⟨g2, cap2, cur, e, hb, hc, rest⟩
  · exact .inl h0
  · exact .inr ⟨g2, cap2, cur, e, hb, (heap_setCell_other w ⟨g, j, none⟩ g2 v (show g2 ≠ g by omega)).trans hc, rest⟩
/-- What a read artifact leaves. -/
def ItemD (H r : Nat) (X : Rs ItemP) (w : World) (e : Ending) (w' : World) : Prop :=
  ∃ qa da ca qc cs cc qx dx cx i t z s l' b', e = .returned (.agg #[.int .i64 i, .string (S t), .string (S z), .int .i64 s, .slice qa da.length ca, .slice qc cs.length cc, .slice qx dx.length cx]) ∧ Sim X ⟨i, t, z, s, da.map (·.1), cs, dx.map MK.mail⟩ l' b' ∧ RdTo H r l' b' w w' ∧ VRow w.heap.size r w' qa da ca ∧ NumsAt w' qc cs ∧ (∀ g off, qc = some ⟨g, off, none⟩ → cs ≠ [] → w.heap.size ≤ g ∧ OffR r g w') ∧ MRow w.heap.size r w' qx dx cx

set_option maxRecDepth 100000 in
set_option maxHeartbeats 16000000 in
theorem item_d (H r : Nat) (l : List UInt8) (bad : Nat) (w : World) (h : RdrR H r r l bad w) :
    Calls Try.prog 41 #[.pointer (some ⟨r, 0, none⟩)] w fun e w' => ItemD H r (pItem l bad) w e w' := by
  obtain ⟨⟨xi, l1, b1⟩, h0⟩ : ∃ y, pNum l bad = y := ⟨_, rfl⟩
  obtain ⟨⟨xs, l2, b2⟩, h1⟩ : ∃ y, pNum l1 b1 = y := ⟨_, rfl⟩
  obtain ⟨⟨xt, l3, b3⟩, h2⟩ : ∃ y, pText 24 l2 b2 = y := ⟨_, rfl⟩
  obtain ⟨⟨xz, l4, b4⟩, h3⟩ : ∃ y, pText 24 l3 b3 = y := ⟨_, rfl⟩
  obtain ⟨KA, hA⟩ : ∃ y, pAll pVal 16 l4 b4 = y := ⟨_, rfl⟩
  obtain ⟨KC, hC⟩ : ∃ y, pAll pCnt 16 KA.2.1 KA.2.2 = y := ⟨_, rfl⟩
  obtain ⟨KB, hB⟩ : ∃ y, pAll pMail 4096 KC.2.1 KC.2.2 = y := ⟨_, rfl⟩
  obtain ⟨X, hXX⟩ : ∃ X, pItem l bad = X := ⟨_, rfl⟩
  have hX : X = (⟨xi, xt, xz, xs, KA.1, KC.1, KB.1⟩, KB.2) := by rw [← hXX]; unfold pItem; simp only [h0, h1, h2, h3, hA, hC, hB]
  rw [hXX]
  have HSIMF := Lib.hid (fun va l5 b5 vc l6 b6 vb l7 b7 (s1 : Sim (pAll pVal 16 l4 b4) va l5 b5) (s2 : Sim (pAll pCnt 16 l5 b5) vc l6 b6) (s3 : Sim (pAll pMail 4096 l6 b6) vb l7 b7) => show Sim X ⟨xi, xt, xz, xs, va, vc, vb⟩ l7 b7 from by
    rw [hA] at s1
    have s4 := s1.next (keeps_all pCnt 16) s2
    rw [hC] at s4
    have s5 := s4.next (keeps_all pMail 4096) s3
    rw [hB] at s5
    rw [hX]
    refine ⟨s5.1, fun h0 => ?_⟩
    have hb6 := s3.zero (keeps_all pMail 4096) h0
    have hb5 := s2.zero (keeps_all pCnt 16) hb6
    obtain ⟨e1, _⟩ := s1.2 hb5
    obtain ⟨e2, _⟩ := s4.2 hb6
    obtain ⟨e3, e4⟩ := s5.2 h0
    rw [e1, e2, e3]
    exact ⟨rfl, e4⟩)
  obtain ⟨Pst, hPst⟩ : ∃ Pst : Ending → World → Prop, Pst = ItemD H r X w := ⟨_, rfl⟩
  rw [show (fun e w' => ItemD H r X w e w') = Pst from hPst.symm]
  have HPST := Lib.hid (fun e w' (h : ItemD H r X w e w') => show Pst e w' by rw [hPst]; exact h)
  obtain ⟨W0, hW0⟩ : ∃ W0, W0 = (w.alloc (.cells #[.int .i64 0, .string ⟨#[]⟩, .string ⟨#[]⟩, .int .i64 0, .slice none 0 0, .slice none 0 0, .slice none 0 0] 41)).alloc (.cells #[.int .i64 0, .string ⟨#[]⟩, .string ⟨#[]⟩, .int .i64 0, .slice none 0 0, .slice none 0 0, .slice none 0 0] 41) := ⟨_, rfl⟩
  have hb0 : Below w.heap.size w W0 := by rw [hW0]; exact ((Below.refl w.heap.size w).alloc (Nat.le_refl _) _).alloc (by simp) _
  have hz0 : W0.heap[w.heap.size]? = some (.cells #[.int .i64 0, .string ⟨#[]⟩, .string ⟨#[]⟩, .int .i64 0, .slice none 0 0, .slice none 0 0, .slice none 0 0] 41 (0, 0)) := by rw [hW0]; exact (((Below.refl _ _).alloc (Nat.le_refl _) _).block _ (by simp)).trans (heap_alloc_new w _)
  have hx0 : W0.heap[w.heap.size + 1]? = some (.cells #[.int .i64 0, .string ⟨#[]⟩, .string ⟨#[]⟩, .int .i64 0, .slice none 0 0, .slice none 0 0, .slice none 0 0] 41 (0, 0)) := by rw [hW0]; have := heap_alloc_new (w.alloc (.cells #[.int .i64 0, .string ⟨#[]⟩, .string ⟨#[]⟩, .int .i64 0, .slice none 0 0, .slice none 0 0, .slice none 0 0] 41)) (.cells #[.int .i64 0, .string ⟨#[]⟩, .string ⟨#[]⟩, .int .i64 0, .slice none 0 0, .slice none 0 0, .slice none 0 0] 41); rwa [show (w.alloc (.cells #[.int .i64 0, .string ⟨#[]⟩, .string ⟨#[]⟩, .int .i64 0, .slice none 0 0, .slice none 0 0, .slice none 0 0] 41)).heap.size = w.heap.size + 1 by simp] at this
  have T0 := Lib.hid (RdTo.of_below h hb0)
  have HZ0 := Lib.hid hz0
  have HX0 := Lib.hid hx0
  have HW0 := Lib.hid hW0
  have HH := Lib.hid h.size
  have HRL := Lib.hid h.lt
  clear h hPst hX hXX hA hC hB hb0 hz0 hx0 hW0
  go_enter Try.func41, Try.ntmps41
  go_wp2_with fail
  rw [← HW0.out]
  have hc := dNumber_any r l bad _ T0.out.rdr.rd
  rw [show rdG 0 (decN l) l bad = (xi, l1, b1) from h0] at hc
  simp only at hc
  refine hc.mono ?_
  clear hc
  rintro e w1 ⟨rfl, r9, o9⟩
  obtain ⟨_, t9⟩ := T0.out.rdr.step r9 o9
  clear r9 o9
  obtain ⟨hz9, fz9⟩ := t9.box HZ0.out ⟨by have := HRL.out; omega, lt_of_heapV HZ0.out⟩
  obtain ⟨hx9, fx9⟩ := t9.box HX0.out ⟨by have := HRL.out; omega, lt_of_heapV HX0.out⟩
  have tn := T0.out.trans t9
  have y0 := cell_of_row w1 (w.heap.size + 1) 0 _ _ (0, 0) hx9
  have fy := fun j => frozen_of_row w1 (w.heap.size + 1) j _ _ hx9
  have T1 := Lib.hid (tn.set HH.out (by omega) fx9 0 (.int .i64 xi))
  have HX1 := Lib.hid (heap_setCell_same _ (w.heap.size + 1) 0 _ _ (.int .i64 xi) hx9)
  simp only [List.setIfInBounds_toArray, List.set_cons_zero, List.set_cons_succ] at HX1
  have HZ1 := Lib.hid ((heap_setCell_other _ ⟨w.heap.size + 1, 0, none⟩ w.heap.size (.int .i64 xi) (by show w.heap.size ≠ w.heap.size + 1; omega)).trans hz9)
  clear tn hx9 fx9 hz9 fz9 t9
  go_wp2_with fail
  clear fy y0
  have hc := dNumber_any r l1 b1 _ T1.out.rdr.rd
  rw [show rdG 0 (decN l1) l1 b1 = (xs, l2, b2) from h1] at hc
  simp only at hc
  refine hc.mono ?_
  clear hc
  rintro e w2 ⟨rfl, r9, o9⟩
  obtain ⟨_, t9⟩ := T1.out.rdr.step r9 o9
  clear r9 o9
  obtain ⟨hz9, fz9⟩ := t9.box HZ1.out ⟨by have := HRL.out; omega, lt_of_heapV HZ1.out⟩
  obtain ⟨hx9, fx9⟩ := t9.box HX1.out ⟨by have := HRL.out; omega, lt_of_heapV HX1.out⟩
  have tn := T1.out.trans t9
  have y3 := cell_of_row w2 (w.heap.size + 1) 3 _ _ (0, 0) hx9
  have fy := fun j => frozen_of_row w2 (w.heap.size + 1) j _ _ hx9
  have T2 := Lib.hid (tn.set HH.out (by omega) fx9 3 (.int .i64 xs))
  have HX2 := Lib.hid (heap_setCell_same _ (w.heap.size + 1) 3 _ _ (.int .i64 xs) hx9)
  simp only [List.setIfInBounds_toArray, List.set_cons_zero, List.set_cons_succ] at HX2
  have HZ2 := Lib.hid ((heap_setCell_other _ ⟨w.heap.size + 1, 3, none⟩ w.heap.size (.int .i64 xs) (by show w.heap.size ≠ w.heap.size + 1; omega)).trans hz9)
  clear tn hx9 fx9 hz9 fz9 t9
  go_wp2_with fail
  clear fy y3
  have hc := dText_any r l2 b2 24 (by omega) _ T2.out.rdr.rd
  rw [show rdG [] (decX l2 ((24 : Nat) : Int)) l2 b2 = (xt, l3, b3) from h2] at hc
  simp only at hc
  refine hc.mono ?_
  clear hc
  rintro e w3 ⟨rfl, r9, o9⟩
  obtain ⟨_, t9⟩ := T2.out.rdr.step r9 o9
  clear r9 o9
  obtain ⟨hz9, fz9⟩ := t9.box HZ2.out ⟨by have := HRL.out; omega, lt_of_heapV HZ2.out⟩
  obtain ⟨hx9, fx9⟩ := t9.box HX2.out ⟨by have := HRL.out; omega, lt_of_heapV HX2.out⟩
  have tn := T2.out.trans t9
  have y1 := cell_of_row w3 (w.heap.size + 1) 1 _ _ (0, 0) hx9
  have fy := fun j => frozen_of_row w3 (w.heap.size + 1) j _ _ hx9
  have T3 := Lib.hid (tn.set HH.out (by omega) fx9 1 (.string (S xt)))
  have HX3 := Lib.hid (heap_setCell_same _ (w.heap.size + 1) 1 _ _ (.string (S xt)) hx9)
  simp only [List.setIfInBounds_toArray, List.set_cons_zero, List.set_cons_succ] at HX3
  have HZ3 := Lib.hid ((heap_setCell_other _ ⟨w.heap.size + 1, 1, none⟩ w.heap.size (.string (S xt)) (by show w.heap.size ≠ w.heap.size + 1; omega)).trans hz9)
  clear tn hx9 fx9 hz9 fz9 t9
  go_wp2_with fail
  clear fy y1
  have hc := dText_any r l3 b3 24 (by omega) _ T3.out.rdr.rd
  rw [show rdG [] (decX l3 ((24 : Nat) : Int)) l3 b3 = (xz, l4, b4) from h3] at hc
  simp only at hc
  refine hc.mono ?_
  clear hc
  rintro e w4 ⟨rfl, r9, o9⟩
  obtain ⟨_, t9⟩ := T3.out.rdr.step r9 o9
  clear r9 o9
  obtain ⟨hz9, fz9⟩ := t9.box HZ3.out ⟨by have := HRL.out; omega, lt_of_heapV HZ3.out⟩
  obtain ⟨hx9, fx9⟩ := t9.box HX3.out ⟨by have := HRL.out; omega, lt_of_heapV HX3.out⟩
  have tn := T3.out.trans t9
  have y2 := cell_of_row w4 (w.heap.size + 1) 2 _ _ (0, 0) hx9
  have fy := fun j => frozen_of_row w4 (w.heap.size + 1) j _ _ hx9
  have T4 := Lib.hid (tn.set HH.out (by omega) fx9 2 (.string (S xz)))
  have HX4 := Lib.hid (heap_setCell_same _ (w.heap.size + 1) 2 _ _ (.string (S xz)) hx9)
  simp only [List.setIfInBounds_toArray, List.set_cons_zero, List.set_cons_succ] at HX4
  have HZ4 := Lib.hid ((heap_setCell_other _ ⟨w.heap.size + 1, 2, none⟩ w.heap.size (.string (S xz)) (by show w.heap.size ≠ w.heap.size + 1; omega)).trans hz9)
  clear tn hx9 fx9 hz9 fz9 t9
  go_wp2_with fail
  clear fy y2
  refine (row_d H r l4 b4 _ T4.out.rdr).mono ?_
  rintro e w5 ⟨qa, da, ca, l5, b5, rfl, sA, _, t9, va⟩
  have SA := Lib.hid sA
  clear sA
  obtain ⟨hz9, fz9⟩ := t9.box HZ4.out ⟨by have := HRL.out; omega, lt_of_heapV HZ4.out⟩
  obtain ⟨hx9, fx9⟩ := t9.box HX4.out ⟨by have := HRL.out; omega, lt_of_heapV HX4.out⟩
  have tn := T4.out.trans t9
  have y4 := cell_of_row w5 (w.heap.size + 1) 4 _ _ (0, 0) hx9
  have fy := fun j => frozen_of_row w5 (w.heap.size + 1) j _ _ hx9
  have T5 := Lib.hid (tn.set HH.out (by omega) fx9 4 (.slice qa da.length ca))
  have HX5 := Lib.hid (heap_setCell_same _ (w.heap.size + 1) 4 _ _ (.slice qa da.length ca) hx9)
  simp only [List.setIfInBounds_toArray, List.set_cons_zero, List.set_cons_succ] at HX5
  have HZ5 := Lib.hid ((heap_setCell_other _ ⟨w.heap.size + 1, 4, none⟩ w.heap.size (.slice qa da.length ca) (by show w.heap.size ≠ w.heap.size + 1; omega)).trans hz9)
  have VA5 := Lib.hid (((va.mono (B' := w.heap.size + 1 + 1) (by have := lt_of_heapV HX4.out; omega)).set (g := w.heap.size + 1) (j := 4) (by omega) fx9.1 (.slice qa da.length ca)))
  clear va
  clear tn hx9 fx9 hz9 fz9 t9
  go_wp2_with fail
  clear fy y4
  obtain ⟨⟨n1, l6, b6⟩, hn1⟩ : ∃ y, pSmall 16 l5 b5 = y := ⟨_, rfl⟩
  have hrel1 := LRel.start (p := pCnt) hn1
  have hn16 : n1 ≤ 16 := by have := Cd.pSmall_le 16 (by omega) l5 b5; rw [hn1] at this; simp only at this; omega
  have hc := dSmall_any r l5 b5 16 (by omega) _ T5.out.rdr.rd
  rw [show rdG 0 (decS l5 ((16 : Nat) : Int)) l5 b5 = (n1, l6, b6) from hn1] at hc
  simp only at hc
  refine hc.mono ?_
  clear hc hn1
  rintro e w6 ⟨rfl, r9, o9⟩
  obtain ⟨_, t9⟩ := T5.out.rdr.step r9 o9
  obtain ⟨hz9, fz9⟩ := t9.box HZ5.out ⟨by have := HRL.out; omega, lt_of_heapV HZ5.out⟩
  obtain ⟨hx9, fx9⟩ := t9.box HX5.out ⟨by have := HRL.out; omega, lt_of_heapV HX5.out⟩
  have T6 := Lib.hid (T5.out.trans t9)
  have HZ6 := Lib.hid hz9
  have HX6 := Lib.hid hx9
  have VA6 := Lib.hid (VA5.out.keep T5.out.rdr t9)
  have HR1 := Lib.hid hrel1
  clear r9 o9 t9 hz9 fz9 hx9 fx9 hrel1
  go_wp2_with fail
  obtain ⟨XC, hXC⟩ : ∃ XC, XC = pAll pCnt 16 l5 b5 := ⟨_, rfl⟩
  rw [← hXC] at HR1
  have HXC := Lib.hid hXC
  clear hXC
  have HNB := Lib.hid (fun g0 (hg : w6.heap.size ≤ g0) => NoBlk.ge VA6.out hg)
  have HA6 := Lib.hid (lt_of_heapV HX6.out)
  go_loopw [5] (fun iv wr => ∃ (i : Nat) (acc : List Int) (q : Option Addr) (cap : Nat) (li : List UInt8) (bi : Nat), i ≤ n1 ∧ iv = .int .i64 i ∧ acc.length = i ∧ RdTo H r li bi w wr ∧ wr.heap[w.heap.size]? = some (.cells #[.int .i64 0, .string ⟨#[]⟩, .string ⟨#[]⟩, .int .i64 0, .slice none 0 0, .slice none 0 0, .slice none 0 0] 41 (0, 0)) ∧ wr.heap[w.heap.size + 1]? = some (.cells #[.int .i64 xi, .string (S xt), .string (S xz), .int .i64 xs, .slice qa da.length ca, .slice q acc.length cap, .slice none 0 0] 41 (0, 0)) ∧ VRow (w.heap.size + 1 + 1) r wr qa da ca ∧ wr.ownsRow w6.heap.size 3 1 (.slice q acc.length cap) acc.length (i64C acc) ∧ w6.heap.size ≤ wr.heap.size ∧ LRel pCnt XC (n1 - i) acc li bi) (fun iv _ => n1 - (intOf iv).toNat)
  case atStart => exact ⟨0, [], none, 0, l6, b6, Nat.zero_le _, rfl, rfl, T6.out, HZ6.out, HX6.out, VA6.out, World.ownsRow_nil _ _ _ _, Nat.le_refl _, HR1.out⟩
  case round =>
    obtain ⟨i, acc, q, cap, li, bi, hin, rfl, hai, ht, hz, hx, hva, hown, hw6, hrl⟩ := hrel
    by_cases hlt : i < n1
    · have hii : (i : Int) < (n1 : Int) := by omega
      have hoff := off_row ht.rdr hown ne_int.1 ne_int.2
      have htd := ht.trans (RdTo.of_below ht.rdr ((Below.refl wr.heap.size wr).drew))
      have hrl2 : LRel pCnt XC ((n1 - (i + 1)) + 1) acc li bi := by rw [show n1 - (i + 1) + 1 = n1 - i by omega]; exact hrl
      obtain ⟨⟨x, l9, b9⟩, hy4⟩ : ∃ y, pSmall 1000 li bi = y := ⟨_, rfl⟩
      have hnx := hrl2.next keeps_cnt (v := (x : Int)) (l2 := l9) (b2 := b9) (by unfold pCnt; simp only [hy4]; exact Sim.same (((x : Int), l9, b9) : Rs Int))
      have HC3 := Lib.hid (dSmall_any r li bi 1000 (by omega) wr.drew htd.rdr.rd)
      rw [show rdG 0 (decS li ((1000 : Nat) : Int)) li bi = (x, l9, b9) from hy4] at HC3
      simp only at HC3
      have HT := Lib.hid htd
      have HZ := Lib.hid (show wr.drew.heap[w.heap.size]? = _ from hz)
      have HX := Lib.hid (show wr.drew.heap[w.heap.size + 1]? = _ from hx)
      have HVA := Lib.hid (show VRow (w.heap.size + 1 + 1) r wr.drew qa da ca from hva.below ht.rdr ((Below.refl wr.heap.size wr).drew))
      have HOWN := Lib.hid (show wr.drew.ownsRow w6.heap.size _ _ _ _ _ from hown)
      have HOFF := Lib.hid (fun g hg => show OffR r g wr.drew from hoff g hg)
      have HNX := Lib.hid hnx
      have HAI := Lib.hid hai
      have HW6 := Lib.hid (show w6.heap.size ≤ wr.drew.heap.size from hw6)
      have hS0 : wr.drew.cell? ⟨w.heap.size + 1, 5, none⟩ = some (.slice q acc.length cap) := cell_of_row wr (w.heap.size + 1) 5 _ _ (0, 0) hx
      clear ht hz hx hva hown hoff htd hrl hrl2 hnx hy4 hai hw6
      go_wp2_with fail
      refine Cd.until_start 7 (fun w7 => w7.cell? ⟨w.heap.size + 1, 5, none⟩ = some (.slice q acc.length cap)) (by kernel_rfl) ?_
      refine Cd.untilT (v := ?_) 0 (by decide +kernel) (by decide +kernel) (by decide +kernel) (by kernel_rfl) (by simp only [List.getElem?_toArray, List.getElem?_cons_succ, List.getElem?_cons_zero]; rfl) (by rfl) (by exact fun _ _ _ h => h) (by first | exact fun _ => hS0 | exact fun h => absurd h (by decide +kernel)) ?_ ?_
      rotate_left 1
      focus (intro w8; go_simp; (try with_reducible rfl); done)
      try simp only [Act.put, List.setIfInBounds_toArray, List.set_cons_zero, List.set_cons_succ]
      refine Cd.untilW (v := ?_) 1 [7] (by decide) (by decide +kernel) (by decide +kernel) (by decide +kernel) (by decide +kernel) (by kernel_rfl) (by simp only [List.getElem?_toArray, List.getElem?_cons_succ, List.getElem?_cons_zero]; rfl) (by rfl) (by exact fun _ _ _ h => h) (by exact hS0) ?_ ?_
      rotate_left 1
      focus (intro w8 hSw; (try dsimp only at hSw); go_simp; (try with_reducible rfl); done)
      try simp only [Act.put, List.setIfInBounds_toArray, List.set_cons_zero, List.set_cons_succ]
      refine Cd.untilT (v := ?_) 2 (by decide +kernel) (by decide +kernel) (by decide +kernel) (by kernel_rfl) (by simp only [List.getElem?_toArray, List.getElem?_cons_succ, List.getElem?_cons_zero]; rfl) (by rfl) (by exact fun _ _ _ h => h) (by first | exact fun _ => hS0 | exact fun h => absurd h (by decide +kernel)) ?_ ?_
      rotate_left 1
      focus (intro w8; go_simp; (try with_reducible rfl); done)
      try simp only [Act.put, List.setIfInBounds_toArray, List.set_cons_zero, List.set_cons_succ]
      refine Cd.untilT (v := ?_) 3 (by decide +kernel) (by decide +kernel) (by decide +kernel) (by kernel_rfl) (by simp only [List.getElem?_toArray, List.getElem?_cons_succ, List.getElem?_cons_zero]; rfl) (by rfl) (by exact fun _ _ _ h => h) (by first | exact fun _ => hS0 | exact fun h => absurd h (by decide +kernel)) ?_ ?_
      rotate_left 1
      focus (intro w8; go_simp; (try with_reducible rfl); done)
      try simp only [Act.put, List.setIfInBounds_toArray, List.set_cons_zero, List.set_cons_succ]
      refine Cd.untilT (v := ?_) 4 (by decide +kernel) (by decide +kernel) (by decide +kernel) (by kernel_rfl) (by simp only [List.getElem?_toArray, List.getElem?_cons_succ, List.getElem?_cons_zero]; rfl) (by rfl) (by exact fun _ _ _ h => h) (by first | exact fun _ => hS0 | exact fun h => absurd h (by decide +kernel)) ?_ ?_
      rotate_left 1
      focus (intro w8; go_simp; (try with_reducible rfl); done)
      try simp only [Act.put, List.setIfInBounds_toArray, List.set_cons_zero, List.set_cons_succ]
      refine Cd.until_one (i := 5) (by decide +kernel) (by simp only [List.getElem?_toArray, List.getElem?_cons_succ, List.getElem?_cons_zero]; rfl) ?_
      intro K hK
      go_simp
      go_at_call 48; refine HC3.out.mono ?_; rintro e w3 ⟨rfl, r9, o9⟩
      obtain ⟨hR9, t9⟩ := HT.out.rdr.step r9 o9
      obtain ⟨hz9, fz9⟩ := t9.box HZ.out ⟨by have := HRL.out; omega, lt_of_heapV HZ.out⟩
      obtain ⟨hx9, fx9⟩ := t9.box HX.out ⟨by have := HRL.out; omega, lt_of_heapV HX.out⟩
      have hva9 := HVA.out.keep HT.out.rdr t9
      have how9 := own_keep t9 HOWN.out HOFF.out
      clear hS0
      have hS0 := cell_of_row w3 (w.heap.size + 1) 5 _ _ (0, 0) hx9
      have hw63 : w6.heap.size ≤ w3.heap.size := Nat.le_trans HW6.out t9.size
      obtain ⟨q5, c5, w5, hrun, hown5, hgrow⟩ := app_int1 w6.heap.size (.slice q acc.length cap) acc.length acc w3 how9 x (by have := HAI.out; omega) hw63 w3.heap.size rfl
      have ka := (Below.refl w3.heap.size w3).alloc (Nat.le_refl _) (.cells #[.int .i64 (x : Int)] 3)
      have hofA := off_row (hR9.below ka) (World.ownsRow.alloc how9 (.cells #[.int .i64 (x : Int)] 3)) ne_int.1 ne_int.2
      have hbk : ∀ g, (Value.slice q acc.length cap).ownBlock = some g → w6.heap.size ≤ g := fun g hg => (World.ownsRow.lt how9 g hg).1
      have hA6 := HA6.out
      have hT5 := ((HT.out.trans t9).trans (RdTo.of_below hR9 ka)).grown HH.out hgrow (fun g hg => ⟨by have := hbk g hg; omega, hofA g hg⟩)
      have hz5 := (hgrow.block w.heap.size (by have := lt_of_heapV hz9; simp; omega) (fun e => by have := hbk _ e.symm; omega)).trans ((ka.block _ (lt_of_heapV hz9)).trans hz9)
      have hx5 := (hgrow.block (w.heap.size + 1) (by have := lt_of_heapV hx9; simp; omega) (fun e => by have := hbk _ e.symm; omega)).trans ((ka.block _ (lt_of_heapV hx9)).trans hx9)
      have hva5 := (hva9.below hR9 ka).grown hgrow (fun g0 e => ⟨HNB.out g0 (hbk g0 e), (hofA g0 e).1⟩) (by have := hR9.lt; simp; omega)
      have fx5 : OffR r (w.heap.size + 1) w5 := ⟨fx9.1, lt_of_heapV hx5⟩
      have v55 := cell_of_row w5 (w.heap.size + 1) 5 _ _ (0, 0) hx5
      have vf5 := fun j => frozen_of_row w5 (w.heap.size + 1) j _ _ hx5
      have HZ5 := Lib.hid ((heap_setCell_other _ ⟨w.heap.size + 1, 5, none⟩ w.heap.size (.slice q5 (acc.length + 1) c5) (by show w.heap.size ≠ w.heap.size + 1; omega)).trans hz5)
      have HX5 := Lib.hid (heap_setCell_same _ (w.heap.size + 1) 5 _ _ (.slice q5 (acc.length + 1) c5) hx5)
      simp only [List.setIfInBounds_toArray, List.set_cons_zero, List.set_cons_succ] at HX5
      have HT5 := Lib.hid (hT5.set HH.out (by omega) fx5 5 (.slice q5 (acc.length + 1) c5))
      have HVA5 := Lib.hid (hva5.set (g := w.heap.size + 1) (j := 5) (by omega) fx5.1 (.slice q5 (acc.length + 1) c5))
      have HO5 := Lib.hid (ownsRow_set hown5 (w.heap.size + 1) hA6 5 (.slice q5 (acc.length + 1) c5))
      have HRUN := Lib.hid hrun
      have HS5 := Lib.hid (show w6.heap.size ≤ (w5.setCell ⟨w.heap.size + 1, 5, none⟩ (.slice q5 (acc.length + 1) c5)).heap.size by have := hgrow.size; simp [World.setCell] at this ⊢; omega)
      clear r9 o9 hR9 t9 hz9 fz9 hx9 fx9 hva9 how9 hown5 hgrow ka hofA hbk hT5 hz5 hx5 hva5 fx5 hrun hw63 hA6
      go_wp2_with fail
      refine hK.out _ _ (by first | exact fun _ => hS0 | exact fun h => absurd h (by decide +kernel)) ?_
      clear hK K
      try simp only [Act.put, List.setIfInBounds_toArray, List.set_cons_zero, List.set_cons_succ]
      refine Cd.until_one (i := 6) (by decide +kernel) (by simp only [List.getElem?_toArray, List.getElem?_cons_succ, List.getElem?_cons_zero]; rfl) ?_
      intro K hK
      go_simp
      go_wp2_with fail
      refine hK.out _ _ (by first | exact fun _ => (by simp [*, World.cell?_alloc_some]) | exact fun h => absurd h (by decide +kernel)) ?_
      clear hK K
      try simp only [Act.put, List.setIfInBounds_toArray, List.set_cons_zero, List.set_cons_succ]
      refine Cd.until_one (i := 7) (by decide +kernel) (by simp only [List.getElem?_toArray, List.getElem?_cons_succ, List.getElem?_cons_zero]; rfl) ?_
      intro K hK
      rw [if_pos (by rfl)]
      refine oper_app _ _ _ _ rfl rfl rfl _ _ HRUN.out ?_
      refine hK.out _ _ (fun h => absurd h (by decide +kernel)) ?_
      clear hK K
      try simp only [Act.put, List.setIfInBounds_toArray, List.set_cons_zero, List.set_cons_succ]
      refine Cd.untilT (v := ?_) 8 (by decide +kernel) (by decide +kernel) (by decide +kernel) (by kernel_rfl) (by simp only [List.getElem?_toArray, List.getElem?_cons_succ, List.getElem?_cons_zero]; rfl) (by rfl) (by exact fun _ _ _ h => h) (by first | exact fun _ => hS0 | exact fun h => absurd h (by decide +kernel)) ?_ ?_
      rotate_left 1
      focus (intro w8; go_simp; (try with_reducible rfl); done)
      try simp only [Act.put, List.setIfInBounds_toArray, List.set_cons_zero, List.set_cons_succ]
      refine Cd.until_one (i := 9) (by decide +kernel) (by simp only [List.getElem?_toArray, List.getElem?_cons_succ, List.getElem?_cons_zero]; rfl) ?_
      intro K hK
      go_simp
      go_wp2_with fail
      refine hK.out _ _ (fun h => absurd h (by decide +kernel)) ?_
      clear hK K
      try simp only [Act.put, List.setIfInBounds_toArray, List.set_cons_zero, List.set_cons_succ]
      refine Cd.until_done (by decide +kernel) ?_ _
      go_wp2_with fail
      go_roundw
      case rel => exact ⟨i + 1, acc ++ [(x : Int)], q5, c5, l9, b9, by omega, by go_num, by have := HAI.out; simp; omega, HT5.out, HZ5.out, by rw [List.length_append]; exact HX5.out, HVA5.out, by rw [List.length_append]; exact HO5.out, HS5.out, HNX.out⟩
      case measure => simp [intOf]; omega
    · have hie : i = n1 := by omega
      have hii : ¬ (i : Int) < (n1 : Int) := by omega
      rw [hie, Nat.sub_self] at hrl
      have hfin := hrl.fin
      rw [HXC.out] at hfin
      obtain ⟨a9, c9, he9, hnums⟩ := owned_ints hown rfl
      obtain ⟨rfl, rfl⟩ : q = a9 ∧ cap = c9 := by injection he9 with e1 _ e3; exact ⟨e1, e3⟩
      have hfr : ∀ g off, q = some ⟨g, off, none⟩ → acc ≠ [] → w6.heap.size ≤ g ∧ OffR r g wr := fun g off e hn => by
        subst e
        have hg : (Value.slice (some ⟨g, off, none⟩) acc.length cap).ownBlock = some g := rfl
        exact ⟨(World.ownsRow.lt hown g hg).1, off_row ht.rdr hown ne_int.1 ne_int.2 g hg⟩
      obtain ⟨⟨n2, l7, b7⟩, hn2⟩ : ∃ y, pSmall 4096 li bi = y := ⟨_, rfl⟩
      have hrel2 := LRel.start (p := pMail) hn2
      have hn4 : n2 ≤ 4096 := by have := Cd.pSmall_le 4096 (by omega) li bi; rw [hn2] at this; simp only at this; omega
      have HC4 := Lib.hid (dSmall_any r li bi 4096 (by omega) wr ht.rdr.rd)
      rw [show rdG 0 (decS li ((4096 : Nat) : Int)) li bi = (n2, l7, b7) from hn2] at HC4
      simp only at HC4
      obtain ⟨XB, hXB⟩ : ∃ XB, XB = pAll pMail 4096 li bi := ⟨_, rfl⟩
      rw [← hXB] at hrel2
      have SC := Lib.hid hfin
      have HXB := Lib.hid hXB
      have HT := Lib.hid ht
      have HZ := Lib.hid hz
      have HX := Lib.hid hx
      have HVA := Lib.hid hva
      have HNM := Lib.hid hnums
      have HFR := Lib.hid hfr
      have HR2 := Lib.hid hrel2
      rw [hie] at hii
      clear hfin hXB ht hz hx hva hnums hfr hrel2 hn2 hown hrl he9 hai hie hin
      go_wp2_with fail
      refine HC4.out.mono ?_
      rintro e w7 ⟨rfl, r9, o9⟩
      obtain ⟨_, t9⟩ := HT.out.rdr.step r9 o9
      obtain ⟨hz9, fz9⟩ := t9.box HZ.out ⟨by have := HRL.out; omega, lt_of_heapV HZ.out⟩
      obtain ⟨hx9, fx9⟩ := t9.box HX.out ⟨by have := HRL.out; omega, lt_of_heapV HX.out⟩
      have T7 := Lib.hid (HT.out.trans t9)
      have HZ7 := Lib.hid hz9
      have HX7 := Lib.hid hx9
      have VA7 := Lib.hid (HVA.out.keep HT.out.rdr t9)
      have NM7 := Lib.hid (NumsAt.of_block HNM.out t9.size (fun g off e hn => (t9.keeps g (HFR.out g off e hn).2).1))
      have HF7 := Lib.hid (fun g off (e : q = some ⟨g, off, none⟩) (hn : acc ≠ []) => show w6.heap.size ≤ g ∧ OffR r g w7 from ⟨(HFR.out g off e hn).1, (t9.keeps g (HFR.out g off e hn).2).2⟩)
      have HW67 := Lib.hid (show w6.heap.size ≤ w7.heap.size from Nat.le_trans hw6 t9.size)
      clear r9 o9 t9 hz9 fz9 hx9 fx9 hw6
      go_wp2_with fail
      go_loopw [6] (fun iv wr => ∃ (j : Nat) (bx : List MK) (qx : Option Addr) (kx : Nat) (lj : List UInt8) (bj : Nat), j ≤ n2 ∧ iv = .int .i64 j ∧ bx.length = j ∧ RdTo H r lj bj w wr ∧ wr.heap[w.heap.size]? = some (.cells #[.int .i64 0, .string ⟨#[]⟩, .string ⟨#[]⟩, .int .i64 0, .slice none 0 0, .slice none 0 0, .slice none 0 0] 41 (0, 0)) ∧ wr.heap[w.heap.size + 1]? = some (.cells #[.int .i64 xi, .string (S xt), .string (S xz), .int .i64 xs, .slice qa da.length ca, .slice q acc.length cap, .slice qx bx.length kx] 41 (0, 0)) ∧ VRow (w.heap.size + 1 + 1) r wr qa da ca ∧ NumsAt wr q acc ∧ (∀ g off, q = some ⟨g, off, none⟩ → acc ≠ [] → w6.heap.size ≤ g ∧ g < w7.heap.size ∧ OffR r g wr) ∧ MRow w7.heap.size r wr qx bx kx ∧ w7.heap.size ≤ wr.heap.size ∧ LRel pMail XB (n2 - j) (bx.map MK.mail) lj bj) (fun iv _ => n2 - (intOf iv).toNat)
      case atStart => exact ⟨0, [], none, 0, l7, b7, Nat.zero_le _, rfl, rfl, T7.out, HZ7.out, HX7.out, VA7.out, NM7.out, fun g off e hn => ⟨(HF7.out g off e hn).1, (HF7.out g off e hn).2.2, (HF7.out g off e hn).2⟩, MRow.nil _ _ _, Nat.le_refl _, HR2.out⟩
      case round =>
        obtain ⟨j, bx, qx, kx, lj, bj, hjn, rfl, hbl, ht, hz, hx, hva, hnm, hfr, hmr, hw7, hrl⟩ := hrel
        have c2 := drAt_pos ht.rdr.rd
        by_cases hlt2 : j < n2
        · have hji : (j : Int) < (n2 : Int) := by omega
          by_cases hbj : bj = 0
          · subst hbj
            have htd := ht.trans (RdTo.of_below ht.rdr ((Below.refl wr.heap.size wr).drew))
            have hrl2 : LRel pMail XB ((n2 - (j + 1)) + 1) (bx.map MK.mail) lj 0 := by rw [show n2 - (j + 1) + 1 = n2 - j by omega]; exact hrl
            have HNX := Lib.hid (fun v l9 b9 (s : Sim (pMail lj 0) v l9 b9) => hrl2.next keeps_mail s)
            have HC3 := Lib.hid (mail_d H r lj 0 wr.drew htd.rdr)
            have kd := (Below.refl wr.heap.size wr).drew
            have HT2 := Lib.hid htd
            have HZ2 := Lib.hid (show wr.drew.heap[w.heap.size]? = _ from hz)
            have HX2 := Lib.hid (show wr.drew.heap[w.heap.size + 1]? = _ from hx)
            have HVA2 := Lib.hid (hva.below ht.rdr kd)
            have HNM2 := Lib.hid (show NumsAt wr.drew q acc from hnm)
            have HFR2 := Lib.hid (fun g off e hn => show w6.heap.size ≤ g ∧ g < w7.heap.size ∧ OffR r g wr.drew from hfr g off e hn)
            have HMR2 := Lib.hid (hmr.below ht.rdr kd)
            have HW72 := Lib.hid (show w7.heap.size ≤ wr.drew.heap.size from hw7)
            have HBL := Lib.hid hbl
            have hS0 : wr.drew.cell? ⟨w.heap.size + 1, 6, none⟩ = some (.slice qx bx.length kx) := cell_of_row wr (w.heap.size + 1) 6 _ _ (0, 0) hx
            clear ht hz hx hva hnm hfr hmr hrl hrl2 htd kd hw7 hbl
            go_wp2_with fail
            refine Cd.until_start 5 (fun w9 => w9.cell? ⟨w.heap.size + 1, 6, none⟩ = some (.slice qx bx.length kx)) (by kernel_rfl) ?_
            refine Cd.untilT (v := ?_) 0 (by decide +kernel) (by decide +kernel) (by decide +kernel) (by kernel_rfl) (by simp only [List.getElem?_toArray, List.getElem?_cons_succ, List.getElem?_cons_zero]; rfl) (by rfl) (by exact fun _ _ _ h => h) (by first | exact fun _ => hS0 | exact fun h => absurd h (by decide +kernel)) ?_ ?_
            rotate_left 1
            focus (intro w8; go_simp; (try with_reducible rfl); done)
            try simp only [Act.put, List.setIfInBounds_toArray, List.set_cons_zero, List.set_cons_succ]
            refine Cd.untilW (v := ?_) 1 [5] (by decide) (by decide +kernel) (by decide +kernel) (by decide +kernel) (by decide +kernel) (by kernel_rfl) (by simp only [List.getElem?_toArray, List.getElem?_cons_succ, List.getElem?_cons_zero]; rfl) (by rfl) (by exact fun _ _ _ h => h) (by exact hS0) ?_ ?_
            rotate_left 1
            focus (intro w8 hSw; (try dsimp only at hSw); go_simp; (try with_reducible rfl); done)
            try simp only [Act.put, List.setIfInBounds_toArray, List.set_cons_zero, List.set_cons_succ]
            refine Cd.untilT (v := ?_) 2 (by decide +kernel) (by decide +kernel) (by decide +kernel) (by kernel_rfl) (by simp only [List.getElem?_toArray, List.getElem?_cons_succ, List.getElem?_cons_zero]; rfl) (by rfl) (by exact fun _ _ _ h => h) (by first | exact fun _ => hS0 | exact fun h => absurd h (by decide +kernel)) ?_ ?_
            rotate_left 1
            focus (intro w8; go_simp; (try with_reducible rfl); done)
            try simp only [Act.put, List.setIfInBounds_toArray, List.set_cons_zero, List.set_cons_succ]
            refine Cd.until_one (i := 3) (by decide +kernel) (by simp only [List.getElem?_toArray, List.getElem?_cons_succ, List.getElem?_cons_zero]; rfl) ?_
            intro K hK
            go_simp
            go_at_call 38; refine HC3.out.mono ?_; rintro e w3 ⟨ka, dk, kc, fa, df, fc, mi, mc, l9, b9, rfl, hsim, _, _, t9, vk, vf⟩
            have hnx := HNX.out _ _ _ hsim
            obtain ⟨hz9, fz9⟩ := t9.box HZ2.out ⟨by have := HRL.out; omega, lt_of_heapV HZ2.out⟩
            obtain ⟨hx9, fx9⟩ := t9.box HX2.out ⟨by have := HRL.out; omega, lt_of_heapV HX2.out⟩
            have hR9 := t9.rdr
            have hva9 := HVA2.out.keep HT2.out.rdr t9
            have hmr9 := HMR2.out.keep HT2.out.rdr t9
            have hnm9 := NumsAt.of_block HNM2.out t9.size (fun g off e hn => (t9.keeps g (HFR2.out g off e hn).2.2).1)
            have hfr9 : ∀ g off, q = some ⟨g, off, none⟩ → acc ≠ [] → OffR r g w3 := fun g off e hn => (t9.keeps g (HFR2.out g off e hn).2.2).2
            clear hS0
            have hS0 := cell_of_row w3 (w.heap.size + 1) 6 _ _ (0, 0) hx9
            have hw73 : w7.heap.size ≤ w3.heap.size := Nat.le_trans HW72.out t9.size
            obtain ⟨q5, c5, w5, hrun, hown5, hgrow⟩ := hmr9.app hR9 hw73 (by have := HBL.out; omega) ⟨mi, mc, ka, dk, kc, fa, df, fc⟩ (vk.mono HW72.out) (vf.mono HW72.out) (fun g0 e0 => ⟨NoBlk.lt vk (World.ownsRow.lt HMR2.out.own g0 e0).2, NoBlk.lt vf (World.ownsRow.lt HMR2.out.own g0 e0).2⟩) w3.heap.size rfl
            simp only at hrun hgrow
            have ka9 := (Below.refl w3.heap.size w3).alloc (Nat.le_refl _) (.cells #[.int .i64 mi, .string (S mc), .slice ka dk.length kc, .slice fa df.length fc] 33)
            have hofA := off_row (hR9.below ka9) (hmr9.below hR9 ka9).own ne_mail.1 ne_mail.2
            have hbk : ∀ g, (Value.slice qx bx.length kx).ownBlock = some g → w7.heap.size ≤ g := fun g hg => (World.ownsRow.lt hmr9.own g hg).1
            have hA6 := HA6.out
            have hA7 := HW67.out
            have hT5 := ((HT2.out.trans t9).trans (RdTo.of_below hR9 ka9)).grown HH.out hgrow (fun g hg => ⟨by have := hbk g hg; omega, hofA g hg⟩)
            have hz5 := (hgrow.block w.heap.size (by have := lt_of_heapV hz9; simp; omega) (fun e => by have := hbk _ e.symm; omega)).trans ((ka9.block _ (lt_of_heapV hz9)).trans hz9)
            have hx5 := (hgrow.block (w.heap.size + 1) (by have := lt_of_heapV hx9; simp; omega) (fun e => by have := hbk _ e.symm; omega)).trans ((ka9.block _ (lt_of_heapV hx9)).trans hx9)
            have hva5 := (hva9.below hR9 ka9).grown hgrow (fun g0 e => ⟨HNB.out g0 (by have := hbk g0 e; omega), (hofA g0 e).1⟩) (by have := hR9.lt; simp; omega)
            have hnm5 := NumsAt.of_block (NumsAt.of_block hnm9 ka9.size (fun g off e hn => ka9.block g (hfr9 g off e hn).2)) hgrow.size (fun g off e hn => hgrow.block g (by have := (hfr9 g off e hn).2; simp; omega) (fun e2 => by have := hbk _ e2.symm; have := (HFR2.out g off e hn).2.1; omega))
            have fx5 : OffR r (w.heap.size + 1) w5 := ⟨fx9.1, lt_of_heapV hx5⟩
            have v55 := cell_of_row w5 (w.heap.size + 1) 6 _ _ (0, 0) hx5
            have vf5 := fun j => frozen_of_row w5 (w.heap.size + 1) j _ _ hx5
            have hnq : ∀ g off, q = some ⟨g, off, none⟩ → acc ≠ [] → g ≠ w.heap.size + 1 := fun g off e hn => by have := (HFR2.out g off e hn).1; omega
            have HZ5 := Lib.hid ((heap_setCell_other _ ⟨w.heap.size + 1, 6, none⟩ w.heap.size (.slice q5 (bx.length + 1) c5) (by show w.heap.size ≠ w.heap.size + 1; omega)).trans hz5)
            have HX5 := Lib.hid (heap_setCell_same _ (w.heap.size + 1) 6 _ _ (.slice q5 (bx.length + 1) c5) hx5)
            simp only [List.setIfInBounds_toArray, List.set_cons_zero, List.set_cons_succ] at HX5
            have HT5 := Lib.hid (hT5.set HH.out (by omega) fx5 6 (.slice q5 (bx.length + 1) c5))
            have HVA5 := Lib.hid (hva5.set (g := w.heap.size + 1) (j := 6) (by omega) fx5.1 (.slice q5 (bx.length + 1) c5))
            have HNM5 := Lib.hid (NumsAt.set hnm5 (w.heap.size + 1) hnq 6 (.slice q5 (bx.length + 1) c5))
            have HMR5 := Lib.hid (hown5.set (g := w.heap.size + 1) (j := 6) (by omega) fx5.1 (.slice q5 (bx.length + 1) c5))
            have HS5 := Lib.hid (show w7.heap.size ≤ (w5.setCell ⟨w.heap.size + 1, 6, none⟩ (.slice q5 (bx.length + 1) c5)).heap.size by have := hgrow.size; simp [World.setCell] at this ⊢; omega)
            have HFR5 := Lib.hid (fun g off (e : q = some ⟨g, off, none⟩) (hn : acc ≠ []) => show w6.heap.size ≤ g ∧ g < w7.heap.size ∧ OffR r g (w5.setCell ⟨w.heap.size + 1, 6, none⟩ (.slice q5 (bx.length + 1) c5)) from ⟨(HFR2.out g off e hn).1, (HFR2.out g off e hn).2.1, (hfr9 g off e hn).1, by have := (hfr9 g off e hn).2; have := hgrow.size; simp [World.setCell] at this ⊢; omega⟩)
            have HRUN := Lib.hid hrun
            have HNX5 := Lib.hid hnx
            clear hsim hnx t9 vk vf hz9 fz9 hx9 fx9 hR9 hva9 hmr9 hnm9 hfr9 hown5 hgrow ka9 hofA hbk hT5 hz5 hx5 hva5 hnm5 fx5 hnq hrun hw73 hA6 hA7
            go_wp2_with fail
            refine hK.out _ _ (by first | exact fun _ => hS0 | exact fun h => absurd h (by decide +kernel)) ?_
            clear hK K
            try simp only [Act.put, List.setIfInBounds_toArray, List.set_cons_zero, List.set_cons_succ]
            refine Cd.until_one (i := 4) (by decide +kernel) (by simp only [List.getElem?_toArray, List.getElem?_cons_succ, List.getElem?_cons_zero]; rfl) ?_
            intro K hK
            go_simp
            go_wp2_with fail
            refine hK.out _ _ (by first | exact fun _ => (by simp [*, World.cell?_alloc_some]) | exact fun h => absurd h (by decide +kernel)) ?_
            clear hK K
            try simp only [Act.put, List.setIfInBounds_toArray, List.set_cons_zero, List.set_cons_succ]
            refine Cd.until_one (i := 5) (by decide +kernel) (by simp only [List.getElem?_toArray, List.getElem?_cons_succ, List.getElem?_cons_zero]; rfl) ?_
            intro K hK
            rw [if_pos (by rfl)]
            refine oper_app _ _ _ _ rfl rfl rfl _ _ HRUN.out ?_
            refine hK.out _ _ (fun h => absurd h (by decide +kernel)) ?_
            clear hK K
            try simp only [Act.put, List.setIfInBounds_toArray, List.set_cons_zero, List.set_cons_succ]
            refine Cd.untilT (v := ?_) 6 (by decide +kernel) (by decide +kernel) (by decide +kernel) (by kernel_rfl) (by simp only [List.getElem?_toArray, List.getElem?_cons_succ, List.getElem?_cons_zero]; rfl) (by rfl) (by exact fun _ _ _ h => h) (by first | exact fun _ => hS0 | exact fun h => absurd h (by decide +kernel)) ?_ ?_
            rotate_left 1
            focus (intro w8; go_simp; (try with_reducible rfl); done)
            try simp only [Act.put, List.setIfInBounds_toArray, List.set_cons_zero, List.set_cons_succ]
            refine Cd.until_one (i := 7) (by decide +kernel) (by simp only [List.getElem?_toArray, List.getElem?_cons_succ, List.getElem?_cons_zero]; rfl) ?_
            intro K hK
            go_simp
            go_wp2_with fail
            refine hK.out _ _ (fun h => absurd h (by decide +kernel)) ?_
            clear hK K
            try simp only [Act.put, List.setIfInBounds_toArray, List.set_cons_zero, List.set_cons_succ]
            refine Cd.until_done (by decide +kernel) ?_ _
            go_wp2_with fail
            go_roundw
            case rel => exact ⟨j + 1, bx ++ [⟨mi, mc, ka, dk, kc, fa, df, fc⟩], q5, c5, l9, b9, by omega, by go_num, by have := HBL.out; simp; omega, HT5.out, HZ5.out, by rw [List.length_append]; exact HX5.out, HVA5.out, HNM5.out, HFR5.out, HMR5.out, HS5.out, by have := HNX5.out; rw [List.map_append]; exact this⟩
            case measure => simp [intOf]; omega
          · have h3 := (err_ne bj hbj).1
            have h4 := (err_ne bj hbj).2
            have hs3 := hrl.err hbj
            rw [HXB.out] at hs3
            have hss := HSIMF.out _ _ _ _ _ _ _ _ _ SA.out SC.out hs3
            have hne : w.heap.size ≠ r := by have := HRL.out; omega
            have fzz : OffR r w.heap.size wr := ⟨hne, lt_of_heapV hz⟩
            have hnq : ∀ g off, q = some ⟨g, off, none⟩ → acc ≠ [] → g ≠ w.heap.size := fun g off e hn => by have := (hfr g off e hn).1; have := HA6.out; omega
            have HTE := Lib.hid (((((((ht.set HH.out (Nat.le_refl _) fzz 0 (.int .i64 xi)).set HH.out (Nat.le_refl _) (fzz.set (j := 0) hne (.int .i64 xi)) 1 (.string (S xt))).set HH.out (Nat.le_refl _) ((fzz.set (j := 0) hne (.int .i64 xi)).set (j := 1) hne (.string (S xt))) 2 (.string (S xz))).set HH.out (Nat.le_refl _) (((fzz.set (j := 0) hne (.int .i64 xi)).set (j := 1) hne (.string (S xt))).set (j := 2) hne (.string (S xz))) 3 (.int .i64 xs)).set HH.out (Nat.le_refl _) ((((fzz.set (j := 0) hne (.int .i64 xi)).set (j := 1) hne (.string (S xt))).set (j := 2) hne (.string (S xz))).set (j := 3) hne (.int .i64 xs)) 4 (.slice qa da.length ca)).set HH.out (Nat.le_refl _) (((((fzz.set (j := 0) hne (.int .i64 xi)).set (j := 1) hne (.string (S xt))).set (j := 2) hne (.string (S xz))).set (j := 3) hne (.int .i64 xs)).set (j := 4) hne (.slice qa da.length ca)) 5 (.slice q acc.length cap)).set HH.out (Nat.le_refl _) ((((((fzz.set (j := 0) hne (.int .i64 xi)).set (j := 1) hne (.string (S xt))).set (j := 2) hne (.string (S xz))).set (j := 3) hne (.int .i64 xs)).set (j := 4) hne (.slice qa da.length ca)).set (j := 5) hne (.slice q acc.length cap)) 6 (.slice qx bx.length kx))
            have HVE := Lib.hid (((((((((hva.mono (B' := w.heap.size + 1) (by omega)).set (g := w.heap.size) (j := 0) (Nat.lt_succ_self _) hne (.int .i64 xi)).set (g := w.heap.size) (j := 1) (Nat.lt_succ_self _) hne (.string (S xt))).set (g := w.heap.size) (j := 2) (Nat.lt_succ_self _) hne (.string (S xz))).set (g := w.heap.size) (j := 3) (Nat.lt_succ_self _) hne (.int .i64 xs)).set (g := w.heap.size) (j := 4) (Nat.lt_succ_self _) hne (.slice qa da.length ca)).set (g := w.heap.size) (j := 5) (Nat.lt_succ_self _) hne (.slice q acc.length cap)).set (g := w.heap.size) (j := 6) (Nat.lt_succ_self _) hne (.slice qx bx.length kx)).mono (Nat.le_succ _))
            have HME := Lib.hid (((((((((hmr.mono (B' := w.heap.size + 1) (by have := HA6.out; have := HW67.out; omega)).set (g := w.heap.size) (j := 0) (Nat.lt_succ_self _) hne (.int .i64 xi)).set (g := w.heap.size) (j := 1) (Nat.lt_succ_self _) hne (.string (S xt))).set (g := w.heap.size) (j := 2) (Nat.lt_succ_self _) hne (.string (S xz))).set (g := w.heap.size) (j := 3) (Nat.lt_succ_self _) hne (.int .i64 xs)).set (g := w.heap.size) (j := 4) (Nat.lt_succ_self _) hne (.slice qa da.length ca)).set (g := w.heap.size) (j := 5) (Nat.lt_succ_self _) hne (.slice q acc.length cap)).set (g := w.heap.size) (j := 6) (Nat.lt_succ_self _) hne (.slice qx bx.length kx)).mono (Nat.le_succ _))
            have HNE := Lib.hid (NumsAt.set (NumsAt.set (NumsAt.set (NumsAt.set (NumsAt.set (NumsAt.set (NumsAt.set hnm w.heap.size hnq 0 (.int .i64 xi)) w.heap.size hnq 1 (.string (S xt))) w.heap.size hnq 2 (.string (S xz))) w.heap.size hnq 3 (.int .i64 xs)) w.heap.size hnq 4 (.slice qa da.length ca)) w.heap.size hnq 5 (.slice q acc.length cap)) w.heap.size hnq 6 (.slice qx bx.length kx))
            have HP := Lib.hid (heap_setCell_same _ w.heap.size 6 _ _ (.slice qx bx.length kx) (heap_setCell_same _ w.heap.size 5 _ _ (.slice q acc.length cap) (heap_setCell_same _ w.heap.size 4 _ _ (.slice qa da.length ca) (heap_setCell_same _ w.heap.size 3 _ _ (.int .i64 xs) (heap_setCell_same _ w.heap.size 2 _ _ (.string (S xz)) (heap_setCell_same _ w.heap.size 1 _ _ (.string (S xt)) (heap_setCell_same _ w.heap.size 0 _ _ (.int .i64 xi) hz)))))))
            have HSS := Lib.hid hss
            have HFE := Lib.hid (fun g off (e : q = some ⟨g, off, none⟩) (hn : acc ≠ []) => show w.heap.size ≤ g ∧ g ≠ r ∧ g < wr.heap.size from ⟨by have := (hfr g off e hn).1; have := HA6.out; omega, (hfr g off e hn).2.2.1, (hfr g off e hn).2.2.2⟩)
            have z0 := cell_of_row wr w.heap.size 0 _ _ (0, 0) hz
            have y0 := cell_of_row wr (w.heap.size + 1) 0 _ _ (0, 0) hx
            have z1 := cell_of_row wr w.heap.size 1 _ _ (0, 0) hz
            have y1 := cell_of_row wr (w.heap.size + 1) 1 _ _ (0, 0) hx
            have z2 := cell_of_row wr w.heap.size 2 _ _ (0, 0) hz
            have y2 := cell_of_row wr (w.heap.size + 1) 2 _ _ (0, 0) hx
            have z3 := cell_of_row wr w.heap.size 3 _ _ (0, 0) hz
            have y3 := cell_of_row wr (w.heap.size + 1) 3 _ _ (0, 0) hx
            have z4 := cell_of_row wr w.heap.size 4 _ _ (0, 0) hz
            have y4 := cell_of_row wr (w.heap.size + 1) 4 _ _ (0, 0) hx
            have z5 := cell_of_row wr w.heap.size 5 _ _ (0, 0) hz
            have y5 := cell_of_row wr (w.heap.size + 1) 5 _ _ (0, 0) hx
            have z6 := cell_of_row wr w.heap.size 6 _ _ (0, 0) hz
            have y6 := cell_of_row wr (w.heap.size + 1) 6 _ _ (0, 0) hx
            have fz := fun j => frozen_of_row wr w.heap.size j _ _ hz
            clear ht hz hx hva hnm hfr hmr hrl hs3 hss hne fzz hnq hw7 hbl hjn
            go_wp2_with fail
            refine bodyPost_ret (results_cell_row rfl _ _ w.heap.size _ _ _ _ rfl HP.out Try.underlying41 rfl (by kernel_rfl)) rfl (HPST.out _ _ ⟨qa, da, ca, q, acc, cap, qx, bx, kx, xi, xt, xz, xs, lj, bj, rfl, HSS.out, HTE.out, HVE.out, HNE.out, fun g off e hn => ⟨(HFE.out g off e hn).1, (HFE.out g off e hn).2.1, by have := (HFE.out g off e hn).2.2; simpa [World.setCell] using this⟩, HME.out⟩)
        · have hie2 : j = n2 := by omega
          have hji : ¬ (j : Int) < (n2 : Int) := by omega
          rw [hie2, Nat.sub_self] at hrl
          rw [hie2] at hji
          subst hie2
          have hs3 := hrl.fin
          rw [HXB.out] at hs3
          have hss := HSIMF.out _ _ _ _ _ _ _ _ _ SA.out SC.out hs3
          have hne : w.heap.size ≠ r := by have := HRL.out; omega
          have fzz : OffR r w.heap.size wr := ⟨hne, lt_of_heapV hz⟩
          have hnq : ∀ g off, q = some ⟨g, off, none⟩ → acc ≠ [] → g ≠ w.heap.size := fun g off e hn => by have := (hfr g off e hn).1; have := HA6.out; omega
          have HTE := Lib.hid (((((((ht.set HH.out (Nat.le_refl _) fzz 0 (.int .i64 xi)).set HH.out (Nat.le_refl _) (fzz.set (j := 0) hne (.int .i64 xi)) 1 (.string (S xt))).set HH.out (Nat.le_refl _) ((fzz.set (j := 0) hne (.int .i64 xi)).set (j := 1) hne (.string (S xt))) 2 (.string (S xz))).set HH.out (Nat.le_refl _) (((fzz.set (j := 0) hne (.int .i64 xi)).set (j := 1) hne (.string (S xt))).set (j := 2) hne (.string (S xz))) 3 (.int .i64 xs)).set HH.out (Nat.le_refl _) ((((fzz.set (j := 0) hne (.int .i64 xi)).set (j := 1) hne (.string (S xt))).set (j := 2) hne (.string (S xz))).set (j := 3) hne (.int .i64 xs)) 4 (.slice qa da.length ca)).set HH.out (Nat.le_refl _) (((((fzz.set (j := 0) hne (.int .i64 xi)).set (j := 1) hne (.string (S xt))).set (j := 2) hne (.string (S xz))).set (j := 3) hne (.int .i64 xs)).set (j := 4) hne (.slice qa da.length ca)) 5 (.slice q acc.length cap)).set HH.out (Nat.le_refl _) ((((((fzz.set (j := 0) hne (.int .i64 xi)).set (j := 1) hne (.string (S xt))).set (j := 2) hne (.string (S xz))).set (j := 3) hne (.int .i64 xs)).set (j := 4) hne (.slice qa da.length ca)).set (j := 5) hne (.slice q acc.length cap)) 6 (.slice qx bx.length kx))
          have HVE := Lib.hid (((((((((hva.mono (B' := w.heap.size + 1) (by omega)).set (g := w.heap.size) (j := 0) (Nat.lt_succ_self _) hne (.int .i64 xi)).set (g := w.heap.size) (j := 1) (Nat.lt_succ_self _) hne (.string (S xt))).set (g := w.heap.size) (j := 2) (Nat.lt_succ_self _) hne (.string (S xz))).set (g := w.heap.size) (j := 3) (Nat.lt_succ_self _) hne (.int .i64 xs)).set (g := w.heap.size) (j := 4) (Nat.lt_succ_self _) hne (.slice qa da.length ca)).set (g := w.heap.size) (j := 5) (Nat.lt_succ_self _) hne (.slice q acc.length cap)).set (g := w.heap.size) (j := 6) (Nat.lt_succ_self _) hne (.slice qx bx.length kx)).mono (Nat.le_succ _))
          have HME := Lib.hid (((((((((hmr.mono (B' := w.heap.size + 1) (by have := HA6.out; have := HW67.out; omega)).set (g := w.heap.size) (j := 0) (Nat.lt_succ_self _) hne (.int .i64 xi)).set (g := w.heap.size) (j := 1) (Nat.lt_succ_self _) hne (.string (S xt))).set (g := w.heap.size) (j := 2) (Nat.lt_succ_self _) hne (.string (S xz))).set (g := w.heap.size) (j := 3) (Nat.lt_succ_self _) hne (.int .i64 xs)).set (g := w.heap.size) (j := 4) (Nat.lt_succ_self _) hne (.slice qa da.length ca)).set (g := w.heap.size) (j := 5) (Nat.lt_succ_self _) hne (.slice q acc.length cap)).set (g := w.heap.size) (j := 6) (Nat.lt_succ_self _) hne (.slice qx bx.length kx)).mono (Nat.le_succ _))
          have HNE := Lib.hid (NumsAt.set (NumsAt.set (NumsAt.set (NumsAt.set (NumsAt.set (NumsAt.set (NumsAt.set hnm w.heap.size hnq 0 (.int .i64 xi)) w.heap.size hnq 1 (.string (S xt))) w.heap.size hnq 2 (.string (S xz))) w.heap.size hnq 3 (.int .i64 xs)) w.heap.size hnq 4 (.slice qa da.length ca)) w.heap.size hnq 5 (.slice q acc.length cap)) w.heap.size hnq 6 (.slice qx bx.length kx))
          have HP := Lib.hid (heap_setCell_same _ w.heap.size 6 _ _ (.slice qx bx.length kx) (heap_setCell_same _ w.heap.size 5 _ _ (.slice q acc.length cap) (heap_setCell_same _ w.heap.size 4 _ _ (.slice qa da.length ca) (heap_setCell_same _ w.heap.size 3 _ _ (.int .i64 xs) (heap_setCell_same _ w.heap.size 2 _ _ (.string (S xz)) (heap_setCell_same _ w.heap.size 1 _ _ (.string (S xt)) (heap_setCell_same _ w.heap.size 0 _ _ (.int .i64 xi) hz)))))))
          have HSS := Lib.hid hss
          have HFE := Lib.hid (fun g off (e : q = some ⟨g, off, none⟩) (hn : acc ≠ []) => show w.heap.size ≤ g ∧ g ≠ r ∧ g < wr.heap.size from ⟨by have := (hfr g off e hn).1; have := HA6.out; omega, (hfr g off e hn).2.2.1, (hfr g off e hn).2.2.2⟩)
          have z0 := cell_of_row wr w.heap.size 0 _ _ (0, 0) hz
          have y0 := cell_of_row wr (w.heap.size + 1) 0 _ _ (0, 0) hx
          have z1 := cell_of_row wr w.heap.size 1 _ _ (0, 0) hz
          have y1 := cell_of_row wr (w.heap.size + 1) 1 _ _ (0, 0) hx
          have z2 := cell_of_row wr w.heap.size 2 _ _ (0, 0) hz
          have y2 := cell_of_row wr (w.heap.size + 1) 2 _ _ (0, 0) hx
          have z3 := cell_of_row wr w.heap.size 3 _ _ (0, 0) hz
          have y3 := cell_of_row wr (w.heap.size + 1) 3 _ _ (0, 0) hx
          have z4 := cell_of_row wr w.heap.size 4 _ _ (0, 0) hz
          have y4 := cell_of_row wr (w.heap.size + 1) 4 _ _ (0, 0) hx
          have z5 := cell_of_row wr w.heap.size 5 _ _ (0, 0) hz
          have y5 := cell_of_row wr (w.heap.size + 1) 5 _ _ (0, 0) hx
          have z6 := cell_of_row wr w.heap.size 6 _ _ (0, 0) hz
          have y6 := cell_of_row wr (w.heap.size + 1) 6 _ _ (0, 0) hx
          have fz := fun j => frozen_of_row wr w.heap.size j _ _ hz
          clear ht hz hx hva hnm hfr hmr hrl hs3 hss hne fzz hnq hw7 hbl hjn
          go_wp2_with fail
          refine bodyPost_ret (results_cell_row rfl _ _ w.heap.size _ _ _ _ rfl HP.out Try.underlying41 rfl (by kernel_rfl)) rfl (HPST.out _ _ ⟨qa, da, ca, q, acc, cap, qx, bx, kx, xi, xt, xz, xs, lj, bj, rfl, HSS.out, HTE.out, HVE.out, HNE.out, fun g off e hn => ⟨(HFE.out g off e hn).1, (HFE.out g off e hn).2.1, by have := (HFE.out g off e hn).2.2; simpa [World.setCell] using this⟩, HME.out⟩)
end Go.Proofs.Ytkdhchdhgmaolaa.Dd
