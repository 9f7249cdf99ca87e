/-
  Several texts in one: EvNames, EvOwnP, EvOwnQ.
-/
import Derived.Test.YtchjckdjkecjnaaGreatDoorZTzY
import Derived.Deep.Upon
namespace Go.Proofs.YtchjckdjkecjnaaGreatDoor.Ev
open Go.RowKit
open Ex Lx Va Ty
set_option linter.unusedVariables false
set_option linter.unusedSimpArgs false

/-- Does a tree of a row name it? -/
def nmF (a : List UInt8) : F → Bool
  | .nil => false
  | .cons o n t x r => ((o == 6 && t == a) || nmF a x) || nmF a r
def nmT (a : List UInt8) (t : T) : Bool := (t.op == 6 && t.text == a) || nmF a t.args
theorem nmF_mem (a : List UInt8) : ∀ l : F, nmF a l = true ↔ a ∈ namesF 6 l
  | .nil => by simp [nmF, namesF]
  | .cons o n t x r => by
    have h1 := nmF_mem a x
    have h2 := nmF_mem a r
    unfold nmF namesF
    simp only [Bool.or_eq_true, Bool.and_eq_true, beq_iff_eq, List.mem_append, h1, h2]
    by_cases ho : o = 6
    · simp [ho, eq_comm]
    · simp [ho]
theorem nmT_mem (a : List UInt8) (t : T) : nmT a t = true ↔ a ∈ namesT 6 t := by
  unfold nmT namesT
  simp only [Bool.or_eq_true, Bool.and_eq_true, beq_iff_eq, List.mem_append, nmF_mem]
  by_cases ho : t.op = 6
  · simp [ho, eq_comm]
  · simp [ho]
def NmC (a : List UInt8) (w0 : World) (t : T) : Prop := ∀ (p : Option Addr) (c : Nat) (w : World), Below w0.heap.size w0 w → FAt w0 (fun _ => True) t.args p →
  Calls Tryz.prog 22 #[.agg #[.int .i64 t.op, .int .i64 t.num, .string (S t.text), .slice p t.args.len c], .string (S a)] w fun e w' => e = .returned (.bool (nmT a t)) ∧ Below w.heap.size w w'
def NmAll (a : List UInt8) (w0 : World) : F → Prop
  | .nil => True
  | .cons o n t x r => NmC a w0 ⟨o, n, t, x⟩ ∧ NmAll a w0 r

set_option maxRecDepth 100000 in
set_option maxHeartbeats 4000000 in
theorem names_tree (a : List UInt8) (w0 : World) (t : T) (hk : t.args.len ≤ 281474976710656) (hall : NmAll a w0 t.args) : NmC a w0 t := by
  intro p c w hw hfa
  obtain ⟨o0, num, tx, A⟩ := t
  simp only at hk hall hfa ⊢
  have hki : (A.len : Int) ≤ 281474976710656 := by omega
  have hT : nmT a ⟨o0, num, tx, A⟩ = ((o0 == 6 && tx == a) || nmF a A) := rfl
  have hb0 := (Below.refl w.heap.size w).alloc (Nat.le_refl _) (.cells #[.int .i64 o0, .int .i64 num, .string (S tx), .slice p A.len c] 28)
  have HB0 := Lib.hid hb0
  have HWW := Lib.hid (hw.trans (hb0.mono hw.size))
  have HSZ := Lib.hid hw.size
  have HALL := Lib.hid hall
  have HF := Lib.hid hfa
  have HT := Lib.hid hT
  have HBX := Lib.hid (Bx.new w (.int .i64 o0) (.int .i64 num) (.string (S tx)) (.slice p A.len c))
  clear hb0 hw hall hfa hT
  by_cases ho : o0 = 6
  · subst ho
    have hTb : nmT a ⟨6, num, tx, A⟩ = ((tx == a) || nmF a A) := by rw [HT.out]; simp
    have HT := Lib.hid hTb
    have hsb : ((S tx).toList == (S a).toList) = (tx == a) := Ty.S_beq tx a
    clear hTb
    obtain ⟨b1, hb1⟩ : ∃ b1, b1 = (tx == a) := ⟨_, rfl⟩
    rw [← hb1] at HT hsb
    clear hb1
    go_enter Tryz.func22, Tryz.ntmps22
    go_wp2_with fail
    go_loopw [5, 20] (fun ov iv wr => ∃ (i : Nat) (b : Bool) (r : F) (pr : Option Addr), ov = .bool b ∧ iv = .int .i64 i ∧ i + r.len = A.len ∧ NmAll a w0 r ∧ FAt w0 (fun _ => True) r pr ∧ (∀ g k, pr = some ⟨g, k, none⟩ → r ≠ .nil → ∃ k0, p = some ⟨g, k0, none⟩ ∧ k = k0 + 4 * i) ∧
      nmT a ⟨6, num, tx, A⟩ = (b || nmF a r) ∧ Below (w.alloc (.cells #[.int .i64 6, .int .i64 num, .string (S tx), .slice p A.len c] 28)).heap.size (w.alloc (.cells #[.int .i64 6, .int .i64 num, .string (S tx), .slice p A.len c] 28)) wr) (fun _ iv _ => A.len - (intOf iv).toNat)
    case atStart => exact ⟨0, b1, A, p, rfl, rfl, by omega, HALL.out, HF.out, (fun g k e _ => ⟨k, e, by omega⟩), HT.out, Below.refl _ _⟩
    case round =>
      obtain ⟨i, b, r, pr, rfl, rfl, hil, hal, hfr, hpr, hty, hbe⟩ := hrel
      cases r with
      | nil =>
        have hil2 : i = A.len := by simpa [F.len] using hil
        have hie : ¬ (i : Int) < (A.len : Int) := by omega
        have HTY := Lib.hid (show nmT a ⟨6, num, tx, A⟩ = b by rw [hty]; simp [nmF])
        have HBE := Lib.hid (HB0.out.trans (hbe.mono HB0.out.size))
        clear hbe hty hfr hpr hal
        go_wp2_with fail
        go_ret
        exact ⟨by rw [HTY.out]; try rfl, HBE.out⟩
      | cons o nm tt x r =>
        obtain ⟨g, k, qa, cc, rfl, _, hgl, f0, f1, f2, f3, hfa, hfr2⟩ := hfr
        obtain ⟨k0, rfl, rfl⟩ := hpr g k rfl (by intro e; cases e)
        have hil2 : i + (r.len + 1) = A.len := by simpa [F.len] using hil
        have hie : (i : Int) < (A.len : Int) := by omega
        rw [show k0 + 4 * i = k0 + i * 4 by omega] at f0 f1 f2 f3
        have hwr := HWW.out.trans (hbe.mono HWW.out.size)
        obtain ⟨f0, f1, f2, f3, _⟩ := (TC.mk f0 f1 f2 f3 hgl).later hwr
        have ba := (Below.refl wr.heap.size wr).alloc (Nat.le_refl _) (.cells #[.int .i64 o, .int .i64 nm, .string (S tt), .slice qa x.len cc] 28)
        have hcall := hal.1 qa cc (wr.alloc (.cells #[.int .i64 o, .int .i64 nm, .string (S tt), .slice qa x.len cc] 28)) (hwr.trans (ba.mono hwr.size)) hfa
        simp only at hcall
        have hcons : nmF a (.cons o nm tt x r) = (nmT a ⟨o, nm, tt, x⟩ || nmF a r) := rfl
        rw [hcons, ← Bool.or_assoc] at hty
        have HTY := Lib.hid hty
        have HFR := Lib.hid hfr2
        have HBA := Lib.hid (hbe.trans (ba.mono hbe.size))
        have HAL := Lib.hid hal.2
        have HCALL := Lib.hid hcall
        clear hcall hty hfr2 hfa hbe ba hal hpr hwr hcons
        generalize nmT a ⟨o, nm, tt, x⟩ = bb at *
        cases b with
        | true =>
          go_wp2_with fail
          go_roundw
          case rel => exact ⟨i + 1, true, r, some ⟨g, k0 + 4 * i + 4, none⟩, rfl, by go_num, by omega, HAL.out, HFR.out, (fun g' k' e _ => by injection e with e; injection e with e1 e2 _; subst e1 e2; exact ⟨k0, rfl, by omega⟩), by rw [HTY.out]; simp, HBA.out⟩
          case measure => simp [intOf]; omega
        | false =>
          go_wp2_with fail
          refine HCALL.out.mono ?_
          rintro e w5 ⟨rfl, b5⟩
          have HB5 := Lib.hid (HBA.out.trans (b5.mono HBA.out.size))
          clear b5
          go_wp2_with fail
          go_roundw
          case rel => exact ⟨i + 1, bb, r, some ⟨g, k0 + 4 * i + 4, none⟩, rfl, by go_num, by omega, HAL.out, HFR.out, (fun g' k' e _ => by injection e with e; injection e with e1 e2 _; subst e1 e2; exact ⟨k0, rfl, by omega⟩), by rw [HTY.out]; simp, HB5.out⟩
          case measure => simp [intOf]; omega
  · have ho6 : (o0 == 6) = false := by simpa using ho
    have hTb : nmT a ⟨o0, num, tx, A⟩ = (false || nmF a A) := by rw [HT.out, ho6]; simp
    have HT := Lib.hid hTb
    clear hTb ho
    go_enter Tryz.func22, Tryz.ntmps22
    go_wp2_with fail
    go_loopw [5, 20] (fun ov iv wr => ∃ (i : Nat) (b : Bool) (r : F) (pr : Option Addr), ov = .bool b ∧ iv = .int .i64 i ∧ i + r.len = A.len ∧ NmAll a w0 r ∧ FAt w0 (fun _ => True) r pr ∧ (∀ g k, pr = some ⟨g, k, none⟩ → r ≠ .nil → ∃ k0, p = some ⟨g, k0, none⟩ ∧ k = k0 + 4 * i) ∧
      nmT a ⟨o0, num, tx, A⟩ = (b || nmF a r) ∧ Below (w.alloc (.cells #[.int .i64 o0, .int .i64 num, .string (S tx), .slice p A.len c] 28)).heap.size (w.alloc (.cells #[.int .i64 o0, .int .i64 num, .string (S tx), .slice p A.len c] 28)) wr) (fun _ iv _ => A.len - (intOf iv).toNat)
    case atStart => exact ⟨0, false, A, p, rfl, rfl, by omega, HALL.out, HF.out, (fun g k e _ => ⟨k, e, by omega⟩), HT.out, Below.refl _ _⟩
    case round =>
      obtain ⟨i, b, r, pr, rfl, rfl, hil, hal, hfr, hpr, hty, hbe⟩ := hrel
      cases r with
      | nil =>
        have hil2 : i = A.len := by simpa [F.len] using hil
        have hie : ¬ (i : Int) < (A.len : Int) := by omega
        have HTY := Lib.hid (show nmT a ⟨o0, num, tx, A⟩ = b by rw [hty]; simp [nmF])
        have HBE := Lib.hid (HB0.out.trans (hbe.mono HB0.out.size))
        clear hbe hty hfr hpr hal
        go_wp2_with fail
        go_ret
        exact ⟨by rw [HTY.out]; try rfl, HBE.out⟩
      | cons o nm tt x r =>
        obtain ⟨g, k, qa, cc, rfl, _, hgl, f0, f1, f2, f3, hfa, hfr2⟩ := hfr
        obtain ⟨k0, rfl, rfl⟩ := hpr g k rfl (by intro e; cases e)
        have hil2 : i + (r.len + 1) = A.len := by simpa [F.len] using hil
        have hie : (i : Int) < (A.len : Int) := by omega
        rw [show k0 + 4 * i = k0 + i * 4 by omega] at f0 f1 f2 f3
        have hwr := HWW.out.trans (hbe.mono HWW.out.size)
        obtain ⟨f0, f1, f2, f3, _⟩ := (TC.mk f0 f1 f2 f3 hgl).later hwr
        have ba := (Below.refl wr.heap.size wr).alloc (Nat.le_refl _) (.cells #[.int .i64 o, .int .i64 nm, .string (S tt), .slice qa x.len cc] 28)
        have hcall := hal.1 qa cc (wr.alloc (.cells #[.int .i64 o, .int .i64 nm, .string (S tt), .slice qa x.len cc] 28)) (hwr.trans (ba.mono hwr.size)) hfa
        simp only at hcall
        have hcons : nmF a (.cons o nm tt x r) = (nmT a ⟨o, nm, tt, x⟩ || nmF a r) := rfl
        rw [hcons, ← Bool.or_assoc] at hty
        have HTY := Lib.hid hty
        have HFR := Lib.hid hfr2
        have HBA := Lib.hid (hbe.trans (ba.mono hbe.size))
        have HAL := Lib.hid hal.2
        have HCALL := Lib.hid hcall
        clear hcall hty hfr2 hfa hbe ba hal hpr hwr hcons
        generalize nmT a ⟨o, nm, tt, x⟩ = bb at *
        cases b with
        | true =>
          go_wp2_with fail
          go_roundw
          case rel => exact ⟨i + 1, true, r, some ⟨g, k0 + 4 * i + 4, none⟩, rfl, by go_num, by omega, HAL.out, HFR.out, (fun g' k' e _ => by injection e with e; injection e with e1 e2 _; subst e1 e2; exact ⟨k0, rfl, by omega⟩), by rw [HTY.out]; simp, HBA.out⟩
          case measure => simp [intOf]; omega
        | false =>
          go_wp2_with fail
          refine HCALL.out.mono ?_
          rintro e w5 ⟨rfl, b5⟩
          have HB5 := Lib.hid (HBA.out.trans (b5.mono HBA.out.size))
          clear b5
          go_wp2_with fail
          go_roundw
          case rel => exact ⟨i + 1, bb, r, some ⟨g, k0 + 4 * i + 4, none⟩, rfl, by go_num, by omega, HAL.out, HFR.out, (fun g' k' e _ => by injection e with e; injection e with e1 e2 _; subst e1 e2; exact ⟨k0, rfl, by omega⟩), by rw [HTY.out]; simp, HB5.out⟩
          case measure => simp [intOf]; omega
/-- All trees of a row. -/
theorem names_all (a : List UInt8) (w0 : World) : ∀ l : F, l.fits → NmAll a w0 l
  | .nil, _ => trivial
  | .cons o n t x r, h => ⟨names_tree a w0 ⟨o, n, t, x⟩ h.2.1 (names_all a w0 x h.2.2.1), names_all a w0 r h.2.2.2⟩
theorem names_any (a : List UInt8) (w0 : World) (t : T) (h : t.row.fits) : NmC a w0 t := (names_all a w0 t.row h).1

end Go.Proofs.YtchjckdjkecjnaaGreatDoor.Ev

namespace Go.Proofs.YtchjckdjkecjnaaGreatDoor.Ev
open Go.RowKit
open Ex Lx Va Ty
set_option linter.unusedVariables false
set_option linter.unusedSimpArgs false

theorem VRow.set {ok : Nat → Prop} {w : World} {H n : Nat} {l : List V} (h : VRow ok w H n l) (hok : ¬ ok H) (i : Nat) (hi : i < l.length) (hn : l.length ≤ n) (v : V) (a : Option Addr) (c : Nat) (hv : LAt ok w a v.list c) :
    VRow ok (putV w H i v a c) H n (l.set i v) := by
  have hk := putV_kept ok w H i v a c hok
  obtain ⟨cur, hb, hs, hc⟩ := h
  refine ⟨_, heap_setCell_same _ H _ _ _ _ (heap_setCell_same _ H _ _ _ _ (heap_setCell_same _ H _ _ _ _ (heap_setCell_same w H _ _ _ _ hb))), by simp [hs], fun j hj => ?_⟩
  rw [List.length_set] at hj
  by_cases e : j = i
  · subst e
    rw [List.getElem_set_self]
    refine ⟨a, c, ?_, ?_, ?_, ?_, hv.keep hk⟩
    · rw [Array.getElem?_setIfInBounds_ne (by omega), Array.getElem?_setIfInBounds_ne (by omega), Array.getElem?_setIfInBounds_ne (by omega), Array.getElem?_setIfInBounds_self_of_lt (by omega)]
    · rw [Array.getElem?_setIfInBounds_ne (by omega), Array.getElem?_setIfInBounds_ne (by omega), Array.getElem?_setIfInBounds_self_of_lt (by simp; omega)]
    · rw [Array.getElem?_setIfInBounds_ne (by omega), Array.getElem?_setIfInBounds_self_of_lt (by simp; omega)]
    · rw [Array.getElem?_setIfInBounds_self_of_lt (by simp; omega)]
  · obtain ⟨a', c', h0, h1, h2, h3, h4⟩ := hc j hj
    rw [List.getElem_set_ne (Ne.symm e)]
    refine ⟨a', c', ?_, ?_, ?_, ?_, h4.keep hk⟩
    · rw [Array.getElem?_setIfInBounds_ne (by omega), Array.getElem?_setIfInBounds_ne (by omega), Array.getElem?_setIfInBounds_ne (by omega), Array.getElem?_setIfInBounds_ne (by omega)]; exact h0
    · rw [Array.getElem?_setIfInBounds_ne (by omega), Array.getElem?_setIfInBounds_ne (by omega), Array.getElem?_setIfInBounds_ne (by omega), Array.getElem?_setIfInBounds_ne (by omega)]; exact h1
    · rw [Array.getElem?_setIfInBounds_ne (by omega), Array.getElem?_setIfInBounds_ne (by omega), Array.getElem?_setIfInBounds_ne (by omega), Array.getElem?_setIfInBounds_ne (by omega)]; exact h2
    · rw [Array.getElem?_setIfInBounds_ne (by omega), Array.getElem?_setIfInBounds_ne (by omega), Array.getElem?_setIfInBounds_ne (by omega), Array.getElem?_setIfInBounds_ne (by omega)]; exact h3
/-- A row's own copy; its values' lists are where they were. -/
theorem app_copy (ok : Nat → Prop) (w : World) (vs : List V) (hne : vs ≠ []) (hn : vs.length ≤ 100000) (b off cap : Nat) (hx : VsAt ok w (some ⟨b, off, none⟩) vs) :
    ∃ G c' w', (Builtin.append_ #[46, 46] 46 #[.slice none 0 0, .slice (some ⟨b, off, none⟩) vs.length cap]).run Tryz.prog w = .ok (.slice (some ⟨G, 0, none⟩) vs.length c') w' ∧
      VRow ok w' G c' vs ∧ vs.length ≤ c' ∧ w.heap.size ≤ G ∧ Below w.heap.size w w' := by
  obtain ⟨i0, hi, hz0, hz1, hz2⟩ := info_parts infoVal
  have hpos := List.length_pos_iff.2 hne
  have hcell : ∀ j, j < vs.length * 4 → ∃ u, w.cell? ⟨b, off + j, none⟩ = some u ∧ u.oneCell' = true := fun j hj => by
    obtain ⟨b', off', e, hv, hl⟩ := hx (j / 4) (by omega)
    obtain ⟨rfl, rfl⟩ : b = b' ∧ off = off' := by injection e with e; injection e with e1 e2 _; exact ⟨e1, e2⟩
    obtain ⟨a, c, h0, h1, h2, h3, _⟩ := hv
    have hj4 : j = j / 4 * 4 + j % 4 := by omega
    have hm : j % 4 = 0 ∨ j % 4 = 1 ∨ j % 4 = 2 ∨ j % 4 = 3 := by omega
    rcases hm with hm | hm | hm | hm
    · exact ⟨_, by rw [hj4, hm, Nat.add_zero]; exact h0, rfl⟩
    · exact ⟨_, by rw [hj4, hm, ← Nat.add_assoc]; exact h1, rfl⟩
    · exact ⟨_, by rw [hj4, hm, ← Nat.add_assoc]; exact h2, rfl⟩
    · exact ⟨_, by rw [hj4, hm, ← Nat.add_assoc]; exact h3, rfl⟩
  obtain ⟨news, hnl, hnews⟩ : ∃ news : List Value, news.length = vs.length * 4 ∧ ∀ j, j < vs.length * 4 → ∃ u, news[j]? = some u ∧ w.cell? ⟨b, off + j, none⟩ = some u ∧ u.oneCell' = true := by
    refine ⟨(List.range (vs.length * 4)).map fun j => (w.cell? ⟨b, off + j, none⟩).getD undef, by simp, fun j hj => ?_⟩
    obtain ⟨u, h1, h2⟩ := hcell j hj
    exact ⟨u, by simp [hj, h1], h1, h2⟩
  have hnat : ∀ j u, news[j]? = some u → w.cell? ((⟨b, off, none⟩ : Addr).add j) = some u := fun j u hu => by
    have hj := (List.getElem?_eq_some_iff.1 hu).1
    obtain ⟨u', h1, h2, _⟩ := hnews j (by omega)
    obtain rfl := Option.some.inj (hu.symm.trans h1)
    have hadd : (⟨b, off, none⟩ : Addr).add j = ⟨b, off + j, none⟩ := by unfold Addr.add; split <;> simp_all
    rw [hadd]; exact h2
  have h1 : ∀ u ∈ news, u.oneCell' = true := fun u hu => by
    obtain ⟨j, hj, rfl⟩ := List.getElem_of_mem hu
    obtain ⟨u', h1, _, h3⟩ := hnews j (by omega)
    rw [List.getElem?_eq_getElem hj] at h1
    obtain rfl := Option.some.inj h1
    exact h3
  obtain ⟨v', w', hr, ho, hg, _⟩ := run_append_own (P := Tryz.prog) w w.heap.size 46 46 45 i0 _ 4 56 Tryz.underlying46 hi hz0 hz1 hz2 rfl (by decide) (.slice none 0 0) 0 [] (World.ownsRow_nil _ _ _ _) ⟨b, off, none⟩ vs.length cap news hnl hnat h1 (by unfold maxLen; omega) (by omega) (Nat.le_refl _)
  have hbel := (Below.refl w.heap.size w).grown hg (Nat.le_refl _) (by simp [Value.ownBlock])
  rw [List.nil_append, Nat.zero_add] at ho
  rcases ho.2 with ⟨_, h0⟩ | ⟨G, c', cur, rfl, hB, hG, hnc, _, hcs, htk⟩
  · omega
  · refine ⟨G, c', w', hr, ⟨cur, hG, hcs, fun i hil => ?_⟩, hnc, hB, hbel⟩
    obtain ⟨b', off', e, hvv, _⟩ := hx i hil
    obtain ⟨rfl, rfl⟩ : b = b' ∧ off = off' := by injection e with e; injection e with e1 e2 _; exact ⟨e1, e2⟩
    obtain ⟨a, c, q0, q1, q2, q3, q4⟩ := hvv
    have get : ∀ r u, r < 4 → w.cell? ⟨b, off + i * 4 + r, none⟩ = some u → cur[i * 4 + r]? = some u := fun r u hr4 hu => by
      obtain ⟨u', n1, n2, _⟩ := hnews (i * 4 + r) (by omega)
      rw [← Nat.add_assoc, hu] at n2
      obtain rfl := Option.some.inj n2
      have hadd : (⟨G, 0, none⟩ : Addr).add (i * 4 + r) = ⟨G, i * 4 + r, none⟩ := by unfold Addr.add; split <;> simp_all
      have := World.ownsRow.cells ho (g := G) rfl (i * 4 + r) u n1
      rw [hadd, cell_of_row w' G _ _ _ (0, 0) hG] at this
      exact this
    exact ⟨a, c, get 0 _ (by omega) q0, get 1 _ (by omega) q1, get 2 _ (by omega) q2, get 3 _ (by omega) q3, q4.below hbel⟩

end Go.Proofs.YtchjckdjkecjnaaGreatDoor.Ev

namespace Go.Proofs.YtchjckdjkecjnaaGreatDoor.Ev
open Go.RowKit
open Ex Lx Va Ty
set_option linter.unusedVariables false
set_option linter.unusedSimpArgs false

theorem app_none (a : Option Addr) (c : Nat) (w : World) : (Builtin.append_ #[46, 46] 46 #[.slice none 0 0, .slice a 0 c]).run Tryz.prog w = .ok (.slice none 0 0) w := by
  obtain ⟨i0, hi, hz0, hz1, hz2⟩ := info_parts infoVal
  have ht := Tryz.underlying46
  cases a <;> simp [Builtin.append_, run_underlying ht, sizeOf, typeInfo, hi, Builtin.lenOf, Builtin.firstCells, storeCells, loadCells, go_sem]
/-- A row of values that an environment has, copied. -/
def Cpy (ok : Nat → Prop) (B : Nat) (w : World) (a : Option Addr) (c : Nat) (vs : List V) : Prop := vs = [] ∨ ∃ G, a = some ⟨G, 0, none⟩ ∧ B ≤ G ∧ vs.length ≤ c ∧ VRow ok w G c vs
theorem Cpy.later {ok : Nat → Prop} {B : Nat} {w w' : World} {a : Option Addr} {c : Nat} {vs : List V} (h : Cpy ok B w a c vs) (k : Below w.heap.size w w') : Cpy ok B w' a c vs := by
  rcases h with h | ⟨G, e, hB, hl, hr⟩
  · exact .inl h
  · exact .inr ⟨G, e, hB, hl, hr.later k⟩
theorem Cpy.vs {ok : Nat → Prop} {B : Nat} {w : World} {a : Option Addr} {c : Nat} {vs : List V} (h : Cpy ok B w a c vs) : VsAt ok w a vs := by
  rcases h with rfl | ⟨G, rfl, _, _, hr⟩
  · exact fun i hi => absurd hi (by simp)
  · exact hr.at_
theorem app_env (ok : Nat → Prop) (w : World) (vs : List V) (hn : vs.length ≤ 100000) (a : Option Addr) (cap : Nat) (hx : VsAt ok w a vs) :
    ∃ a' c' w', (Builtin.append_ #[46, 46] 46 #[.slice none 0 0, .slice a vs.length cap]).run Tryz.prog w = .ok (.slice a' vs.length c') w' ∧ Cpy ok w.heap.size w' a' c' vs ∧ Below w.heap.size w w' := by
  by_cases h0 : vs = []
  · subst h0
    exact ⟨none, 0, w, app_none a cap w, .inl rfl, Below.refl _ _⟩
  · obtain ⟨b, off, rfl, _⟩ := hx 0 (List.length_pos_iff.2 h0)
    obtain ⟨G, c', w', hr, h1, h2, h3, h4⟩ := app_copy ok w vs h0 hn b off cap hx
    exact ⟨_, c', w', hr, .inr ⟨G, rfl, h3, h2, h1⟩, h4⟩

/-- A variable of an environment, by its cells. -/
def EC (w : World) (H : Nat) (a b c d : Value) : Prop := w.heap[H]? = some (.cells #[a, b, c, d] 48 (0, 0))
section
variable {w w' : World} {H B : Nat} {a b c d : Value}
theorem EC.c0 (h : EC w H a b c d) : w.cell? ⟨H, 0, none⟩ = some a := cell_of_row w H 0 _ _ (0, 0) h
theorem EC.c1 (h : EC w H a b c d) : w.cell? ⟨H, 1, none⟩ = some b := cell_of_row w H 1 _ _ (0, 0) h
theorem EC.c2 (h : EC w H a b c d) : w.cell? ⟨H, 2, none⟩ = some c := cell_of_row w H 2 _ _ (0, 0) h
theorem EC.c3 (h : EC w H a b c d) : w.cell? ⟨H, 3, none⟩ = some d := cell_of_row w H 3 _ _ (0, 0) h
theorem EC.fz (h : EC w H a b c d) (j : Nat) : w.frozen? ⟨H, j, none⟩ = false := frozen_of_row w H j _ _ h
theorem EC.lt (h : EC w H a b c d) : H < w.heap.size := World.block_lt_of_cell? w _ h.c0
theorem EC.at_ (h : EC w H a b c d) (k : Below B w w') (hl : H < B) : EC w' H a b c d := (k.block H hl).trans h
theorem EC.set1 (h : EC w H a b c d) (b' : Value) : EC (w.setCell ⟨H, 1, none⟩ b') H a b' c d := heap_setCell_same w H 1 _ _ _ h
theorem EC.oth (h : EC w H a b c d) (H' j : Nat) (v : Value) (hn : H' ≠ H) : EC (w.setCell ⟨H', j, none⟩ v) H a b c d := (heap_setCell_other w ⟨H', j, none⟩ H v (fun e => hn (by simpa using e.symm))).trans h
end
theorem bx_atE {w w' : World} {H B : Nat} {a b c d : Value} (h : Bx w H a b c d) (k : Below B w w') (hl : H < B) : Bx w' H a b c d := (k.block H hl).trans h
theorem vb_atE {w w' : World} {H B : Nat} {a b c d : Value} (h : VB w H a b c d) (k : Below B w w') (hl : H < B) : VB w' H a b c d := (k.block H hl).trans h
theorem bx_othE {w : World} {H : Nat} {a b c d : Value} (h : Bx w H a b c d) (H' j : Nat) (v : Value) (hn : H' ≠ H) : Bx (w.setCell ⟨H', j, none⟩ v) H a b c d := (heap_setCell_other w ⟨H', j, none⟩ H v (fun e => hn (by simpa using e.symm))).trans h
theorem vb_othE {w : World} {H : Nat} {a b c d : Value} (h : VB w H a b c d) (H' j : Nat) (v : Value) (hn : H' ≠ H) : VB (w.setCell ⟨H', j, none⟩ v) H a b c d := (heap_setCell_other w ⟨H', j, none⟩ H v (fun e => hn (by simpa using e.symm))).trans h

theorem nums_at {B : Nat} {w w' : World} {a : Option Addr} {l : List Int} (h : NumsAt w a l) (hb : ∀ g off, a = some ⟨g, off, none⟩ → l ≠ [] → g < B) (k : Below B w w') : NumsAt w' a l := fun i hi => by
  obtain ⟨g, off, e, hc, hg⟩ := h i hi
  exact ⟨g, off, e, (k.cell (p := ⟨g, off + i, none⟩) (hb g off e (by intro e; subst e; simp at hi))).trans hc, Nat.lt_of_lt_of_le hg k.size⟩
theorem nums_lt {w : World} {a : Option Addr} {l : List Int} (h : NumsAt w a l) : ∀ g off, a = some ⟨g, off, none⟩ → l ≠ [] → g < w.heap.size := fun g off e hl => by
  obtain ⟨g', off', e', _, hg⟩ := h 0 (List.length_pos_iff.2 hl)
  rw [e] at e'
  injection e' with e'
  injection e' with e' _ _
  omega

end Go.Proofs.YtchjckdjkecjnaaGreatDoor.Ev
