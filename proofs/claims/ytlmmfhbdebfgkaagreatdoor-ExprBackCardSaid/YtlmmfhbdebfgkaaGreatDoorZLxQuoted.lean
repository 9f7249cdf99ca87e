/-
  LxQuoted.
-/
import Derived.Test.YtlmmfhbdebfgkaaGreatDoorZLxUnquoQ
import Derived.Test.YtlmmfhbdebfgkaaGreatDoorZVlPrintQ
import Derived.Deep.RegionHeld3
import Derived.Deep.RegionWith
namespace Go.Proofs.YtlmmfhbdebfgkaaGreatDoor.Lx
open Go.RowKit
open Va
def quoM (l : List UInt8) : Option Tok := match quo ((l.drop 1).length + 1) (l.drop 1) with
  | none => none
  | some (t, n) => if t.length ≤ 64 then some ⟨3, t, 0, n + 1⟩ else none
theorem right_text (t : List UInt8) : rightB ⟨3, 0, t, []⟩ = decide (t.length ≤ 64) := by
  unfold rightB
  simp
theorem print_text (t : List UInt8) : printV ⟨3, 0, t, []⟩ = 34 :: (escT t ++ [34]) := rfl
theorem quoM_yes (l t0 : List UInt8) (k : Nat) (h : Unq (l.drop 1) t0 k) (ht : t0.length ≤ 64) (e : (l.drop 1).take (k + 1) = escT t0 ++ [34]) :
    quoM l = some ⟨3, t0, 0, k + 2⟩ ∧ k + 2 ≤ (l.drop 1).length + 1 := by
  have h2 := (loose_end _ _ _ h.loose h.le h.stop).2 e
  refine ⟨by unfold quoM; rw [h2]; simp only [if_pos ht], ?_⟩
  have hl := congrArg List.length e
  rw [List.length_take] at hl
  simp only [List.length_append, List.length_cons, List.length_nil] at hl
  have hle := h.le
  rcases Nat.lt_or_ge k (l.drop 1).length with hk | hk
  · omega
  · exfalso
    have hkk : k = (l.drop 1).length := by omega
    have h3 := quo_len _ _ _ _ h2
    omega
theorem quoM_no (l t0 : List UInt8) (k : Nat) (h : Unq (l.drop 1) t0 k) (e : (l.drop 1).take (k + 1) ≠ escT t0 ++ [34]) : quoM l = none := by
  unfold quoM
  cases hq : quo ((l.drop 1).length + 1) (l.drop 1) with
  | none => rfl
  | some tn =>
    obtain ⟨t, n⟩ := tn
    obtain ⟨rfl, rfl, h3⟩ := (loose_end _ _ _ h.loose h.le h.stop).1 t n hq
    exact absurd h3 e
theorem quoM_long (l t0 : List UInt8) (k : Nat) (h : Unq (l.drop 1) t0 k) (ht : ¬ t0.length ≤ 64) : quoM l = none := by
  unfold quoM
  cases hq : quo ((l.drop 1).length + 1) (l.drop 1) with
  | none => rfl
  | some tn =>
    obtain ⟨t, n⟩ := tn
    obtain ⟨rfl, _, _⟩ := (loose_end _ _ _ h.loose h.le h.stop).1 t n hq
    simp only [if_neg ht]
def valO (t : List UInt8) : Obj := .cells #[.int .i64 3, .int .i64 0, .string (S t), .slice none 0 0] 52
theorem vbox_here (w : World) (t : List UInt8) (w1 : World) (g : Good (w.alloc (valO t)) w1) :
    w1.cell? ⟨w.heap.size, 0, none⟩ = some (.int .i64 3) ∧ w1.cell? ⟨w.heap.size, 1, none⟩ = some (.int .i64 0) ∧ w1.cell? ⟨w.heap.size, 2, none⟩ = some (.string (S t)) ∧ w1.cell? ⟨w.heap.size, 3, none⟩ = some (.slice none 0 0) := by
  have h0 := heap_alloc_new w (valO t)
  have h := (g.block w.heap.size (lt_of_heapV h0)).trans h0
  exact ⟨(cell_of_row w1 _ 0 _ _ (0, 0) h).trans rfl, (cell_of_row w1 _ 1 _ _ (0, 0) h).trans rfl, (cell_of_row w1 _ 2 _ _ (0, 0) h).trans rfl, (cell_of_row w1 _ 3 _ _ (0, 0) h).trans rfl⟩
set_option linter.unusedSimpArgs false
set_option maxRecDepth 100000 in
set_option maxHeartbeats 6400000 in
theorem quoted_any (s : ByteArray) (hs : s.size ≤ 100000) (h34 : s.data.toList.head? = some 34) (w : World) (he : ErrAt w 6) (htab : Tab w) :
    Calls Tryz.prog 75 #[.string s] w fun e w' => e = .returned (ansV (quoM s.data.toList)) ∧ Below w.heap.size w w' := by
  have hls := list_size s
  have hs1 : 1 ≤ s.size := by
    rw [← hls]
    cases h : s.data.toList with
    | nil => rw [h] at h34; cases h34
    | cons => simp
  have hb0 := (Below.refl w.heap.size w).alloc (Nat.le_refl _) (tokO 0 [] 0 0)
  have HG0 := Lib.hid (Good.refl (w.alloc (tokO 0 [] 0 0)))
  have HBOX := Lib.hid (box_here w 0 [] 0 0)
  have HFIN := Lib.hid (fun (wr : World) (h : Good (w.alloc (tokO 0 [] 0 0)) wr) => hb0.trans (h.mono (by simp)))
  have HUQ := Lib.hid (unquote_any s hs hs1 (w.alloc (tokO 0 [] 0 0)) (he.below hb0))
  have HRI := Lib.hid (fun (t : List UInt8) (ht : t.length ≤ 100000) (wr : World) => show Calls Tryz.prog 127 #[.agg #[.int .i64 3, .int .i64 0, .string (S t), .slice none 0 0]] wr fun e w' => e = .returned (.bool (rightB ⟨3, 0, t, []⟩)) ∧ Below wr.heap.size wr w' from Right_any ⟨3, 0, t, []⟩ ⟨by simp only; omega, by simp⟩ none 0 wr (NumsAt_nil _ _))
  have HPR := Lib.hid (fun (t : List UInt8) (ht : t.length ≤ 64) (wr : World) (h : Good (w.alloc (tokO 0 [] 0 0)) wr) => show Calls Tryz.prog 66 #[.agg #[.int .i64 3, .int .i64 0, .string (S t), .slice none 0 0]] wr fun e w' => e = .returned (.string (S (printV ⟨3, 0, t, []⟩))) ∧ Below wr.heap.size wr w' from Print_any ⟨3, 0, t, []⟩ ⟨by simp only; omega, by simp only; omega, by simp, by simp⟩ (by rw [right_text]; simpa using ht) none 0 wr (NumsAt_nil _ _) (htab.below (hb0.trans (h.mono (by simp)))))
  have HVB := Lib.hid vbox_here
  have HEX := Lib.hid (fun (k : Nat) => show s.extract 0 (min (k + 2) s.size) = S (34 :: (s.data.toList.drop 1).take (k + 1)) from by
    rw [S_extract, List.drop_zero, Nat.sub_zero]
    congr 1
    cases h : s.data.toList with
    | nil => rw [h] at h34; cases h34
    | cons c r =>
      rw [h] at h34
      obtain rfl : c = 34 := by simpa using h34
      have hr : r.length + 1 = s.size := by rw [← hls, h]; simp
      rw [List.drop_one, List.tail_cons, ← hr, show min (k + 2) (r.length + 1) = (min (k + 1) r.length) + 1 by omega, List.take_succ_cons]
      congr 1
      rcases Nat.le_total (k + 1) r.length with hk | hk
      · rw [Nat.min_eq_left hk]
      · rw [Nat.min_eq_right hk, List.take_of_length_le (Nat.le_refl _), List.take_of_length_le hk])
  have HL := Lib.hid (show (s.data.toList.drop 1).length + 1 = s.size by rw [List.length_drop, hls]; omega)
  have hsj : (s.size : Int) ≤ 100000 := by omega
  clear he htab hls h34 hb0
  go_enter Tryz.func75, Tryz.ntmps75
  go_wp2_with fail
  refine HUQ.out.mono ?_
  rintro e w1 ⟨⟨t0, k, hq, rfl⟩, b1⟩
  have HQ := Lib.hid hq
  have HG1 := Lib.hid (HG0.out.step b1)
  obtain ⟨W2, hW2⟩ : ∃ W2, W2 = w1.alloc (valO t0) := ⟨_, rfl⟩
  have HW2 := Lib.hid hW2
  have HSTP := Lib.hid (fun (wr : World) (h : Good W2 wr) => show Good (w.alloc (tokO 0 [] 0 0)) wr from HG1.out.step (((Below.refl w1.heap.size w1).alloc (Nat.le_refl _) (valO t0)).trans (by rw [hW2] at h; exact h.mono (by simp))))
  have HG3 := Lib.hid (Good.refl W2)
  have HKP := Lib.hid (fun (wr : World) (h : Good W2 wr) => HVB.out w1 t0 wr (by rw [← hW2]; exact h))
  clear hW2
  have htl : t0.length ≤ 100000 := by have := hq.len; have := hq.le; have := HL.out; omega
  have hn0 : ((min (k + 2) s.size : Nat) : Int) ≤ (s.size : Int) := by omega
  have hn00 : (0 : Int) ≤ ((min (k + 2) s.size : Nat) : Int) := by omega
  have hex := HEX.out k
  generalize hn : min (k + 2) s.size = N at *
  have HN := Lib.hid hn
  clear hn hq b1
  by_cases ht : t0.length ≤ 64
  · have hRT := HRI.out t0 htl
    rw [right_text, show decide (t0.length ≤ 64) = true by simpa using ht] at hRT
    have HRT := Lib.hid (fun (wr : World) (h : Good W2 wr) => (hRT wr).mono fun e w' (⟨he, hb⟩ : _ ∧ _) => (⟨he, h.step hb⟩ : e = _ ∧ Good W2 w'))
    have hPT := HPR.out t0 ht
    rw [print_text] at hPT
    obtain ⟨p, hp⟩ : ∃ p, S (34 :: (escT t0 ++ [34])) = p := ⟨_, rfl⟩
    rw [hp] at hPT
    have HPT := Lib.hid (fun (wr : World) (h : Good W2 wr) => (hPT wr (HSTP.out wr h)).mono fun e w' (⟨he, hb⟩ : _ ∧ _) => (⟨he, h.step hb⟩ : e = _ ∧ Good W2 w'))
    clear hRT hPT
    by_cases heq : (s.data.toList.drop 1).take (k + 1) = escT t0 ++ [34]
    · obtain ⟨hy1, hy2⟩ := quoM_yes _ _ _ HQ.out ht heq
      have hNk : N = k + 2 := by have := HN.out; have := HL.out; omega
      rw [← hNk] at hy1
      have HR := Lib.hid hy1
      rw [heq, hp] at hex
      have hpp : (p.toList == p.toList) = true := by simp
      clear hp heq hy1 hy2 ht HEX HPR HRI HUQ
      clear hNk
      go_wp2_with fail
      have hw2 := HW2.out
      unfold valO at hw2
      rw [← hw2]
      clear hw2
      have HST := Lib.hid (HKP.out _ HG3.out.drew)
      go_region_held3 (fun w7 => (w7.cell? ⟨w1.heap.size, 0, none⟩ = some (.int .i64 3) ∧ w7.cell? ⟨w1.heap.size, 1, none⟩ = some (.int .i64 0) ∧ w7.cell? ⟨w1.heap.size, 2, none⟩ = some (.string (S t0)) ∧ w7.cell? ⟨w1.heap.size, 3, none⟩ = some (.slice none 0 0)))
        (first | assumption | exact HST.out | exact HK7.out)
        (first
          | (go_at_call 127; with_reducible refine (HRT.out _ (by first | exact good_id (by assumption) | exact good_drew (by assumption))).mono ?_; rintro e w7 ⟨rfl, b7⟩; have HG7 := Lib.hid b7; have HK7 := Lib.hid (HKP.out _ b7); clear b7)
          | (go_at_call 66; with_reducible refine (HPT.out _ (by first | exact good_id (by assumption) | exact good_drew (by assumption))).mono ?_; rintro e w7 ⟨rfl, b7⟩; have HG7 := Lib.hid b7; have HK7 := Lib.hid (HKP.out _ b7); clear b7))
      all_goals
        have HGE := Lib.hid (HSTP.out _ (by first | exact good_id (by assumption) | exact good_drew (by assumption)))
        obtain ⟨⟨c0, c1, c2, c3⟩, f0, f1, f2, f3⟩ := HBOX.out _ HGE.out
        go_wp2_with fail
        rw [HR.out]
        obtain ⟨d0, d1, d2, d3⟩ := put4 c0 c1 c2 c3 (.int .i64 3) (.string (S t0)) (.int .i64 0) (.int .i64 0)
        exact bodyPost_ret (v := ansV (some ⟨3, t0, 0, N⟩)) (by simp [results, d0, d1, d2, d3, Tryz.results75, go_sem, ansV, tokC]) rfl ⟨rfl, (((((HFIN.out _ HGE.out).setCell (p := ⟨w.heap.size, 0, none⟩) (Nat.le_refl _) _).setCell (p := ⟨w.heap.size, 1, none⟩) (Nat.le_refl _) _).setCell (p := ⟨w.heap.size, 2, none⟩) (Nat.le_refl _) _).setCell (p := ⟨w.heap.size, 3, none⟩) (Nat.le_refl _) _)⟩
    · have HR := Lib.hid (quoM_no _ _ _ HQ.out heq)
      have hpp : (p.toList == (s.extract 0 N).toList) = false := by
        rw [beq_eq_false_iff_ne, hex, ← hp, ByteArray.toList_eq, ByteArray.toList_eq, S_toList, S_toList]
        intro e
        exact heq (List.cons.inj e).2.symm
      clear hp heq ht HEX HPR HRI HUQ hex
      go_wp2_with fail
      have hw2 := HW2.out
      unfold valO at hw2
      rw [← hw2]
      clear hw2
      have HST := Lib.hid (HKP.out _ HG3.out.drew)
      go_region_held3 (fun w7 => (w7.cell? ⟨w1.heap.size, 0, none⟩ = some (.int .i64 3) ∧ w7.cell? ⟨w1.heap.size, 1, none⟩ = some (.int .i64 0) ∧ w7.cell? ⟨w1.heap.size, 2, none⟩ = some (.string (S t0)) ∧ w7.cell? ⟨w1.heap.size, 3, none⟩ = some (.slice none 0 0)))
        (first | assumption | exact HST.out | exact HK7.out)
        (first
          | (go_at_call 127; with_reducible refine (HRT.out _ (by first | exact good_id (by assumption) | exact good_drew (by assumption))).mono ?_; rintro e w7 ⟨rfl, b7⟩; have HG7 := Lib.hid b7; have HK7 := Lib.hid (HKP.out _ b7); clear b7)
          | (go_at_call 66; with_reducible refine (HPT.out _ (by first | exact good_id (by assumption) | exact good_drew (by assumption))).mono ?_; rintro e w7 ⟨rfl, b7⟩; have HG7 := Lib.hid b7; have HK7 := Lib.hid (HKP.out _ b7); clear b7))
      all_goals
        have HGE := Lib.hid (HSTP.out _ (by first | exact good_id (by assumption) | exact good_drew (by assumption)))
        obtain ⟨⟨c0, c1, c2, c3⟩, f0, f1, f2, f3⟩ := HBOX.out _ HGE.out
        go_wp2_with fail
        rw [HR.out]
        obtain ⟨d0, d1, d2, d3⟩ := put4 c0 c1 c2 c3 (.int .i64 0) (.string ⟨#[]⟩) (.int .i64 0) (.int .i64 0)
        exact bodyPost_ret (v := ansV none) (by simp [results, d0, d1, d2, d3, S, Tryz.results75, go_sem, ansV, tokC]) rfl ⟨rfl, (((((HFIN.out _ HGE.out).setCell (p := ⟨w.heap.size, 0, none⟩) (Nat.le_refl _) _).setCell (p := ⟨w.heap.size, 1, none⟩) (Nat.le_refl _) _).setCell (p := ⟨w.heap.size, 2, none⟩) (Nat.le_refl _) _).setCell (p := ⟨w.heap.size, 3, none⟩) (Nat.le_refl _) _)⟩
  · have HR := Lib.hid (quoM_long _ _ _ HQ.out ht)
    have hRT := HRI.out t0 htl
    rw [right_text, show decide (t0.length ≤ 64) = false by simpa using ht] at hRT
    have HRT := Lib.hid (fun (wr : World) (h : Good W2 wr) => (hRT wr).mono fun e w' (⟨he, hb⟩ : _ ∧ _) => (⟨he, h.step hb⟩ : e = _ ∧ Good W2 w'))
    clear hRT ht HEX HPR HRI HUQ hex
    go_wp2_with fail
    have hw2 := HW2.out
    unfold valO at hw2
    rw [← hw2]
    clear hw2
    have HST := Lib.hid (HKP.out _ HG3.out.drew)
    obtain ⟨v0, v1, v2, v3⟩ := HST.out
    first
      | (go_region_with ((go_at_call 127; with_reducible refine (HRT.out _ (by first | exact good_id (by assumption) | exact good_drew (by assumption))).mono ?_; rintro e w7 ⟨rfl, b7⟩; have HG7 := Lib.hid b7; obtain ⟨v0, v1, v2, v3⟩ := HKP.out _ b7; clear b7)))
      | fail
    all_goals
      have HGE := Lib.hid (HSTP.out _ (by first | exact good_id (by assumption) | exact good_drew (by assumption)))
      obtain ⟨⟨c0, c1, c2, c3⟩, f0, f1, f2, f3⟩ := HBOX.out _ HGE.out
      go_wp2_with fail
      rw [HR.out]
      obtain ⟨d0, d1, d2, d3⟩ := put4 c0 c1 c2 c3 (.int .i64 0) (.string ⟨#[]⟩) (.int .i64 0) (.int .i64 0)
      exact bodyPost_ret (v := ansV none) (by simp [results, d0, d1, d2, d3, S, Tryz.results75, go_sem, ansV, tokC]) rfl ⟨rfl, (((((HFIN.out _ HGE.out).setCell (p := ⟨w.heap.size, 0, none⟩) (Nat.le_refl _) _).setCell (p := ⟨w.heap.size, 1, none⟩) (Nat.le_refl _) _).setCell (p := ⟨w.heap.size, 2, none⟩) (Nat.le_refl _) _).setCell (p := ⟨w.heap.size, 3, none⟩) (Nat.le_refl _) _)⟩
end Go.Proofs.YtlmmfhbdebfgkaaGreatDoor.Lx
