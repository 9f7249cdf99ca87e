/-
  The document's reader: a count.
-/
import Derived.Test.YtkdhchdhgmaolaaZTzP
import Derived.Test.YtkdhchdhgmaolaaZPkText
import Derived.Test.YtkdhchdhgmaolaaZPkRead
import Derived.Test.YtkdhchdhgmaolaaZVaOrder
import Derived.Test.YtkdhchdhgmaolaaZUntil
namespace Go.Proofs.Ytkdhchdhgmaolaa.Dd
open Go.RowKit
open Pk Va
set_option linter.unusedVariables false
set_option linter.unusedSimpArgs false

/-- The reader in block g: its bytes, its place, the error that is kept. -/
def DrAt (w : World) (g : Nat) (b : ByteArray) (at_ bad : Nat) : Prop :=
  w.heap[g]? = some (.cells #[.string b, .int .i64 (at_ : Int), .int .i64 (bad : Int)] 87 (0, 0))
section
variable {w w' : World} {g at_ bad : Nat} {b : ByteArray}
theorem DrAt.c0 (h : DrAt w g b at_ bad) : w.cell? ⟨g, 0, none⟩ = some (.string b) := cell_of_row w g 0 _ _ (0, 0) h
theorem DrAt.c1 (h : DrAt w g b at_ bad) : w.cell? ⟨g, 1, none⟩ = some (.int .i64 (at_ : Int)) := cell_of_row w g 1 _ _ (0, 0) h
theorem DrAt.c2 (h : DrAt w g b at_ bad) : w.cell? ⟨g, 2, none⟩ = some (.int .i64 (bad : Int)) := cell_of_row w g 2 _ _ (0, 0) h
theorem DrAt.f0 (h : DrAt w g b at_ bad) (j : Nat) : w.frozen? ⟨g, j, none⟩ = false := frozen_of_row w g j _ _ h
theorem DrAt.lt (h : DrAt w g b at_ bad) : g < w.heap.size := lt_of_heapV h
theorem DrAt.below (h : DrAt w g b at_ bad) (k : Below w.heap.size w w') : DrAt w' g b at_ bad := (k.block g h.lt).trans h
theorem DrAt.set1 (h : DrAt w g b at_ bad) (a : Nat) : DrAt (w.setCell ⟨g, 1, none⟩ (.int .i64 (a : Int))) g b a bad := heap_setCell_same w g 1 _ _ _ h
theorem DrAt.set2 (h : DrAt w g b at_ bad) (e : Nat) : DrAt (w.setCell ⟨g, 2, none⟩ (.int .i64 (e : Int))) g b at_ e := heap_setCell_same w g 2 _ _ _ h
end
/-- What count answers. -/
def cntR (l : List UInt8) (a : Nat) : Nat × Nat × Nat := if (decC l).2.2 ≠ 0 then (0, 0, (decC l).2.2) else ((decC l).1, a + (decC l).2.1, 0)
theorem last_iff (l : List UInt8) (k acc : Nat) (c : UInt8) (hd : decC l = (addB acc c k, k + 1, lastErr k c)) (hlt : addB acc c k < 2 ^ 64) : (enc (addB acc c k) = l.take (k + 1)) ↔ lastErr k c = 0 := by
  constructor
  · intro h
    have h2 := dec_enc (addB acc c k) hlt (l.drop (k + 1))
    rw [h, List.take_append_drop, hd] at h2
    exact (Prod.mk.inj (Prod.mk.inj h2).2).2
  · intro h
    rw [h] at hd
    exact (enc_dec l _ _ hd).2.2
theorem extract_list (b : ByteArray) (i j : Nat) : (b.extract i j).data.toList = (b.data.toList.drop i).take (j - i) := by
  simp [ByteArray.data_extract, Array.toList_extract, List.extract_eq_take_drop]
theorem shl_V (acc : Nat) (c : UInt8) (k : Nat) (hacc : acc < 128 ^ k) (hk : k < 10) (h9 : ¬ (k = 9 ∧ 1 < c.toNat)) :
    IntKind.u64.wrap ((acc : Int) + IntKind.u64.wrap ((c.toNat : Int) % 128 * 2 ^ (7 * k))) = ((addB acc c k : Nat) : Int) ∧ addB acc c k < 128 ^ (k + 1) ∧ addB acc c k < 2 ^ 64 := by
  have hc := c.toNat_lt
  have e128 : (128 : Nat) ^ k = 2 ^ (7 * k) := by rw [Nat.pow_mul]
  have hb : c.toNat % 128 * 128 ^ k + 128 ^ k ≤ 2 ^ 64 := by
    have h10 : k = 0 ∨ k = 1 ∨ k = 2 ∨ k = 3 ∨ k = 4 ∨ k = 5 ∨ k = 6 ∨ k = 7 ∨ k = 8 ∨ k = 9 := by omega
    rcases h10 with rfl | rfl | rfl | rfl | rfl | rfl | rfl | rfl | rfl | rfl <;> simp <;> omega
  have he := addB_eq acc k c hacc (by omega)
  have e1 : IntKind.u64.wrap ((c.toNat : Int) % 128 * 2 ^ (7 * k)) = ((c.toNat % 128 * 128 ^ k % 2 ^ 64 : Nat) : Int) := by
    rw [IntKind.wrap_u64, e128]
    simp
  rw [e1, he]
  have h127 := Nat.mul_le_mul_right (128 ^ k) (show c.toNat % 128 ≤ 127 by omega)
  have hp : 128 ^ (k + 1) = 128 ^ k * 128 := Nat.pow_succ 128 k
  rw [hp]
  clear hp e1 he e128
  generalize c.toNat % 128 * 128 ^ k = m at *
  generalize 128 ^ k = q at *
  have hm : m % 2 ^ 64 = m := Nat.mod_eq_of_lt (by omega)
  rw [hm, IntKind.wrap_u64]
  refine ⟨by omega, by omega, by omega⟩

theorem get_cast (b : ByteArray) (i j : Nat) (h : i = j) (hi : i < b.size) (hj : j < b.size) : b[i]'hi = b[j]'hj := by subst h; rfl

set_option maxRecDepth 100000 in
set_option maxHeartbeats 4000000 in
theorem rcount_any (g : Nat) (b : ByteArray) (hb : b.size ≤ 2000000) (at_ : Nat) (hat : at_ ≤ b.size) (bad : Nat) (w : World) (h : DrAt w g b at_ bad) :
    Calls Try.prog 87 #[.pointer (some ⟨g, 0, none⟩)] w fun e w' =>
      e = .returned (.tuple #[.int .u64 ((cntR (b.data.toList.drop at_) at_).1 : Nat), .int .i64 ((cntR (b.data.toList.drop at_) at_).2.1 : Nat), .int .i64 ((cntR (b.data.toList.drop at_) at_).2.2 : Nat)]) ∧ Below w.heap.size w w' := by
  have hsz : b.data.toList.length = b.size := by simp
  obtain ⟨l, hl⟩ : ∃ l, l = b.data.toList.drop at_ := ⟨_, rfl⟩
  have hll : l.length = b.size - at_ := by rw [hl, List.length_drop, hsz]
  have hget : ∀ k (hk : at_ + k < b.size), l.getD k 0 = b[at_ + k] := fun k hk => by
    rw [← getElem_list b (at_ + k) hk, hl]
    simp [List.getD, List.getElem?_drop]
  have hsub : ∀ k, b.extract at_ (at_ + k + 1) = S (l.take (k + 1)) := fun k => by
    rw [S_extract, ← hl, show at_ + k + 1 - at_ = k + 1 by omega]
  rw [← hl]
  obtain ⟨r, hr⟩ : ∃ r, cntR l at_ = r := ⟨_, rfl⟩
  rw [hr]
  have HR := Lib.hid hr
  have HD := Lib.hid h
  have HG := Lib.hid hget
  have HS := Lib.hid hsub
  have HL := Lib.hid hll
  clear hr h hget hsub hsz hl hll
  go_enter Try.func87, Try.ntmps87
  go_wp2_with fail
  go_loopw [5, 6] (fun n i wr => ∃ k acc : Nat, k ≤ 10 ∧ i = .int .i64 k ∧ n = .int .u64 (acc : Int) ∧ at_ + k ≤ b.size ∧ Hid (acc < 128 ^ k ∧ dec l (10 - k) k acc = decC l) ∧ Below w.heap.size w wr) (fun _ i _ => 10 - (intOf i).toNat)
  case atStart => exact ⟨0, 0, by omega, rfl, rfl, by omega, Lib.hid ⟨by simp, rfl⟩, Below.refl _ _⟩
  case round =>
    obtain ⟨k, acc, hk, rfl, rfl, hak, hdec, hbel⟩ := hrel
    have HB := Lib.hid hbel
    have HDE := Lib.hid hdec
    clear hbel hdec
    by_cases hlt : k < 10
    · have hf : 10 - k = (9 - k) + 1 := by omega
      have hki : (k : Int) < 10 := by omega
      have hd2 := HD.out.below HB.out
      have p0 := hd2.c0
      have p1 := hd2.c1
      have HBD := Lib.hid (show Below w.heap.size w wr.drew from ⟨HB.out.os, HB.out.tape, HB.out.output, HB.out.size, HB.out.block⟩)
      have HKEEP := Lib.hid (fun W (k : Below w.heap.size w W) => show W.cell? ⟨g, 0, none⟩ = some (.string b) ∧ W.cell? ⟨g, 1, none⟩ = some (.int .i64 (at_ : Int)) from ⟨(HD.out.below k).c0, (HD.out.below k).c1⟩)
      have HST := Lib.hid (HKEEP.out _ HBD.out)
      have hwr : IntKind.i64.wrap ((at_ : Int) + (k : Int)) = (at_ : Int) + (k : Int) := by rw [IntKind.wrap_i64]; omega
      have hwr1 : IntKind.i64.wrap ((at_ : Int) + (k : Int) + 1) = (at_ : Int) + (k : Int) + 1 := by rw [IntKind.wrap_i64]; omega
      by_cases he : at_ + k = b.size
      · have hge : (b.size : Int) ≤ (at_ : Int) + (k : Int) := by omega
        have hd := HDE.out.out.2
        rw [hf, dec_short _ _ _ _ (by rw [HL.out]; omega)] at hd
        have hr : r = (0, 0, 3) := by rw [← HR.out]; unfold cntR; rw [← hd]; rfl
        subst hr
        clear HR HG HS HDE hd
        go_wp2_with fail
        go_region_held3 (fun w7 => w7.cell? ⟨g, 0, none⟩ = some (.string b) ∧ w7.cell? ⟨g, 1, none⟩ = some (.int .i64 (at_ : Int))) (first | assumption | exact HST.out) (fail)
        go_wp2_with fail
        go_ret3
        exact ⟨rfl, HBD.out⟩
      · have hix : at_ + k < b.size := by omega
        have hge : ¬ (b.size : Int) ≤ (at_ : Int) + (k : Int) := by omega
        have HBD2 := Lib.hid (show Below w.heap.size w wr.drew.drew from ⟨HB.out.os, HB.out.tape, HB.out.output, HB.out.size, HB.out.block⟩)
        have HST2 := Lib.hid (HKEEP.out _ HBD2.out)
        obtain ⟨c, hc⟩ : ∃ c, c = b[((at_ : Int) + (k : Int)).toNat]'(by omega) := ⟨_, rfl⟩
        have hgk : l.getD k 0 = c := by rw [HG.out k hix, hc]; exact get_cast b _ _ (by omega) _ _
        have hc256 := c.toNat_lt
        have hwc : IntKind.u64.wrap (c.toNat : Int) = (c.toNat : Int) := by rw [IntKind.wrap_u64]; omega
        have HCN := Lib.hid hc
        clear hc
        go_wp2_with fail
        go_region_held3 (fun w7 => w7.cell? ⟨g, 0, none⟩ = some (.string b) ∧ w7.cell? ⟨g, 1, none⟩ = some (.int .i64 (at_ : Int))) (first | assumption | exact HST.out) (fail)
        go_wp2_with fail
        go_region_held3 (fun w7 => w7.cell? ⟨g, 0, none⟩ = some (.string b) ∧ w7.cell? ⟨g, 1, none⟩ = some (.int .i64 (at_ : Int))) (first | assumption | exact HST2.out) (fail)
        rw [← HCN.out, hwc]
        clear HCN
        by_cases h9 : k = 9 ∧ 1 < c.toNat
        · obtain ⟨rfl, h1c⟩ := h9
          have h1i : (1 : Int) < (c.toNat : Int) := by omega
          have hr : r = (0, 0, 4) := by
            have hd := HDE.out.out.2
            rw [← HR.out]
            unfold cntR
            by_cases h128 : c.toNat < 128
            · rw [hf, dec_end _ _ _ _ (by rw [HL.out]; omega) (by rw [hgk]; exact h128), hgk] at hd
              have hle : lastErr 9 c = 4 := by unfold lastErr; rw [if_pos (.inr ⟨rfl, h1c⟩)]
              rw [← hd, hle]
              rfl
            · rw [hf, dec_more _ _ _ _ (by rw [HL.out]; omega) (by rw [hgk]; exact h128), hgk] at hd
              rw [← hd]
              rfl
          subst hr
          clear HR HG HS HDE
          go_wp2_with fail
          go_ret3
          exact ⟨rfl, HBD2.out⟩
        · obtain ⟨hsh, hq1, hq2⟩ := shl_V acc c k HDE.out.out.1 hlt h9
          have h9b : (decide ((k : Int) = 9) && decide ((1 : Int) < (c.toNat : Int))) = false := by
            simp only [Bool.and_eq_false_iff, decide_eq_false_iff_not]
            omega
          by_cases h128 : c.toNat < 128
          · have h128i : (c.toNat : Int) < 128 := by omega
            have hd := HDE.out.out.2
            rw [hf, dec_end _ _ _ _ (by rw [HL.out]; omega) (by rw [hgk]; exact h128), hgk] at hd
            have hiff := last_iff l k acc c hd.symm hq2
            have HRC := Lib.hid (refCount_any (addB acc c k) hq2)
            have hext := HS.out k
            have HKP := Lib.hid (fun W (k : Below wr.drew.drew.drew.heap.size wr.drew.drew.drew W) => HKEEP.out W (HBD2.out.trans (show Below w.heap.size wr.drew.drew W from ⟨k.os, k.tape, k.output, k.size, fun g hg => k.block g (Nat.lt_of_lt_of_le hg HBD2.out.size)⟩)))
            have HBL := Lib.hid (fun W (k : Below wr.drew.drew.drew.heap.size wr.drew.drew.drew W) => HBD2.out.trans (show Below w.heap.size wr.drew.drew W from ⟨k.os, k.tape, k.output, k.size, fun g hg => k.block g (Nat.lt_of_lt_of_le hg HBD2.out.size)⟩))
            have HST3 := Lib.hid (HKP.out _ (Below.refl _ _))
            have HRC2 := Lib.hid (HRC.out wr.drew.drew.drew)
            clear HRC
            by_cases hk9 : k = 9
            · subst hk9
              have hc1 : (c.toNat : Int) ≤ 1 := by omega
              have hwr9 : IntKind.i64.wrap ((at_ : Int) + 9) = (at_ : Int) + 9 := by rw [IntKind.wrap_i64]; omega
              have hwr10 : IntKind.i64.wrap ((at_ : Int) + 9 + 1) = (at_ : Int) + 9 + 1 := by rw [IntKind.wrap_i64]; omega
              have hsh9 : IntKind.u64.wrap ((acc : Int) + (c.toNat : Int) % 128 * 9223372036854775808) = ((addB acc c 9 : Nat) : Int) := by
                have h63 : (2 : Int) ^ (7 * 9) = 9223372036854775808 := by decide
                rw [h63] at hsh
                have hin : IntKind.u64.wrap ((c.toNat : Int) % 128 * 9223372036854775808) = (c.toNat : Int) % 128 * 9223372036854775808 := by rw [IntKind.wrap_u64]; omega
                rw [hin] at hsh
                exact hsh
              have hs2 : (at_ : Int) ≤ (at_ : Int) + 9 + 1 := by omega
              have hs3 : (at_ : Int) + 9 + 1 ≤ (b.size : Int) := by omega
              have hs4 : ((at_ : Int) + 9 + 1).toNat = at_ + 9 + 1 := by omega
              have hs5 : (0 : Int) ≤ (at_ : Int) + 9 + 1 := by omega
              by_cases hle : lastErr 9 c = 0
              · have hext2 : b.extract at_ (at_ + 9 + 1) = ⟨(enc (addB acc c 9)).toArray⟩ := by rw [hext, hiff.2 hle]; rfl
                have hr : r = (addB acc c 9, at_ + (9 + 1), 0) := by
                  rw [← HR.out]
                  unfold cntR
                  rw [← hd, hle]
                  rfl
                subst hr
                have hcmp : (enc (addB acc c 9) == (S (l.take 10)).toList) = true := by
                  rw [ByteArray.toList_eq, S_toList, show l.take 10 = enc (addB acc c 9) from (hiff.2 hle).symm]
                  simp
                go_wp2_with fail
                refine Cd.until_start 18 (fun w7 => w7.cell? ⟨g, 0, none⟩ = some (.string b) ∧ w7.cell? ⟨g, 1, none⟩ = some (.int .i64 (at_ : Int))) (by kernel_rfl) ?_
                refine Cd.untilT (v := ?_) 0 (by decide +kernel) (by decide +kernel) (by decide +kernel) (by kernel_rfl) (by simp only [List.getElem?_toArray, List.getElem?_cons_succ, List.getElem?_cons_zero]; rfl) (by rfl) (by exact fun _ _ _ h => h) (by first | exact fun _ => HST3.out | exact fun _ => HK7.out | exact fun h => absurd h (by decide +kernel)) ?_ ?_
                rotate_left 1
                focus (intro w8; go_simp; (try with_reducible rfl); done)
                try simp only [Act.put, List.setIfInBounds_toArray, List.set_cons_zero, List.set_cons_succ]
                refine Cd.untilT (v := ?_) 2 (by decide +kernel) (by decide +kernel) (by decide +kernel) (by kernel_rfl) (by simp only [List.getElem?_toArray, List.getElem?_cons_succ, List.getElem?_cons_zero]; rfl) (by rfl) (by exact fun _ _ _ h => h) (by first | exact fun _ => HST3.out | exact fun _ => HK7.out | exact fun h => absurd h (by decide +kernel)) ?_ ?_
                rotate_left 1
                focus (intro w8; go_simp; (try with_reducible rfl); done)
                try simp only [Act.put, List.setIfInBounds_toArray, List.set_cons_zero, List.set_cons_succ]
                refine Cd.untilT (v := ?_) 3 (by decide +kernel) (by decide +kernel) (by decide +kernel) (by kernel_rfl) (by simp only [List.getElem?_toArray, List.getElem?_cons_succ, List.getElem?_cons_zero]; rfl) (by rfl) (by exact fun _ _ _ h => h) (by first | exact fun _ => HST3.out | exact fun _ => HK7.out | exact fun h => absurd h (by decide +kernel)) ?_ ?_
                rotate_left 1
                focus (intro w8; go_simp; (try with_reducible rfl); done)
                try simp only [Act.put, List.setIfInBounds_toArray, List.set_cons_zero, List.set_cons_succ]
                refine Cd.untilT (v := ?_) 4 (by decide +kernel) (by decide +kernel) (by decide +kernel) (by kernel_rfl) (by simp only [List.getElem?_toArray, List.getElem?_cons_succ, List.getElem?_cons_zero]; rfl) (by rfl) (by exact fun _ _ _ h => h) (by first | exact fun _ => HST3.out | exact fun _ => HK7.out | exact fun h => absurd h (by decide +kernel)) ?_ ?_
                rotate_left 1
                focus (intro w8; go_simp; (try with_reducible rfl); done)
                try simp only [Act.put, List.setIfInBounds_toArray, List.set_cons_zero, List.set_cons_succ]
                refine Cd.untilW (v := ?_) 5 [17, 18] (by decide) (by decide +kernel) (by decide +kernel) (by decide +kernel) (by decide +kernel) (by kernel_rfl) (by simp only [List.getElem?_toArray, List.getElem?_cons_succ, List.getElem?_cons_zero]; rfl) (by rfl) (by exact fun _ _ _ h => h) (by exact HST3.out) ?_ ?_
                rotate_left 1
                focus (intro w8 hSw; (try dsimp only at hSw); obtain ⟨s0, s1⟩ := hSw; go_simp; (try with_reducible rfl); done)
                try simp only [Act.put, List.setIfInBounds_toArray, List.set_cons_zero, List.set_cons_succ]
                refine Cd.untilT (v := ?_) 6 (by decide +kernel) (by decide +kernel) (by decide +kernel) (by kernel_rfl) (by simp only [List.getElem?_toArray, List.getElem?_cons_succ, List.getElem?_cons_zero]; rfl) (by rfl) (by exact fun _ _ _ h => h) (by first | exact fun _ => HST3.out | exact fun _ => HK7.out | exact fun h => absurd h (by decide +kernel)) ?_ ?_
                rotate_left 1
                focus (intro w8; go_simp; (try with_reducible rfl); done)
                try simp only [Act.put, List.setIfInBounds_toArray, List.set_cons_zero, List.set_cons_succ]
                refine Cd.untilT (v := ?_) 7 (by decide +kernel) (by decide +kernel) (by decide +kernel) (by kernel_rfl) (by simp only [List.getElem?_toArray, List.getElem?_cons_succ, List.getElem?_cons_zero]; rfl) (by rfl) (by exact fun _ _ _ h => h) (by first | exact fun _ => HST3.out | exact fun _ => HK7.out | exact fun h => absurd h (by decide +kernel)) ?_ ?_
                rotate_left 1
                focus (intro w8; go_simp; (try with_reducible rfl); done)
                try simp only [Act.put, List.setIfInBounds_toArray, List.set_cons_zero, List.set_cons_succ]
                refine Cd.untilT (v := ?_) 8 (by decide +kernel) (by decide +kernel) (by decide +kernel) (by kernel_rfl) (by simp only [List.getElem?_toArray, List.getElem?_cons_succ, List.getElem?_cons_zero]; rfl) (by rfl) (by exact fun _ _ _ h => h) (by first | exact fun _ => HST3.out | exact fun _ => HK7.out | exact fun h => absurd h (by decide +kernel)) ?_ ?_
                rotate_left 1
                focus (intro w8; go_simp; (try with_reducible rfl); done)
                try simp only [Act.put, List.setIfInBounds_toArray, List.set_cons_zero, List.set_cons_succ]
                refine Cd.untilW (v := ?_) 9 [17, 18] (by decide) (by decide +kernel) (by decide +kernel) (by decide +kernel) (by decide +kernel) (by kernel_rfl) (by simp only [List.getElem?_toArray, List.getElem?_cons_succ, List.getElem?_cons_zero]; rfl) (by rfl) (by exact fun _ _ _ h => h) (by exact HST3.out) ?_ ?_
                rotate_left 1
                focus (intro w8 hSw; (try dsimp only at hSw); obtain ⟨s0, s1⟩ := hSw; go_simp; (try with_reducible rfl); done)
                try simp only [Act.put, List.setIfInBounds_toArray, List.set_cons_zero, List.set_cons_succ]
                refine Cd.untilT (v := ?_) 10 (by decide +kernel) (by decide +kernel) (by decide +kernel) (by kernel_rfl) (by simp only [List.getElem?_toArray, List.getElem?_cons_succ, List.getElem?_cons_zero]; rfl) (by rfl) (by exact fun _ _ _ h => h) (by first | exact fun _ => HST3.out | exact fun _ => HK7.out | exact fun h => absurd h (by decide +kernel)) ?_ ?_
                rotate_left 1
                focus (intro w8; go_simp; (try with_reducible rfl); done)
                try simp only [Act.put, List.setIfInBounds_toArray, List.set_cons_zero, List.set_cons_succ]
                refine Cd.untilT (v := ?_) 11 (by decide +kernel) (by decide +kernel) (by decide +kernel) (by kernel_rfl) (by simp only [List.getElem?_toArray, List.getElem?_cons_succ, List.getElem?_cons_zero]; rfl) (by rfl) (by exact fun _ _ _ h => h) (by first | exact fun _ => HST3.out | exact fun _ => HK7.out | exact fun h => absurd h (by decide +kernel)) ?_ ?_
                rotate_left 1
                focus (intro w8; go_simp; (try with_reducible rfl); done)
                try simp only [Act.put, List.setIfInBounds_toArray, List.set_cons_zero, List.set_cons_succ]
                refine Cd.untilT (v := ?_) 12 (by decide +kernel) (by decide +kernel) (by decide +kernel) (by kernel_rfl) (by simp only [List.getElem?_toArray, List.getElem?_cons_succ, List.getElem?_cons_zero]; rfl) (by rfl) (by exact fun _ _ _ h => h) (by first | exact fun _ => HST3.out | exact fun _ => HK7.out | exact fun h => absurd h (by decide +kernel)) ?_ ?_
                rotate_left 1
                focus (intro w8; go_simp; (try with_reducible rfl); done)
                try simp only [Act.put, List.setIfInBounds_toArray, List.set_cons_zero, List.set_cons_succ]
                refine Cd.untilW (v := ?_) 13 [15, 16, 17, 18] (by decide) (by decide +kernel) (by decide +kernel) (by decide +kernel) (by decide +kernel) (by kernel_rfl) (by simp only [List.getElem?_toArray, List.getElem?_cons_succ, List.getElem?_cons_zero]; rfl) (by rfl) (by exact fun _ _ _ h => h) (by exact HST3.out) ?_ ?_
                rotate_left 1
                focus (intro w8 hSw; (try dsimp only at hSw); obtain ⟨s0, s1⟩ := hSw; go_simp; (try with_reducible rfl); done)
                try simp only [Act.put, List.setIfInBounds_toArray, List.set_cons_zero, List.set_cons_succ]
                refine Cd.untilT (v := ?_) 14 (by decide +kernel) (by decide +kernel) (by decide +kernel) (by kernel_rfl) (by simp only [List.getElem?_toArray, List.getElem?_cons_succ, List.getElem?_cons_zero]; rfl) (by rfl) (by exact fun _ _ _ h => h) (by first | exact fun _ => HST3.out | exact fun _ => HK7.out | exact fun h => absurd h (by decide +kernel)) ?_ ?_
                rotate_left 1
                focus (intro w8; go_simp; (try with_reducible rfl); done)
                try simp only [Act.put, List.setIfInBounds_toArray, List.set_cons_zero, List.set_cons_succ]
                refine Cd.untilT (v := ?_) 15 (by decide +kernel) (by decide +kernel) (by decide +kernel) (by kernel_rfl) (by simp only [List.getElem?_toArray, List.getElem?_cons_succ, List.getElem?_cons_zero]; rfl) (by rfl) (by exact fun _ _ _ h => h) (by first | exact fun _ => HST3.out | exact fun _ => HK7.out | exact fun h => absurd h (by decide +kernel)) ?_ ?_
                rotate_left 1
                focus (intro w8; go_simp; (try with_reducible rfl); done)
                try simp only [Act.put, List.setIfInBounds_toArray, List.set_cons_zero, List.set_cons_succ]
                refine Cd.untilT (v := ?_) 16 (by decide +kernel) (by decide +kernel) (by decide +kernel) (by kernel_rfl) (by simp only [List.getElem?_toArray, List.getElem?_cons_succ, List.getElem?_cons_zero]; rfl) (by rfl) (by exact fun _ _ _ h => h) (by first | exact fun _ => HST3.out | exact fun _ => HK7.out | exact fun h => absurd h (by decide +kernel)) ?_ ?_
                rotate_left 1
                focus (intro w8; go_simp; (try with_reducible rfl); done)
                try simp only [Act.put, List.setIfInBounds_toArray, List.set_cons_zero, List.set_cons_succ]
                refine Cd.untilT (v := ?_) 17 (by decide +kernel) (by decide +kernel) (by decide +kernel) (by kernel_rfl) (by simp only [List.getElem?_toArray, List.getElem?_cons_succ, List.getElem?_cons_zero]; rfl) (by rfl) (by exact fun _ _ _ h => h) (by first | exact fun _ => HST3.out | exact fun _ => HK7.out | exact fun h => absurd h (by decide +kernel)) ?_ ?_
                rotate_left 1
                focus (intro w8; go_simp; (try with_reducible rfl); done)
                try simp only [Act.put, List.setIfInBounds_toArray, List.set_cons_zero, List.set_cons_succ]
                refine Cd.until_one (i := 1) (by decide +kernel) (by simp only [List.getElem?_toArray, List.getElem?_cons_succ, List.getElem?_cons_zero]; rfl) ?_
                intro K hK
                go_simp
                go_at_call 117; (try rw [hsh]); (try rw [hsh9]); (with_reducible refine HRC2.out.mono ?_); rintro e w7 ⟨rfl, b7⟩
                have HB7 := Lib.hid b7
                have HK7 := Lib.hid (HKP.out _ b7)
                clear b7
                go_wp2_with fail
                refine hK.out _ _ (by first | exact fun _ => HST3.out | exact fun _ => HK7.out | exact fun h => absurd h (by decide +kernel)) ?_
                clear hK K
                try simp only [Act.put, List.setIfInBounds_toArray, List.set_cons_zero, List.set_cons_succ]
                refine Cd.until_one (i := 18) (by decide +kernel) (by simp only [List.getElem?_toArray, List.getElem?_cons_succ, List.getElem?_cons_zero]; rfl) ?_
                intro K hK
                go_simp
                (try rw [hs4])
                (try rw [hext2])
                (try rw [hcmp])
                go_wp2_with fail
                refine hK.out _ _ (by first | exact fun _ => HK7.out | exact fun h => absurd h (by decide +kernel)) ?_
                clear hK K
                try simp only [Act.put, List.setIfInBounds_toArray, List.set_cons_zero, List.set_cons_succ]
                refine Cd.until_done (by decide +kernel) ?_ _
                have HB8 := Lib.hid (show Below wr.drew.drew.drew.heap.size wr.drew.drew.drew w7.drew from ⟨HB7.out.os, HB7.out.tape, HB7.out.output, HB7.out.size, HB7.out.block⟩)
                have HST4 := Lib.hid (HKP.out _ HB8.out)
                go_wp2_with fail
                go_region_held3 (fun w7 => w7.cell? ⟨g, 0, none⟩ = some (.string b) ∧ w7.cell? ⟨g, 1, none⟩ = some (.int .i64 (at_ : Int))) (first | assumption | exact HST4.out) (fail)
                go_wp2_with fail
                go_ret3
                exact ⟨ret3_eq (by first | rfl | exact congrArg (Value.int .u64) hsh9) (congrArg (Value.int .i64) (by push_cast; omega)) rfl, HBL.out _ HB8.out⟩
              · have hl4 : lastErr 9 c = 4 := by
                  unfold lastErr at hle ⊢
                  split
                  · rfl
                  · rename_i h; rw [if_neg h] at hle; exact absurd rfl hle
                have hr : r = (0, 0, 4) := by
                  rw [← HR.out]
                  unfold cntR
                  rw [← hd, hl4]
                  rfl
                subst hr
                have hcmp : (enc (addB acc c 9) == (S (l.take 10)).toList) = false := by
                  rw [ByteArray.toList_eq, S_toList]
                  simp only [beq_eq_false_iff_ne, ne_eq]
                  exact fun e => hle (hiff.1 e)
                have hext2 := hext
                go_wp2_with fail
                refine Cd.until_start 18 (fun w7 => w7.cell? ⟨g, 0, none⟩ = some (.string b) ∧ w7.cell? ⟨g, 1, none⟩ = some (.int .i64 (at_ : Int))) (by kernel_rfl) ?_
                refine Cd.untilT (v := ?_) 0 (by decide +kernel) (by decide +kernel) (by decide +kernel) (by kernel_rfl) (by simp only [List.getElem?_toArray, List.getElem?_cons_succ, List.getElem?_cons_zero]; rfl) (by rfl) (by exact fun _ _ _ h => h) (by first | exact fun _ => HST3.out | exact fun _ => HK7.out | exact fun h => absurd h (by decide +kernel)) ?_ ?_
                rotate_left 1
                focus (intro w8; go_simp; (try with_reducible rfl); done)
                try simp only [Act.put, List.setIfInBounds_toArray, List.set_cons_zero, List.set_cons_succ]
                refine Cd.untilT (v := ?_) 2 (by decide +kernel) (by decide +kernel) (by decide +kernel) (by kernel_rfl) (by simp only [List.getElem?_toArray, List.getElem?_cons_succ, List.getElem?_cons_zero]; rfl) (by rfl) (by exact fun _ _ _ h => h) (by first | exact fun _ => HST3.out | exact fun _ => HK7.out | exact fun h => absurd h (by decide +kernel)) ?_ ?_
                rotate_left 1
                focus (intro w8; go_simp; (try with_reducible rfl); done)
                try simp only [Act.put, List.setIfInBounds_toArray, List.set_cons_zero, List.set_cons_succ]
                refine Cd.untilT (v := ?_) 3 (by decide +kernel) (by decide +kernel) (by decide +kernel) (by kernel_rfl) (by simp only [List.getElem?_toArray, List.getElem?_cons_succ, List.getElem?_cons_zero]; rfl) (by rfl) (by exact fun _ _ _ h => h) (by first | exact fun _ => HST3.out | exact fun _ => HK7.out | exact fun h => absurd h (by decide +kernel)) ?_ ?_
                rotate_left 1
                focus (intro w8; go_simp; (try with_reducible rfl); done)
                try simp only [Act.put, List.setIfInBounds_toArray, List.set_cons_zero, List.set_cons_succ]
                refine Cd.untilT (v := ?_) 4 (by decide +kernel) (by decide +kernel) (by decide +kernel) (by kernel_rfl) (by simp only [List.getElem?_toArray, List.getElem?_cons_succ, List.getElem?_cons_zero]; rfl) (by rfl) (by exact fun _ _ _ h => h) (by first | exact fun _ => HST3.out | exact fun _ => HK7.out | exact fun h => absurd h (by decide +kernel)) ?_ ?_
                rotate_left 1
                focus (intro w8; go_simp; (try with_reducible rfl); done)
                try simp only [Act.put, List.setIfInBounds_toArray, List.set_cons_zero, List.set_cons_succ]
                refine Cd.untilW (v := ?_) 5 [17, 18] (by decide) (by decide +kernel) (by decide +kernel) (by decide +kernel) (by decide +kernel) (by kernel_rfl) (by simp only [List.getElem?_toArray, List.getElem?_cons_succ, List.getElem?_cons_zero]; rfl) (by rfl) (by exact fun _ _ _ h => h) (by exact HST3.out) ?_ ?_
                rotate_left 1
                focus (intro w8 hSw; (try dsimp only at hSw); obtain ⟨s0, s1⟩ := hSw; go_simp; (try with_reducible rfl); done)
                try simp only [Act.put, List.setIfInBounds_toArray, List.set_cons_zero, List.set_cons_succ]
                refine Cd.untilT (v := ?_) 6 (by decide +kernel) (by decide +kernel) (by decide +kernel) (by kernel_rfl) (by simp only [List.getElem?_toArray, List.getElem?_cons_succ, List.getElem?_cons_zero]; rfl) (by rfl) (by exact fun _ _ _ h => h) (by first | exact fun _ => HST3.out | exact fun _ => HK7.out | exact fun h => absurd h (by decide +kernel)) ?_ ?_
                rotate_left 1
                focus (intro w8; go_simp; (try with_reducible rfl); done)
                try simp only [Act.put, List.setIfInBounds_toArray, List.set_cons_zero, List.set_cons_succ]
                refine Cd.untilT (v := ?_) 7 (by decide +kernel) (by decide +kernel) (by decide +kernel) (by kernel_rfl) (by simp only [List.getElem?_toArray, List.getElem?_cons_succ, List.getElem?_cons_zero]; rfl) (by rfl) (by exact fun _ _ _ h => h) (by first | exact fun _ => HST3.out | exact fun _ => HK7.out | exact fun h => absurd h (by decide +kernel)) ?_ ?_
                rotate_left 1
                focus (intro w8; go_simp; (try with_reducible rfl); done)
                try simp only [Act.put, List.setIfInBounds_toArray, List.set_cons_zero, List.set_cons_succ]
                refine Cd.untilT (v := ?_) 8 (by decide +kernel) (by decide +kernel) (by decide +kernel) (by kernel_rfl) (by simp only [List.getElem?_toArray, List.getElem?_cons_succ, List.getElem?_cons_zero]; rfl) (by rfl) (by exact fun _ _ _ h => h) (by first | exact fun _ => HST3.out | exact fun _ => HK7.out | exact fun h => absurd h (by decide +kernel)) ?_ ?_
                rotate_left 1
                focus (intro w8; go_simp; (try with_reducible rfl); done)
                try simp only [Act.put, List.setIfInBounds_toArray, List.set_cons_zero, List.set_cons_succ]
                refine Cd.untilW (v := ?_) 9 [17, 18] (by decide) (by decide +kernel) (by decide +kernel) (by decide +kernel) (by decide +kernel) (by kernel_rfl) (by simp only [List.getElem?_toArray, List.getElem?_cons_succ, List.getElem?_cons_zero]; rfl) (by rfl) (by exact fun _ _ _ h => h) (by exact HST3.out) ?_ ?_
                rotate_left 1
                focus (intro w8 hSw; (try dsimp only at hSw); obtain ⟨s0, s1⟩ := hSw; go_simp; (try with_reducible rfl); done)
                try simp only [Act.put, List.setIfInBounds_toArray, List.set_cons_zero, List.set_cons_succ]
                refine Cd.untilT (v := ?_) 10 (by decide +kernel) (by decide +kernel) (by decide +kernel) (by kernel_rfl) (by simp only [List.getElem?_toArray, List.getElem?_cons_succ, List.getElem?_cons_zero]; rfl) (by rfl) (by exact fun _ _ _ h => h) (by first | exact fun _ => HST3.out | exact fun _ => HK7.out | exact fun h => absurd h (by decide +kernel)) ?_ ?_
                rotate_left 1
                focus (intro w8; go_simp; (try with_reducible rfl); done)
                try simp only [Act.put, List.setIfInBounds_toArray, List.set_cons_zero, List.set_cons_succ]
                refine Cd.untilT (v := ?_) 11 (by decide +kernel) (by decide +kernel) (by decide +kernel) (by kernel_rfl) (by simp only [List.getElem?_toArray, List.getElem?_cons_succ, List.getElem?_cons_zero]; rfl) (by rfl) (by exact fun _ _ _ h => h) (by first | exact fun _ => HST3.out | exact fun _ => HK7.out | exact fun h => absurd h (by decide +kernel)) ?_ ?_
                rotate_left 1
                focus (intro w8; go_simp; (try with_reducible rfl); done)
                try simp only [Act.put, List.setIfInBounds_toArray, List.set_cons_zero, List.set_cons_succ]
                refine Cd.untilT (v := ?_) 12 (by decide +kernel) (by decide +kernel) (by decide +kernel) (by kernel_rfl) (by simp only [List.getElem?_toArray, List.getElem?_cons_succ, List.getElem?_cons_zero]; rfl) (by rfl) (by exact fun _ _ _ h => h) (by first | exact fun _ => HST3.out | exact fun _ => HK7.out | exact fun h => absurd h (by decide +kernel)) ?_ ?_
                rotate_left 1
                focus (intro w8; go_simp; (try with_reducible rfl); done)
                try simp only [Act.put, List.setIfInBounds_toArray, List.set_cons_zero, List.set_cons_succ]
                refine Cd.untilW (v := ?_) 13 [15, 16, 17, 18] (by decide) (by decide +kernel) (by decide +kernel) (by decide +kernel) (by decide +kernel) (by kernel_rfl) (by simp only [List.getElem?_toArray, List.getElem?_cons_succ, List.getElem?_cons_zero]; rfl) (by rfl) (by exact fun _ _ _ h => h) (by exact HST3.out) ?_ ?_
                rotate_left 1
                focus (intro w8 hSw; (try dsimp only at hSw); obtain ⟨s0, s1⟩ := hSw; go_simp; (try with_reducible rfl); done)
                try simp only [Act.put, List.setIfInBounds_toArray, List.set_cons_zero, List.set_cons_succ]
                refine Cd.untilT (v := ?_) 14 (by decide +kernel) (by decide +kernel) (by decide +kernel) (by kernel_rfl) (by simp only [List.getElem?_toArray, List.getElem?_cons_succ, List.getElem?_cons_zero]; rfl) (by rfl) (by exact fun _ _ _ h => h) (by first | exact fun _ => HST3.out | exact fun _ => HK7.out | exact fun h => absurd h (by decide +kernel)) ?_ ?_
                rotate_left 1
                focus (intro w8; go_simp; (try with_reducible rfl); done)
                try simp only [Act.put, List.setIfInBounds_toArray, List.set_cons_zero, List.set_cons_succ]
                refine Cd.untilT (v := ?_) 15 (by decide +kernel) (by decide +kernel) (by decide +kernel) (by kernel_rfl) (by simp only [List.getElem?_toArray, List.getElem?_cons_succ, List.getElem?_cons_zero]; rfl) (by rfl) (by exact fun _ _ _ h => h) (by first | exact fun _ => HST3.out | exact fun _ => HK7.out | exact fun h => absurd h (by decide +kernel)) ?_ ?_
                rotate_left 1
                focus (intro w8; go_simp; (try with_reducible rfl); done)
                try simp only [Act.put, List.setIfInBounds_toArray, List.set_cons_zero, List.set_cons_succ]
                refine Cd.untilT (v := ?_) 16 (by decide +kernel) (by decide +kernel) (by decide +kernel) (by kernel_rfl) (by simp only [List.getElem?_toArray, List.getElem?_cons_succ, List.getElem?_cons_zero]; rfl) (by rfl) (by exact fun _ _ _ h => h) (by first | exact fun _ => HST3.out | exact fun _ => HK7.out | exact fun h => absurd h (by decide +kernel)) ?_ ?_
                rotate_left 1
                focus (intro w8; go_simp; (try with_reducible rfl); done)
                try simp only [Act.put, List.setIfInBounds_toArray, List.set_cons_zero, List.set_cons_succ]
                refine Cd.untilT (v := ?_) 17 (by decide +kernel) (by decide +kernel) (by decide +kernel) (by kernel_rfl) (by simp only [List.getElem?_toArray, List.getElem?_cons_succ, List.getElem?_cons_zero]; rfl) (by rfl) (by exact fun _ _ _ h => h) (by first | exact fun _ => HST3.out | exact fun _ => HK7.out | exact fun h => absurd h (by decide +kernel)) ?_ ?_
                rotate_left 1
                focus (intro w8; go_simp; (try with_reducible rfl); done)
                try simp only [Act.put, List.setIfInBounds_toArray, List.set_cons_zero, List.set_cons_succ]
                refine Cd.until_one (i := 1) (by decide +kernel) (by simp only [List.getElem?_toArray, List.getElem?_cons_succ, List.getElem?_cons_zero]; rfl) ?_
                intro K hK
                go_simp
                go_at_call 117; (try rw [hsh]); (try rw [hsh9]); (with_reducible refine HRC2.out.mono ?_); rintro e w7 ⟨rfl, b7⟩
                have HB7 := Lib.hid b7
                have HK7 := Lib.hid (HKP.out _ b7)
                clear b7
                go_wp2_with fail
                refine hK.out _ _ (by first | exact fun _ => HST3.out | exact fun _ => HK7.out | exact fun h => absurd h (by decide +kernel)) ?_
                clear hK K
                try simp only [Act.put, List.setIfInBounds_toArray, List.set_cons_zero, List.set_cons_succ]
                refine Cd.until_one (i := 18) (by decide +kernel) (by simp only [List.getElem?_toArray, List.getElem?_cons_succ, List.getElem?_cons_zero]; rfl) ?_
                intro K hK
                go_simp
                (try rw [hs4])
                (try rw [hext2])
                (try rw [hcmp])
                go_wp2_with fail
                refine hK.out _ _ (by first | exact fun _ => HK7.out | exact fun h => absurd h (by decide +kernel)) ?_
                clear hK K
                try simp only [Act.put, List.setIfInBounds_toArray, List.set_cons_zero, List.set_cons_succ]
                refine Cd.until_done (by decide +kernel) ?_ _
                go_wp2_with fail
                go_ret3
                exact ⟨rfl, HBL.out _ HB7.out⟩
            · have hk9i : ¬ (k : Int) = 9 := by omega
              have hs2 : (at_ : Int) ≤ (at_ : Int) + (k : Int) + 1 := by omega
              have hs3 : (at_ : Int) + (k : Int) + 1 ≤ (b.size : Int) := by omega
              have hs4 : ((at_ : Int) + (k : Int) + 1).toNat = at_ + k + 1 := by omega
              have hs5 : (0 : Int) ≤ (at_ : Int) + (k : Int) + 1 := by omega
              by_cases hle : lastErr k c = 0
              · have hext2 : b.extract at_ (at_ + k + 1) = ⟨(enc (addB acc c k)).toArray⟩ := by rw [hext, hiff.2 hle]; rfl
                have hr : r = (addB acc c k, at_ + (k + 1), 0) := by
                  rw [← HR.out]
                  unfold cntR
                  rw [← hd, hle]
                  rfl
                subst hr
                have hcmp : (enc (addB acc c k) == (S (l.take (k + 1))).toList) = true := by
                  rw [ByteArray.toList_eq, S_toList, show l.take (k + 1) = enc (addB acc c k) from (hiff.2 hle).symm]
                  simp
                go_wp2_with fail
                refine Cd.until_start 18 (fun w7 => w7.cell? ⟨g, 0, none⟩ = some (.string b) ∧ w7.cell? ⟨g, 1, none⟩ = some (.int .i64 (at_ : Int))) (by kernel_rfl) ?_
                refine Cd.untilT (v := ?_) 0 (by decide +kernel) (by decide +kernel) (by decide +kernel) (by kernel_rfl) (by simp only [List.getElem?_toArray, List.getElem?_cons_succ, List.getElem?_cons_zero]; rfl) (by rfl) (by exact fun _ _ _ h => h) (by first | exact fun _ => HST3.out | exact fun _ => HK7.out | exact fun h => absurd h (by decide +kernel)) ?_ ?_
                rotate_left 1
                focus (intro w8; go_simp; (try with_reducible rfl); done)
                try simp only [Act.put, List.setIfInBounds_toArray, List.set_cons_zero, List.set_cons_succ]
                refine Cd.untilT (v := ?_) 2 (by decide +kernel) (by decide +kernel) (by decide +kernel) (by kernel_rfl) (by simp only [List.getElem?_toArray, List.getElem?_cons_succ, List.getElem?_cons_zero]; rfl) (by rfl) (by exact fun _ _ _ h => h) (by first | exact fun _ => HST3.out | exact fun _ => HK7.out | exact fun h => absurd h (by decide +kernel)) ?_ ?_
                rotate_left 1
                focus (intro w8; go_simp; (try with_reducible rfl); done)
                try simp only [Act.put, List.setIfInBounds_toArray, List.set_cons_zero, List.set_cons_succ]
                refine Cd.untilT (v := ?_) 3 (by decide +kernel) (by decide +kernel) (by decide +kernel) (by kernel_rfl) (by simp only [List.getElem?_toArray, List.getElem?_cons_succ, List.getElem?_cons_zero]; rfl) (by rfl) (by exact fun _ _ _ h => h) (by first | exact fun _ => HST3.out | exact fun _ => HK7.out | exact fun h => absurd h (by decide +kernel)) ?_ ?_
                rotate_left 1
                focus (intro w8; go_simp; (try with_reducible rfl); done)
                try simp only [Act.put, List.setIfInBounds_toArray, List.set_cons_zero, List.set_cons_succ]
                refine Cd.untilT (v := ?_) 4 (by decide +kernel) (by decide +kernel) (by decide +kernel) (by kernel_rfl) (by simp only [List.getElem?_toArray, List.getElem?_cons_succ, List.getElem?_cons_zero]; rfl) (by rfl) (by exact fun _ _ _ h => h) (by first | exact fun _ => HST3.out | exact fun _ => HK7.out | exact fun h => absurd h (by decide +kernel)) ?_ ?_
                rotate_left 1
                focus (intro w8; go_simp; (try with_reducible rfl); done)
                try simp only [Act.put, List.setIfInBounds_toArray, List.set_cons_zero, List.set_cons_succ]
                refine Cd.untilW (v := ?_) 5 [17, 18] (by decide) (by decide +kernel) (by decide +kernel) (by decide +kernel) (by decide +kernel) (by kernel_rfl) (by simp only [List.getElem?_toArray, List.getElem?_cons_succ, List.getElem?_cons_zero]; rfl) (by rfl) (by exact fun _ _ _ h => h) (by exact HST3.out) ?_ ?_
                rotate_left 1
                focus (intro w8 hSw; (try dsimp only at hSw); obtain ⟨s0, s1⟩ := hSw; go_simp; (try with_reducible rfl); done)
                try simp only [Act.put, List.setIfInBounds_toArray, List.set_cons_zero, List.set_cons_succ]
                refine Cd.untilT (v := ?_) 6 (by decide +kernel) (by decide +kernel) (by decide +kernel) (by kernel_rfl) (by simp only [List.getElem?_toArray, List.getElem?_cons_succ, List.getElem?_cons_zero]; rfl) (by rfl) (by exact fun _ _ _ h => h) (by first | exact fun _ => HST3.out | exact fun _ => HK7.out | exact fun h => absurd h (by decide +kernel)) ?_ ?_
                rotate_left 1
                focus (intro w8; go_simp; (try with_reducible rfl); done)
                try simp only [Act.put, List.setIfInBounds_toArray, List.set_cons_zero, List.set_cons_succ]
                refine Cd.untilT (v := ?_) 7 (by decide +kernel) (by decide +kernel) (by decide +kernel) (by kernel_rfl) (by simp only [List.getElem?_toArray, List.getElem?_cons_succ, List.getElem?_cons_zero]; rfl) (by rfl) (by exact fun _ _ _ h => h) (by first | exact fun _ => HST3.out | exact fun _ => HK7.out | exact fun h => absurd h (by decide +kernel)) ?_ ?_
                rotate_left 1
                focus (intro w8; go_simp; (try with_reducible rfl); done)
                try simp only [Act.put, List.setIfInBounds_toArray, List.set_cons_zero, List.set_cons_succ]
                refine Cd.untilT (v := ?_) 8 (by decide +kernel) (by decide +kernel) (by decide +kernel) (by kernel_rfl) (by simp only [List.getElem?_toArray, List.getElem?_cons_succ, List.getElem?_cons_zero]; rfl) (by rfl) (by exact fun _ _ _ h => h) (by first | exact fun _ => HST3.out | exact fun _ => HK7.out | exact fun h => absurd h (by decide +kernel)) ?_ ?_
                rotate_left 1
                focus (intro w8; go_simp; (try with_reducible rfl); done)
                try simp only [Act.put, List.setIfInBounds_toArray, List.set_cons_zero, List.set_cons_succ]
                refine Cd.untilW (v := ?_) 9 [17, 18] (by decide) (by decide +kernel) (by decide +kernel) (by decide +kernel) (by decide +kernel) (by kernel_rfl) (by simp only [List.getElem?_toArray, List.getElem?_cons_succ, List.getElem?_cons_zero]; rfl) (by rfl) (by exact fun _ _ _ h => h) (by exact HST3.out) ?_ ?_
                rotate_left 1
                focus (intro w8 hSw; (try dsimp only at hSw); obtain ⟨s0, s1⟩ := hSw; go_simp; (try with_reducible rfl); done)
                try simp only [Act.put, List.setIfInBounds_toArray, List.set_cons_zero, List.set_cons_succ]
                refine Cd.untilT (v := ?_) 10 (by decide +kernel) (by decide +kernel) (by decide +kernel) (by kernel_rfl) (by simp only [List.getElem?_toArray, List.getElem?_cons_succ, List.getElem?_cons_zero]; rfl) (by rfl) (by exact fun _ _ _ h => h) (by first | exact fun _ => HST3.out | exact fun _ => HK7.out | exact fun h => absurd h (by decide +kernel)) ?_ ?_
                rotate_left 1
                focus (intro w8; go_simp; (try with_reducible rfl); done)
                try simp only [Act.put, List.setIfInBounds_toArray, List.set_cons_zero, List.set_cons_succ]
                refine Cd.untilT (v := ?_) 11 (by decide +kernel) (by decide +kernel) (by decide +kernel) (by kernel_rfl) (by simp only [List.getElem?_toArray, List.getElem?_cons_succ, List.getElem?_cons_zero]; rfl) (by rfl) (by exact fun _ _ _ h => h) (by first | exact fun _ => HST3.out | exact fun _ => HK7.out | exact fun h => absurd h (by decide +kernel)) ?_ ?_
                rotate_left 1
                focus (intro w8; go_simp; (try with_reducible rfl); done)
                try simp only [Act.put, List.setIfInBounds_toArray, List.set_cons_zero, List.set_cons_succ]
                refine Cd.untilT (v := ?_) 12 (by decide +kernel) (by decide +kernel) (by decide +kernel) (by kernel_rfl) (by simp only [List.getElem?_toArray, List.getElem?_cons_succ, List.getElem?_cons_zero]; rfl) (by rfl) (by exact fun _ _ _ h => h) (by first | exact fun _ => HST3.out | exact fun _ => HK7.out | exact fun h => absurd h (by decide +kernel)) ?_ ?_
                rotate_left 1
                focus (intro w8; go_simp; (try with_reducible rfl); done)
                try simp only [Act.put, List.setIfInBounds_toArray, List.set_cons_zero, List.set_cons_succ]
                refine Cd.untilW (v := ?_) 13 [15, 16, 17, 18] (by decide) (by decide +kernel) (by decide +kernel) (by decide +kernel) (by decide +kernel) (by kernel_rfl) (by simp only [List.getElem?_toArray, List.getElem?_cons_succ, List.getElem?_cons_zero]; rfl) (by rfl) (by exact fun _ _ _ h => h) (by exact HST3.out) ?_ ?_
                rotate_left 1
                focus (intro w8 hSw; (try dsimp only at hSw); obtain ⟨s0, s1⟩ := hSw; go_simp; (try with_reducible rfl); done)
                try simp only [Act.put, List.setIfInBounds_toArray, List.set_cons_zero, List.set_cons_succ]
                refine Cd.untilT (v := ?_) 14 (by decide +kernel) (by decide +kernel) (by decide +kernel) (by kernel_rfl) (by simp only [List.getElem?_toArray, List.getElem?_cons_succ, List.getElem?_cons_zero]; rfl) (by rfl) (by exact fun _ _ _ h => h) (by first | exact fun _ => HST3.out | exact fun _ => HK7.out | exact fun h => absurd h (by decide +kernel)) ?_ ?_
                rotate_left 1
                focus (intro w8; go_simp; (try with_reducible rfl); done)
                try simp only [Act.put, List.setIfInBounds_toArray, List.set_cons_zero, List.set_cons_succ]
                refine Cd.untilT (v := ?_) 15 (by decide +kernel) (by decide +kernel) (by decide +kernel) (by kernel_rfl) (by simp only [List.getElem?_toArray, List.getElem?_cons_succ, List.getElem?_cons_zero]; rfl) (by rfl) (by exact fun _ _ _ h => h) (by first | exact fun _ => HST3.out | exact fun _ => HK7.out | exact fun h => absurd h (by decide +kernel)) ?_ ?_
                rotate_left 1
                focus (intro w8; go_simp; (try with_reducible rfl); done)
                try simp only [Act.put, List.setIfInBounds_toArray, List.set_cons_zero, List.set_cons_succ]
                refine Cd.untilT (v := ?_) 16 (by decide +kernel) (by decide +kernel) (by decide +kernel) (by kernel_rfl) (by simp only [List.getElem?_toArray, List.getElem?_cons_succ, List.getElem?_cons_zero]; rfl) (by rfl) (by exact fun _ _ _ h => h) (by first | exact fun _ => HST3.out | exact fun _ => HK7.out | exact fun h => absurd h (by decide +kernel)) ?_ ?_
                rotate_left 1
                focus (intro w8; go_simp; (try with_reducible rfl); done)
                try simp only [Act.put, List.setIfInBounds_toArray, List.set_cons_zero, List.set_cons_succ]
                refine Cd.untilT (v := ?_) 17 (by decide +kernel) (by decide +kernel) (by decide +kernel) (by kernel_rfl) (by simp only [List.getElem?_toArray, List.getElem?_cons_succ, List.getElem?_cons_zero]; rfl) (by rfl) (by exact fun _ _ _ h => h) (by first | exact fun _ => HST3.out | exact fun _ => HK7.out | exact fun h => absurd h (by decide +kernel)) ?_ ?_
                rotate_left 1
                focus (intro w8; go_simp; (try with_reducible rfl); done)
                try simp only [Act.put, List.setIfInBounds_toArray, List.set_cons_zero, List.set_cons_succ]
                refine Cd.until_one (i := 1) (by decide +kernel) (by simp only [List.getElem?_toArray, List.getElem?_cons_succ, List.getElem?_cons_zero]; rfl) ?_
                intro K hK
                go_simp
                go_at_call 117; (try rw [hsh]); (try rw [hsh9]); (with_reducible refine HRC2.out.mono ?_); rintro e w7 ⟨rfl, b7⟩
                have HB7 := Lib.hid b7
                have HK7 := Lib.hid (HKP.out _ b7)
                clear b7
                go_wp2_with fail
                refine hK.out _ _ (by first | exact fun _ => HST3.out | exact fun _ => HK7.out | exact fun h => absurd h (by decide +kernel)) ?_
                clear hK K
                try simp only [Act.put, List.setIfInBounds_toArray, List.set_cons_zero, List.set_cons_succ]
                refine Cd.until_one (i := 18) (by decide +kernel) (by simp only [List.getElem?_toArray, List.getElem?_cons_succ, List.getElem?_cons_zero]; rfl) ?_
                intro K hK
                go_simp
                (try rw [hs4])
                (try rw [hext2])
                (try rw [hcmp])
                go_wp2_with fail
                refine hK.out _ _ (by first | exact fun _ => HK7.out | exact fun h => absurd h (by decide +kernel)) ?_
                clear hK K
                try simp only [Act.put, List.setIfInBounds_toArray, List.set_cons_zero, List.set_cons_succ]
                refine Cd.until_done (by decide +kernel) ?_ _
                have HB8 := Lib.hid (show Below wr.drew.drew.drew.heap.size wr.drew.drew.drew w7.drew from ⟨HB7.out.os, HB7.out.tape, HB7.out.output, HB7.out.size, HB7.out.block⟩)
                have HST4 := Lib.hid (HKP.out _ HB8.out)
                go_wp2_with fail
                go_region_held3 (fun w7 => w7.cell? ⟨g, 0, none⟩ = some (.string b) ∧ w7.cell? ⟨g, 1, none⟩ = some (.int .i64 (at_ : Int))) (first | assumption | exact HST4.out) (fail)
                go_wp2_with fail
                go_ret3
                exact ⟨ret3_eq (by first | rfl | exact congrArg (Value.int .u64) hsh) (congrArg (Value.int .i64) (by push_cast; omega)) rfl, HBL.out _ HB8.out⟩
              · have hl4 : lastErr k c = 4 := by
                  unfold lastErr at hle ⊢
                  split
                  · rfl
                  · rename_i h; rw [if_neg h] at hle; exact absurd rfl hle
                have hr : r = (0, 0, 4) := by
                  rw [← HR.out]
                  unfold cntR
                  rw [← hd, hl4]
                  rfl
                subst hr
                have hcmp : (enc (addB acc c k) == (S (l.take (k + 1))).toList) = false := by
                  rw [ByteArray.toList_eq, S_toList]
                  simp only [beq_eq_false_iff_ne, ne_eq]
                  exact fun e => hle (hiff.1 e)
                have hext2 := hext
                go_wp2_with fail
                refine Cd.until_start 18 (fun w7 => w7.cell? ⟨g, 0, none⟩ = some (.string b) ∧ w7.cell? ⟨g, 1, none⟩ = some (.int .i64 (at_ : Int))) (by kernel_rfl) ?_
                refine Cd.untilT (v := ?_) 0 (by decide +kernel) (by decide +kernel) (by decide +kernel) (by kernel_rfl) (by simp only [List.getElem?_toArray, List.getElem?_cons_succ, List.getElem?_cons_zero]; rfl) (by rfl) (by exact fun _ _ _ h => h) (by first | exact fun _ => HST3.out | exact fun _ => HK7.out | exact fun h => absurd h (by decide +kernel)) ?_ ?_
                rotate_left 1
                focus (intro w8; go_simp; (try with_reducible rfl); done)
                try simp only [Act.put, List.setIfInBounds_toArray, List.set_cons_zero, List.set_cons_succ]
                refine Cd.untilT (v := ?_) 2 (by decide +kernel) (by decide +kernel) (by decide +kernel) (by kernel_rfl) (by simp only [List.getElem?_toArray, List.getElem?_cons_succ, List.getElem?_cons_zero]; rfl) (by rfl) (by exact fun _ _ _ h => h) (by first | exact fun _ => HST3.out | exact fun _ => HK7.out | exact fun h => absurd h (by decide +kernel)) ?_ ?_
                rotate_left 1
                focus (intro w8; go_simp; (try with_reducible rfl); done)
                try simp only [Act.put, List.setIfInBounds_toArray, List.set_cons_zero, List.set_cons_succ]
                refine Cd.untilT (v := ?_) 3 (by decide +kernel) (by decide +kernel) (by decide +kernel) (by kernel_rfl) (by simp only [List.getElem?_toArray, List.getElem?_cons_succ, List.getElem?_cons_zero]; rfl) (by rfl) (by exact fun _ _ _ h => h) (by first | exact fun _ => HST3.out | exact fun _ => HK7.out | exact fun h => absurd h (by decide +kernel)) ?_ ?_
                rotate_left 1
                focus (intro w8; go_simp; (try with_reducible rfl); done)
                try simp only [Act.put, List.setIfInBounds_toArray, List.set_cons_zero, List.set_cons_succ]
                refine Cd.untilT (v := ?_) 4 (by decide +kernel) (by decide +kernel) (by decide +kernel) (by kernel_rfl) (by simp only [List.getElem?_toArray, List.getElem?_cons_succ, List.getElem?_cons_zero]; rfl) (by rfl) (by exact fun _ _ _ h => h) (by first | exact fun _ => HST3.out | exact fun _ => HK7.out | exact fun h => absurd h (by decide +kernel)) ?_ ?_
                rotate_left 1
                focus (intro w8; go_simp; (try with_reducible rfl); done)
                try simp only [Act.put, List.setIfInBounds_toArray, List.set_cons_zero, List.set_cons_succ]
                refine Cd.untilW (v := ?_) 5 [17, 18] (by decide) (by decide +kernel) (by decide +kernel) (by decide +kernel) (by decide +kernel) (by kernel_rfl) (by simp only [List.getElem?_toArray, List.getElem?_cons_succ, List.getElem?_cons_zero]; rfl) (by rfl) (by exact fun _ _ _ h => h) (by exact HST3.out) ?_ ?_
                rotate_left 1
                focus (intro w8 hSw; (try dsimp only at hSw); obtain ⟨s0, s1⟩ := hSw; go_simp; (try with_reducible rfl); done)
                try simp only [Act.put, List.setIfInBounds_toArray, List.set_cons_zero, List.set_cons_succ]
                refine Cd.untilT (v := ?_) 6 (by decide +kernel) (by decide +kernel) (by decide +kernel) (by kernel_rfl) (by simp only [List.getElem?_toArray, List.getElem?_cons_succ, List.getElem?_cons_zero]; rfl) (by rfl) (by exact fun _ _ _ h => h) (by first | exact fun _ => HST3.out | exact fun _ => HK7.out | exact fun h => absurd h (by decide +kernel)) ?_ ?_
                rotate_left 1
                focus (intro w8; go_simp; (try with_reducible rfl); done)
                try simp only [Act.put, List.setIfInBounds_toArray, List.set_cons_zero, List.set_cons_succ]
                refine Cd.untilT (v := ?_) 7 (by decide +kernel) (by decide +kernel) (by decide +kernel) (by kernel_rfl) (by simp only [List.getElem?_toArray, List.getElem?_cons_succ, List.getElem?_cons_zero]; rfl) (by rfl) (by exact fun _ _ _ h => h) (by first | exact fun _ => HST3.out | exact fun _ => HK7.out | exact fun h => absurd h (by decide +kernel)) ?_ ?_
                rotate_left 1
                focus (intro w8; go_simp; (try with_reducible rfl); done)
                try simp only [Act.put, List.setIfInBounds_toArray, List.set_cons_zero, List.set_cons_succ]
                refine Cd.untilT (v := ?_) 8 (by decide +kernel) (by decide +kernel) (by decide +kernel) (by kernel_rfl) (by simp only [List.getElem?_toArray, List.getElem?_cons_succ, List.getElem?_cons_zero]; rfl) (by rfl) (by exact fun _ _ _ h => h) (by first | exact fun _ => HST3.out | exact fun _ => HK7.out | exact fun h => absurd h (by decide +kernel)) ?_ ?_
                rotate_left 1
                focus (intro w8; go_simp; (try with_reducible rfl); done)
                try simp only [Act.put, List.setIfInBounds_toArray, List.set_cons_zero, List.set_cons_succ]
                refine Cd.untilW (v := ?_) 9 [17, 18] (by decide) (by decide +kernel) (by decide +kernel) (by decide +kernel) (by decide +kernel) (by kernel_rfl) (by simp only [List.getElem?_toArray, List.getElem?_cons_succ, List.getElem?_cons_zero]; rfl) (by rfl) (by exact fun _ _ _ h => h) (by exact HST3.out) ?_ ?_
                rotate_left 1
                focus (intro w8 hSw; (try dsimp only at hSw); obtain ⟨s0, s1⟩ := hSw; go_simp; (try with_reducible rfl); done)
                try simp only [Act.put, List.setIfInBounds_toArray, List.set_cons_zero, List.set_cons_succ]
                refine Cd.untilT (v := ?_) 10 (by decide +kernel) (by decide +kernel) (by decide +kernel) (by kernel_rfl) (by simp only [List.getElem?_toArray, List.getElem?_cons_succ, List.getElem?_cons_zero]; rfl) (by rfl) (by exact fun _ _ _ h => h) (by first | exact fun _ => HST3.out | exact fun _ => HK7.out | exact fun h => absurd h (by decide +kernel)) ?_ ?_
                rotate_left 1
                focus (intro w8; go_simp; (try with_reducible rfl); done)
                try simp only [Act.put, List.setIfInBounds_toArray, List.set_cons_zero, List.set_cons_succ]
                refine Cd.untilT (v := ?_) 11 (by decide +kernel) (by decide +kernel) (by decide +kernel) (by kernel_rfl) (by simp only [List.getElem?_toArray, List.getElem?_cons_succ, List.getElem?_cons_zero]; rfl) (by rfl) (by exact fun _ _ _ h => h) (by first | exact fun _ => HST3.out | exact fun _ => HK7.out | exact fun h => absurd h (by decide +kernel)) ?_ ?_
                rotate_left 1
                focus (intro w8; go_simp; (try with_reducible rfl); done)
                try simp only [Act.put, List.setIfInBounds_toArray, List.set_cons_zero, List.set_cons_succ]
                refine Cd.untilT (v := ?_) 12 (by decide +kernel) (by decide +kernel) (by decide +kernel) (by kernel_rfl) (by simp only [List.getElem?_toArray, List.getElem?_cons_succ, List.getElem?_cons_zero]; rfl) (by rfl) (by exact fun _ _ _ h => h) (by first | exact fun _ => HST3.out | exact fun _ => HK7.out | exact fun h => absurd h (by decide +kernel)) ?_ ?_
                rotate_left 1
                focus (intro w8; go_simp; (try with_reducible rfl); done)
                try simp only [Act.put, List.setIfInBounds_toArray, List.set_cons_zero, List.set_cons_succ]
                refine Cd.untilW (v := ?_) 13 [15, 16, 17, 18] (by decide) (by decide +kernel) (by decide +kernel) (by decide +kernel) (by decide +kernel) (by kernel_rfl) (by simp only [List.getElem?_toArray, List.getElem?_cons_succ, List.getElem?_cons_zero]; rfl) (by rfl) (by exact fun _ _ _ h => h) (by exact HST3.out) ?_ ?_
                rotate_left 1
                focus (intro w8 hSw; (try dsimp only at hSw); obtain ⟨s0, s1⟩ := hSw; go_simp; (try with_reducible rfl); done)
                try simp only [Act.put, List.setIfInBounds_toArray, List.set_cons_zero, List.set_cons_succ]
                refine Cd.untilT (v := ?_) 14 (by decide +kernel) (by decide +kernel) (by decide +kernel) (by kernel_rfl) (by simp only [List.getElem?_toArray, List.getElem?_cons_succ, List.getElem?_cons_zero]; rfl) (by rfl) (by exact fun _ _ _ h => h) (by first | exact fun _ => HST3.out | exact fun _ => HK7.out | exact fun h => absurd h (by decide +kernel)) ?_ ?_
                rotate_left 1
                focus (intro w8; go_simp; (try with_reducible rfl); done)
                try simp only [Act.put, List.setIfInBounds_toArray, List.set_cons_zero, List.set_cons_succ]
                refine Cd.untilT (v := ?_) 15 (by decide +kernel) (by decide +kernel) (by decide +kernel) (by kernel_rfl) (by simp only [List.getElem?_toArray, List.getElem?_cons_succ, List.getElem?_cons_zero]; rfl) (by rfl) (by exact fun _ _ _ h => h) (by first | exact fun _ => HST3.out | exact fun _ => HK7.out | exact fun h => absurd h (by decide +kernel)) ?_ ?_
                rotate_left 1
                focus (intro w8; go_simp; (try with_reducible rfl); done)
                try simp only [Act.put, List.setIfInBounds_toArray, List.set_cons_zero, List.set_cons_succ]
                refine Cd.untilT (v := ?_) 16 (by decide +kernel) (by decide +kernel) (by decide +kernel) (by kernel_rfl) (by simp only [List.getElem?_toArray, List.getElem?_cons_succ, List.getElem?_cons_zero]; rfl) (by rfl) (by exact fun _ _ _ h => h) (by first | exact fun _ => HST3.out | exact fun _ => HK7.out | exact fun h => absurd h (by decide +kernel)) ?_ ?_
                rotate_left 1
                focus (intro w8; go_simp; (try with_reducible rfl); done)
                try simp only [Act.put, List.setIfInBounds_toArray, List.set_cons_zero, List.set_cons_succ]
                refine Cd.untilT (v := ?_) 17 (by decide +kernel) (by decide +kernel) (by decide +kernel) (by kernel_rfl) (by simp only [List.getElem?_toArray, List.getElem?_cons_succ, List.getElem?_cons_zero]; rfl) (by rfl) (by exact fun _ _ _ h => h) (by first | exact fun _ => HST3.out | exact fun _ => HK7.out | exact fun h => absurd h (by decide +kernel)) ?_ ?_
                rotate_left 1
                focus (intro w8; go_simp; (try with_reducible rfl); done)
                try simp only [Act.put, List.setIfInBounds_toArray, List.set_cons_zero, List.set_cons_succ]
                refine Cd.until_one (i := 1) (by decide +kernel) (by simp only [List.getElem?_toArray, List.getElem?_cons_succ, List.getElem?_cons_zero]; rfl) ?_
                intro K hK
                go_simp
                go_at_call 117; (try rw [hsh]); (try rw [hsh9]); (with_reducible refine HRC2.out.mono ?_); rintro e w7 ⟨rfl, b7⟩
                have HB7 := Lib.hid b7
                have HK7 := Lib.hid (HKP.out _ b7)
                clear b7
                go_wp2_with fail
                refine hK.out _ _ (by first | exact fun _ => HST3.out | exact fun _ => HK7.out | exact fun h => absurd h (by decide +kernel)) ?_
                clear hK K
                try simp only [Act.put, List.setIfInBounds_toArray, List.set_cons_zero, List.set_cons_succ]
                refine Cd.until_one (i := 18) (by decide +kernel) (by simp only [List.getElem?_toArray, List.getElem?_cons_succ, List.getElem?_cons_zero]; rfl) ?_
                intro K hK
                go_simp
                (try rw [hs4])
                (try rw [hext2])
                (try rw [hcmp])
                go_wp2_with fail
                refine hK.out _ _ (by first | exact fun _ => HK7.out | exact fun h => absurd h (by decide +kernel)) ?_
                clear hK K
                try simp only [Act.put, List.setIfInBounds_toArray, List.set_cons_zero, List.set_cons_succ]
                refine Cd.until_done (by decide +kernel) ?_ _
                go_wp2_with fail
                go_ret3
                exact ⟨rfl, HBL.out _ HB7.out⟩
          · have h128i : ¬ (c.toNat : Int) < 128 := by omega
            have hd := HDE.out.out.2
            rw [hf, dec_more _ _ _ _ (by rw [HL.out]; omega) (by rw [hgk]; exact h128), hgk] at hd
            have hd2 : dec l (10 - (k + 1)) (k + 1) (addB acc c k) = decC l := by rw [show 10 - (k + 1) = 9 - k by omega]; exact hd
            have HD2 := Lib.hid (show addB acc c k < 128 ^ (k + 1) ∧ _ from ⟨hq1, hd2⟩)
            clear hd hd2
            by_cases hk9 : k = 9
            · subst hk9
              omega
            · have hk9i : ¬ (k : Int) = 9 := by omega
              go_wp2_with fail
              go_roundw
              case rel => exact ⟨k + 1, addB acc c k, by omega, by go_num, (by first | rfl | exact congrArg (Value.int .u64) hsh), by omega, HD2, HBD2.out⟩
              case measure => simp [intOf]; omega
    · obtain rfl : k = 10 := by omega
      have hd := HDE.out.out.2
      have hr : r = (0, 0, 4) := by
        rw [← HR.out]
        unfold cntR
        rw [← hd]
        rfl
      subst hr
      clear HR HG HS HDE hd
      go_wp2_with fail
      go_ret3
      exact ⟨rfl, HB.out⟩
end Go.Proofs.Ytkdhchdhgmaolaa.Dd
