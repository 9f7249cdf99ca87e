/-
  The document's own device: New.
-/
import Derived.Test.YtfmcbccmijcdgaaBkRefF
namespace Go.Proofs.Ytfmcbccmijcdgaa.Bk
open Go.RowKit

theorem info_str : (Try.prog.info? 9).map (fun i => (i.zero, i.size, i.bytes)) = some (some (.string ⟨#[]⟩), 1, 16) := by kernel_rfl
theorem newD_succ (k : Nat) : ({ newD k with dur := (newD k).dur ++ [Z64] } : Dev) = newD (k + 1) := by
  unfold newD
  simp only [List.replicate_succ']
structure NewM (w : World) (B : Nat) (lv : Value) (k : Nat) (wr : World) : Prop where
  ref : RefAt wr B lv (.slice none 0 0) (.slice none 0 0) (newD k)
  fresh : ∀ b, lv.ownBlock = some b → w.heap.size ≤ b
  below : Below w.heap.size w wr
def NewR (w : World) (k : Nat) (wr : World) : Prop := ∃ lv, NewM w w.heap.size lv k wr

theorem NewM.step {w : World} {lv : Value} {k : Nat} {wr wb : World} (h : NewM w w.heap.size lv k wr) (b : Below wr.heap.size wr.drew wb) :
    (wb.cell? ⟨w.heap.size, 0, none⟩ = some lv ∧ (wb.alloc (.cells #[.string (S (List.replicate 64 0))] 9)).cell? ⟨w.heap.size, 0, none⟩ = some lv) ∧ w.heap.size < wb.heap.size ∧
    Hid ((wb.alloc (.cells #[.string (S (List.replicate 64 0))] 9)).ownsRow 0 9 1 lv k (strC (List.replicate k Z64))) ∧
    Hid (∀ j u, ([.string (S (List.replicate 64 0))] : List Value)[j]? = some u → (wb.alloc (.cells #[.string (S (List.replicate 64 0))] 9)).cell? ((⟨wb.heap.size, 0, none⟩ : Addr).add j) = some u) ∧
    Hid (∀ g cap w2, World.ownsRow w2 0 9 1 (.slice (some ⟨g, 0, none⟩) (k + 1) cap) (k + 1) (strC (List.replicate k Z64) ++ [.string (S (List.replicate 64 0))]) → (wb.alloc (.cells #[.string (S (List.replicate 64 0))] 9)).grownBy w2 lv.ownBlock → (lv.ownBlock = some g ∨ g = wb.heap.size + 1) →
      w2.cell? ⟨w.heap.size, 0, none⟩ = some lv ∧ w2.frozen? ⟨w.heap.size, 0, none⟩ = false ∧ Hid (NewR w (k + 1) (w2.setCell ⟨w.heap.size, 0, none⟩ (.slice (some ⟨g, 0, none⟩) (k + 1) cap)))) := by
  have r1 := (h.ref.later ((Onl.refl [] wr).drew) (by simp)).later (Onl.of_below (w := wr.drew) (w' := wb) b []) (by simp)
  have r2 := r1.later ((Onl.refl [] wb).alloc (.cells #[.string (S (List.replicate 64 0))] 9)) (by simp)
  have bw : Below w.heap.size w (wb.alloc (.cells #[.string (S (List.replicate 64 0))] 9)) := by
    have hs := h.below.size
    have h1 : Below w.heap.size w wr.drew := ⟨h.below.os, h.below.tape, h.below.output, h.below.size, h.below.block⟩
    have h2 := h1.trans (b.mono hs)
    exact h2.alloc h2.size _
  refine ⟨⟨r1.cells.1.1, r2.cells.1.1⟩, lt_of_heap r1.dev, Lib.hid ?_, Lib.hid ?_, Lib.hid ?_⟩
  · have := r2.lasts
    rw [show (newD k).dur.length = k by simp [newD]] at this
    exact this
  · intro j u hu
    rw [Addr.add_mid, cell_of_row _ _ _ _ _ (0, 0) (heap_alloc_new wb _), Nat.zero_add]; simpa using hu
  · intro g cap w2 own gr hat
    have := r2.growL (x := Z64) gr (nv := .slice (some ⟨g, 0, none⟩) (k + 1) cap) (by
      rw [show (newD k).dur.length = k by simp [newD], strC_snoc]
      exact own)
    rw [newD_succ] at this
    have hfr : ∀ b', (Value.slice (some ⟨g, 0, none⟩) (k + 1) cap).ownBlock = some b' → w.heap.size ≤ b' := by
      intro b' hb'
      simp only [Value.ownBlock, Option.some.injEq] at hb'
      subst hb'
      have hs1 := h.below.size
      have hs2 := b.size
      rcases hat with h1 | h1
      · exact h.fresh _ h1
      · have : wr.drew.heap.size = wr.heap.size := rfl
        omega
    refine ⟨this.1, this.2.1, Lib.hid ⟨_, this.2.2, hfr, ?_⟩⟩
    have hg : Below w.heap.size w w2 := (Onl.of_below (h := bw) []).grown2 gr (fun k' hk' => .inr (h.fresh k' hk')) |>.below (by simp) (Nat.le_refl _)
    exact hg.setCell (Nat.le_refl _) _

set_option linter.unusedSimpArgs false
set_option maxRecDepth 100000 in
set_option maxHeartbeats 3200000 in
theorem refNew_any (n : Int) (hn : n ≤ 4096) (w : World) :
    Calls Try.prog 6 #[.int .i64 n] w fun e w' => e = .returned (.pointer (some ⟨w.heap.size, 0, none⟩)) ∧ NewR w (newN n) w' := by
  have hd0 : newD 0 = ⟨[], [], 0, 0, 0, 0, false⟩ := rfl
  have hst : NewR w 0 (w.alloc (.cells (refC (.slice none 0 0) (.slice none 0 0) (.slice none 0 0) (newD 0)) 50)) :=
    ⟨.slice none 0 0, ⟨heap_alloc_new w _, World.ownsRow_nil _ _ _ _, World.ownsRow_nil _ _ _ _, ⟨0, [], World.ownsRow_nil _ _ _ _⟩, by simp [Value.ownBlock], by simp [Value.ownBlock], by simp [Value.ownBlock], by simp [newD], by simp [newD]⟩, by simp [Value.ownBlock], (Below.refl _ _).alloc (Nat.le_refl _) _⟩
  have HST := Lib.hid hst
  obtain ⟨i0, hi, hz0, hz1, hz2⟩ := info_parts info_str
  have hN : newN n = (if n < 0 then 0 else n.toNat) := by unfold newN; split <;> (try split) <;> omega
  have hNi : ∀ k : Nat, k ≤ newN n → ((k : Int) < n ↔ k < newN n) := by intro k hk; rw [hN] at hk ⊢; split <;> omega
  have hN4 : newN n ≤ 4096 := newN_le n
  have HNI := Lib.hid hNi
  clear hst hd0 hN hNi
  generalize newN n = N at *
  go_enter Try.func6, Try.ntmps6
  go_wp2_with fail
  go_loopw [4] (fun i wr => ∃ k : Nat, k ≤ N ∧ i = .int .i64 k ∧ NewR w k wr) (fun i _ => N - (intOf i).toNat)
  case atStart => exact ⟨0, by omega, rfl, HST.out⟩
  case round =>
    obtain ⟨k, hkm, rfl, ⟨lv, hM⟩⟩ := hrel
    have HM := Lib.hid hM
    obtain ⟨⟨a0, a1, a2, a3, a4, a5, a6, a7⟩, hff, hBl⟩ := hM.ref.cells
    have hf0 := hff 0
    clear hM a1 a2 a3 a4 a5 a6 a7 hff
    by_cases hlt : k < N
    · have h1 : (k : Int) < n := (HNI.out k hkm).2 hlt
      have h2 : (k : Int) < 4096 := by omega
      have HST2 := Lib.hid (fun wb (b : Below wr.heap.size wr.drew wb) => HM.out.step b)
      go_wp2_with fail
      refine wp_region_noPanic ?_
      refine wp_region_held_drew (S := fun _ => True) (by kernel_rfl) trivial ?_
      intro _
      refine wpAnyH_take (i := 0) (oi := _) (v := .pointer (some ⟨w.heap.size, 0, none⟩)) rfl (by kernel_rfl) (by kernel_rfl) (by kernel_rfl) (fun _ _ _ h => h) (Or.inl ⟨by rfl, ?_⟩) trivial ?_
      · intro w hSw
        go_simp
      try simp only [Act.put, List.setIfInBounds_toArray, List.set_cons_zero, List.set_cons_succ]
      refine wpAnyH_take (i := 1) (oi := _) (v := .pointer (some ⟨w.heap.size, 0, none⟩)) rfl (by kernel_rfl) (by kernel_rfl) (by kernel_rfl) (fun _ _ _ h => h) (Or.inl ⟨by rfl, ?_⟩) trivial ?_
      · intro w hSw
        go_simp
      try simp only [Act.put, List.setIfInBounds_toArray, List.set_cons_zero, List.set_cons_succ]
      refine wpAnyH_take (i := 2) (oi := _) (v := .pointer (some ⟨w.heap.size, 0, none⟩)) rfl (by kernel_rfl) (by kernel_rfl) (by kernel_rfl) (fun _ _ _ h => h) (Or.inl ⟨by rfl, ?_⟩) trivial ?_
      · intro w hSw
        go_simp
      try simp only [Act.put, List.setIfInBounds_toArray, List.set_cons_zero, List.set_cons_succ]
      refine wpAnyH_take (i := 3) (oi := _) (v := .pointer (some ⟨w.heap.size, 0, none⟩)) rfl (by kernel_rfl) (by kernel_rfl) (by kernel_rfl) (fun _ _ _ h => h) (Or.inl ⟨by rfl, ?_⟩) trivial ?_
      · intro w hSw
        go_simp
      try simp only [Act.put, List.setIfInBounds_toArray, List.set_cons_zero, List.set_cons_succ]
      refine wpAnyH_ready (rs := [4, 5]) (by kernel_rfl) (by simp) ?_
      refine AllReadyH.cons (o := _) rfl (fun K hK => ?_) (AllReadyH.cons (o := _) rfl (fun K hK => ?_) AllReadyH.nil)
      · go_simp
        refine hK.out _ _ trivial (fun _ => ?_)
        clear hK K
        try simp only [Act.put, List.setIfInBounds_toArray, List.set_cons_zero, List.set_cons_succ]
        refine wpAnyH_ready (rs := [5]) (by kernel_rfl) (by simp) ?_
        refine AllReadyH.cons (o := _) rfl (fun K hK => ?_) AllReadyH.nil
        go_simp
        refine (blank_any 64 (by omega) _).mono ?_
        rintro e wb ⟨rfl, b1⟩
        obtain ⟨⟨hc1, hc2⟩, hwb, HOWN, HNEW, HGR⟩ := HST2.out wb b1
        clear b1
        try dsimp only
        refine hK.out _ _ trivial (fun _ => ?_)
        clear hK K
        try simp only [Act.put, List.setIfInBounds_toArray, List.set_cons_zero, List.set_cons_succ]
        refine wpAnyH_ready (rs := [6]) (by kernel_rfl) (by simp) ?_
        refine AllReadyH.cons (o := _) rfl (fun K hK => ?_) AllReadyH.nil
        go_simp
        refine hK.out _ _ trivial (fun _ => ?_)
        clear hK K
        try simp only [Act.put, List.setIfInBounds_toArray, List.set_cons_zero, List.set_cons_succ]
        refine wpAnyH_ready (rs := [7]) (by kernel_rfl) (by simp) ?_
        refine AllReadyH.cons (o := _) rfl (fun K hK => ?_) AllReadyH.nil
        rw [if_pos (by rfl)]
        refine wp_append_lies _ _ _ 46 rfl 0 9 i0 _ 1 16 Try.underlying46 hi hz0 hz1 hz2 rfl (by omega) lv k (strC (List.replicate k Z64)) rfl HOWN.out ⟨wb.heap.size, 0, none⟩ 1 1 [.string (S (List.replicate 64 0))] rfl rfl HNEW.out (by intro u hu; simp only [List.mem_singleton] at hu; subst hu; rfl) (by omega) (by unfold maxLen; omega) (by omega) (Nat.zero_le _) (wb.heap.size + 1) (by simp) ?_
        intro g cap w2 hown' hgrow hat _
        obtain ⟨hc12, hf12, HX⟩ := HGR.out g cap w2 hown' hgrow hat
        clear hown' hgrow hat
        refine hK.out _ _ trivial (fun _ => ?_)
        clear hK K
        try simp only [Act.put, List.setIfInBounds_toArray, List.set_cons_zero, List.set_cons_succ]
        refine wpAnyH_take (i := 8) (oi := _) (v := .pointer (some ⟨w.heap.size, 0, none⟩)) rfl (by kernel_rfl) (by kernel_rfl) (by kernel_rfl) (fun _ _ _ h => h) (Or.inl ⟨by rfl, ?_⟩) trivial ?_
        · intro w hSw
          go_simp
        try simp only [Act.put, List.setIfInBounds_toArray, List.set_cons_zero, List.set_cons_succ]
        refine wpAnyH_take (i := 9) (oi := _) (v := .pointer (some ⟨w.heap.size, 0, none⟩)) rfl (by kernel_rfl) (by kernel_rfl) (by kernel_rfl) (fun _ _ _ h => h) (Or.inl ⟨by rfl, ?_⟩) trivial ?_
        · intro w hSw
          go_simp
        try simp only [Act.put, List.setIfInBounds_toArray, List.set_cons_zero, List.set_cons_succ]
        refine wpAnyH_ready (rs := [10]) (by kernel_rfl) (by simp) ?_
        refine AllReadyH.cons (o := _) rfl (fun K hK => ?_) AllReadyH.nil
        go_simp
        refine hK.out _ _ trivial (fun _ => ?_)
        clear hK K
        try simp only [Act.put, List.setIfInBounds_toArray, List.set_cons_zero, List.set_cons_succ]
        refine wpAnyH_done (by kernel_rfl) ?_ _
        refine NoPanic.normal ?_
        go_wp2_with fail
        go_roundw
        case rel => exact ⟨k + 1, hlt, by go_num, HX.out⟩
        case measure => simp [intOf]; omega
      · go_simp
        refine (blank_any 64 (by omega) _).mono ?_
        rintro e wb ⟨rfl, b1⟩
        obtain ⟨⟨hc1, hc2⟩, hwb, HOWN, HNEW, HGR⟩ := HST2.out wb b1
        clear b1
        try dsimp only
        refine hK.out _ _ trivial (fun _ => ?_)
        clear hK K
        try simp only [Act.put, List.setIfInBounds_toArray, List.set_cons_zero, List.set_cons_succ]
        refine wpAnyH_ready (rs := [4, 6]) (by kernel_rfl) (by simp) ?_
        refine AllReadyH.cons (o := _) rfl (fun K hK => ?_) (AllReadyH.cons (o := _) rfl (fun K hK => ?_) AllReadyH.nil)
        · go_simp
          refine hK.out _ _ trivial (fun _ => ?_)
          clear hK K
          try simp only [Act.put, List.setIfInBounds_toArray, List.set_cons_zero, List.set_cons_succ]
          refine wpAnyH_ready (rs := [6]) (by kernel_rfl) (by simp) ?_
          refine AllReadyH.cons (o := _) rfl (fun K hK => ?_) AllReadyH.nil
          go_simp
          refine hK.out _ _ trivial (fun _ => ?_)
          clear hK K
          try simp only [Act.put, List.setIfInBounds_toArray, List.set_cons_zero, List.set_cons_succ]
          refine wpAnyH_ready (rs := [7]) (by kernel_rfl) (by simp) ?_
          refine AllReadyH.cons (o := _) rfl (fun K hK => ?_) AllReadyH.nil
          rw [if_pos (by rfl)]
          refine wp_append_lies _ _ _ 46 rfl 0 9 i0 _ 1 16 Try.underlying46 hi hz0 hz1 hz2 rfl (by omega) lv k (strC (List.replicate k Z64)) rfl HOWN.out ⟨wb.heap.size, 0, none⟩ 1 1 [.string (S (List.replicate 64 0))] rfl rfl HNEW.out (by intro u hu; simp only [List.mem_singleton] at hu; subst hu; rfl) (by omega) (by unfold maxLen; omega) (by omega) (Nat.zero_le _) (wb.heap.size + 1) (by simp) ?_
          intro g cap w2 hown' hgrow hat _
          obtain ⟨hc12, hf12, HX⟩ := HGR.out g cap w2 hown' hgrow hat
          clear hown' hgrow hat
          refine hK.out _ _ trivial (fun _ => ?_)
          clear hK K
          try simp only [Act.put, List.setIfInBounds_toArray, List.set_cons_zero, List.set_cons_succ]
          refine wpAnyH_take (i := 8) (oi := _) (v := .pointer (some ⟨w.heap.size, 0, none⟩)) rfl (by kernel_rfl) (by kernel_rfl) (by kernel_rfl) (fun _ _ _ h => h) (Or.inl ⟨by rfl, ?_⟩) trivial ?_
          · intro w hSw
            go_simp
          try simp only [Act.put, List.setIfInBounds_toArray, List.set_cons_zero, List.set_cons_succ]
          refine wpAnyH_take (i := 9) (oi := _) (v := .pointer (some ⟨w.heap.size, 0, none⟩)) rfl (by kernel_rfl) (by kernel_rfl) (by kernel_rfl) (fun _ _ _ h => h) (Or.inl ⟨by rfl, ?_⟩) trivial ?_
          · intro w hSw
            go_simp
          try simp only [Act.put, List.setIfInBounds_toArray, List.set_cons_zero, List.set_cons_succ]
          refine wpAnyH_ready (rs := [10]) (by kernel_rfl) (by simp) ?_
          refine AllReadyH.cons (o := _) rfl (fun K hK => ?_) AllReadyH.nil
          go_simp
          refine hK.out _ _ trivial (fun _ => ?_)
          clear hK K
          try simp only [Act.put, List.setIfInBounds_toArray, List.set_cons_zero, List.set_cons_succ]
          refine wpAnyH_done (by kernel_rfl) ?_ _
          refine NoPanic.normal ?_
          go_wp2_with fail
          go_roundw
          case rel => exact ⟨k + 1, hlt, by go_num, HX.out⟩
          case measure => simp [intOf]; omega
        · go_simp
          refine hK.out _ _ trivial (fun _ => ?_)
          clear hK K
          try simp only [Act.put, List.setIfInBounds_toArray, List.set_cons_zero, List.set_cons_succ]
          refine wpAnyH_ready (rs := [4]) (by kernel_rfl) (by simp) ?_
          refine AllReadyH.cons (o := _) rfl (fun K hK => ?_) AllReadyH.nil
          go_simp
          refine hK.out _ _ trivial (fun _ => ?_)
          clear hK K
          try simp only [Act.put, List.setIfInBounds_toArray, List.set_cons_zero, List.set_cons_succ]
          refine wpAnyH_ready (rs := [7]) (by kernel_rfl) (by simp) ?_
          refine AllReadyH.cons (o := _) rfl (fun K hK => ?_) AllReadyH.nil
          rw [if_pos (by rfl)]
          refine wp_append_lies _ _ _ 46 rfl 0 9 i0 _ 1 16 Try.underlying46 hi hz0 hz1 hz2 rfl (by omega) lv k (strC (List.replicate k Z64)) rfl HOWN.out ⟨wb.heap.size, 0, none⟩ 1 1 [.string (S (List.replicate 64 0))] rfl rfl HNEW.out (by intro u hu; simp only [List.mem_singleton] at hu; subst hu; rfl) (by omega) (by unfold maxLen; omega) (by omega) (Nat.zero_le _) (wb.heap.size + 1) (by simp) ?_
          intro g cap w2 hown' hgrow hat _
          obtain ⟨hc12, hf12, HX⟩ := HGR.out g cap w2 hown' hgrow hat
          clear hown' hgrow hat
          refine hK.out _ _ trivial (fun _ => ?_)
          clear hK K
          try simp only [Act.put, List.setIfInBounds_toArray, List.set_cons_zero, List.set_cons_succ]
          refine wpAnyH_take (i := 8) (oi := _) (v := .pointer (some ⟨w.heap.size, 0, none⟩)) rfl (by kernel_rfl) (by kernel_rfl) (by kernel_rfl) (fun _ _ _ h => h) (Or.inl ⟨by rfl, ?_⟩) trivial ?_
          · intro w hSw
            go_simp
          try simp only [Act.put, List.setIfInBounds_toArray, List.set_cons_zero, List.set_cons_succ]
          refine wpAnyH_take (i := 9) (oi := _) (v := .pointer (some ⟨w.heap.size, 0, none⟩)) rfl (by kernel_rfl) (by kernel_rfl) (by kernel_rfl) (fun _ _ _ h => h) (Or.inl ⟨by rfl, ?_⟩) trivial ?_
          · intro w hSw
            go_simp
          try simp only [Act.put, List.setIfInBounds_toArray, List.set_cons_zero, List.set_cons_succ]
          refine wpAnyH_ready (rs := [10]) (by kernel_rfl) (by simp) ?_
          refine AllReadyH.cons (o := _) rfl (fun K hK => ?_) AllReadyH.nil
          go_simp
          refine hK.out _ _ trivial (fun _ => ?_)
          clear hK K
          try simp only [Act.put, List.setIfInBounds_toArray, List.set_cons_zero, List.set_cons_succ]
          refine wpAnyH_done (by kernel_rfl) ?_ _
          refine NoPanic.normal ?_
          go_wp2_with fail
          go_roundw
          case rel => exact ⟨k + 1, hlt, by go_num, HX.out⟩
          case measure => simp [intOf]; omega
    · obtain rfl : k = N := by omega
      have h1 : ¬ ((k : Int) < n) := fun h => hlt ((HNI.out k hkm).1 h)
      have HFIN := Lib.hid (show NewR w k wr from ⟨lv, HM.out⟩)
      go_wp2_with fail
      go_ret
      exact ⟨rfl, HFIN.out⟩

end Go.Proofs.Ytfmcbccmijcdgaa.Bk
