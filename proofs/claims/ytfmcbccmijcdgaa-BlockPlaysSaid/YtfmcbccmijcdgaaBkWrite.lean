/-
  The walk over package block's Write.
-/
import Derived.Test.YtfmcbccmijcdgaaBkKill
import Derived.Deep.RegionHeld3
import Derived.Deep.AppendLies
import Derived.Great.BuildSlice
import Derived.Lib.BufferWrite
namespace Go.Proofs.Ytfmcbccmijcdgaa.Bk
open Go.RowKit

theorem setRow_fresh (w : World) (cs ds : Array Value) (T : TypeId) : (w.alloc (.cells cs T)).setRow w.heap.size ds = w.alloc (.cells ds T) := by
  unfold World.setRow World.alloc
  congr 1
  apply Array.ext
  · simp
  · intro i h1 h2
    rw [Array.getElem_modify]
    by_cases e : w.heap.size = i
    · subst e; simp
    · simp at h1
      rw [if_neg e, Array.getElem_push_lt (by omega), Array.getElem_push_lt (by omega)]

/-- copy of a string into a write's bytes. -/
theorem copy_wr (w : World) (i : Nat) (s : ByteArray) (hs : s.size = 64) :
    (Builtin.copy_ #[69, 9] 3 #[.slice (some ⟨w.heap.size, 1, none⟩) 64 64, .string s]).run Try.prog (w.alloc (.cells (wrC i Z64).toArray 68)) = .ok (.int .i64 64) (w.alloc (.cells (wrC i s.data.toList).toArray 68)) := by
  have hz : (wrC i Z64).length = 65 := by rw [wrC_length, Z64_length]
  have h := Lib.run_copy_row_string (P := Try.prog) (w.alloc (.cells (wrC i Z64).toArray 68)) 69 9 3 5 w.heap.size 1 64 64 s (wrC i Z64).toArray 68
    Try.underlying69 (by kernel_rfl) (heap_alloc_new w _) (by omega) (by rw [List.size_toArray, hz]; omega)
  rw [setRow_fresh] at h
  have e : ((wrC i Z64).toArray.toList.take 1 ++ Lib.byteCells s.data.toList ++ (wrC i Z64).toArray.toList.drop (1 + s.size)).toArray = (wrC i s.data.toList).toArray := by
    rw [hs]
    have : (wrC i Z64).drop 65 = [] := List.drop_eq_nil_of_le (by omega)
    simp only [this, Nat.reduceAdd, List.append_nil]
    simp [wrC, secC, Lib.byteCells]
  rw [e] at h
  rw [h, hs]
  rfl

theorem fill_wr (i : Nat) (l : List UInt8) (hl : l.length = 64) (cells : Array Value) (hc : cells.size = 65) :
    Instr.fill (fun j => some (j * 65, 65)) cells [(0, .agg (wrC i l).toArray)] = some (wrC i l).toArray := by
  have h := Great.fill_whole (s := 65) (by omega) [.agg (wrC i l).toArray] cells (by
    intro v hv
    simp only [List.mem_singleton] at hv
    subst hv
    simp [Value.cells, wrC_length, hl]) (by rw [hc]; rfl)
  simpa [Value.cells] using h

theorem size_map65 (f : Nat → Value) : ((Array.range (1 * 65)).map f).size = 65 := by simp

theorem pendC_snoc (p : List (Nat × List UInt8)) (i : Nat) (l : List UInt8) : pendC (p ++ [(i, l)]) = pendC p ++ wrC i l := by simp [pendC]
/-- A write's block, as an object. -/
def wrO (i : Nat) (l : List UInt8) : Obj := .cells (wrC i l).toArray 68

theorem write_grow {w : World} {D R : Nat} {pv : Value} {d : Dev} (h : DevAt w D R pv d) (i : Nat) (l : List UInt8) (hi : i < d.dur.length) (hl : l.length = 64) (g cap : Nat) (w2 : World)
    (own : w2.ownsRow 0 68 65 (.slice (some ⟨g, 0, none⟩) (d.pend.length + 1) cap) (d.pend.length + 1) (pendC d.pend ++ wrC i l))
    (gr : (((w.alloc (wrO i l)).alloc (wrO i l)).drew).grownBy w2 pv.ownBlock) (hat : pv.ownBlock = some g ∨ g = w.heap.size + 2) :
    w2.rangeAt w.heap.size 0 (wrC i l) ∧ w2.cell? ⟨D, 1, none⟩ = some pv ∧ w2.frozen? ⟨D, 1, none⟩ = false ∧
    Hid ((w2.setCell ⟨D, 1, none⟩ (.slice (some ⟨g, 0, none⟩) (d.pend.length + 1) cap)).rangeAt w.heap.size 0 (wrC i l) ∧
      DevAt (w2.setCell ⟨D, 1, none⟩ (.slice (some ⟨g, 0, none⟩) (d.pend.length + 1) cap)) D R (.slice (some ⟨g, 0, none⟩) (d.pend.length + 1) cap) { d with pend := d.pend ++ [(i, l)] } ∧
      Onl (blocks D R pv) w (w2.setCell ⟨D, 1, none⟩ (.slice (some ⟨g, 0, none⟩) (d.pend.length + 1) cap))) := by
  have hDs := lt_of_heap h.dev
  have hRs := lt_of_heap h.row
  have hsz : (((w.alloc (wrO i l)).alloc (wrO i l)).drew).heap.size = w.heap.size + 2 := by simp
  have hold : ∀ k, k < w.heap.size → (((w.alloc (wrO i l)).alloc (wrO i l)).drew).heap[k]? = w.heap[k]? := fun k hk => by
    show ((w.alloc (wrO i l)).alloc (wrO i l)).heap[k]? = _
    rw [Below.heap_alloc _ _ _ (by simp; omega), Below.heap_alloc _ _ _ hk]
  have hpb : ∀ k, pv.ownBlock = some k → k < w.heap.size := fun k hk => (h.own.lt k hk).2
  have hD2 : w2.heap[D]? = w.heap[D]? := (gr.block D (by omega) (fun e => h.PD e.symm)).trans (hold D hDs)
  have hR2 : w2.heap[R]? = w.heap[R]? := (gr.block R (by omega) (fun e => h.PR e.symm)).trans (hold R hRs)
  have hN2 : w2.heap[w.heap.size]? = some (wrO i l) := by
    rw [gr.block w.heap.size (by omega) (fun e => by have := hpb _ e.symm; omega)]
    show ((w.alloc (wrO i l)).alloc (wrO i l)).heap[w.heap.size]? = _
    rw [Below.heap_alloc _ _ _ (by simp)]
    exact heap_alloc_new w _
  have hgD : g ≠ D := by
    rcases hat with h1 | h1
    · intro e; apply h.PD; rw [h1, e]
    · omega
  have hgR : g ≠ R := by
    rcases hat with h1 | h1
    · intro e; apply h.PR; rw [h1, e]
    · omega
  have hrng : ∀ w3 : World, w3.heap[w.heap.size]? = some (wrO i l) → w3.rangeAt w.heap.size 0 (wrC i l) := fun w3 h3 j v hv => by
    rw [cell_of_row w3 w.heap.size (0 + j) _ _ (0, 0) h3, List.getElem?_toArray, Nat.zero_add]; exact hv
  have hlen : (d.pend ++ [(i, l)]).length = d.pend.length + 1 := by simp
  refine ⟨hrng w2 hN2, (cell_of_row w2 D 1 _ _ (0, 0) (hD2.trans h.dev)).trans rfl, frozen_of_row w2 D 1 _ _ (hD2.trans h.dev), ?_, ?_, ?_⟩
  · refine hrng _ ?_
    rw [Below.heap_setCell _ _ _ _ (by show w.heap.size ≠ D; omega)]
    exact hN2
  · refine h.setPend (d.pend ++ [(i, l)]) hD2 hR2 (by rw [hlen, pendC_snoc]; exact own) (by simpa [Value.ownBlock] using hgD) (by simpa [Value.ownBlock] using hgR) ?_
    intro x hx
    rcases List.mem_append.1 hx with h1 | h1
    · exact h.ok.pend x h1
    · simp only [List.mem_singleton] at h1
      subst h1
      exact ⟨hi, hl⟩
  · refine Onl.setCell ?_ (by simp [blocks]) _
    exact ((((Onl.refl (blocks D R pv) w).alloc _).alloc _).drew).grown gr (fun k hk => by simp [blocks, hk])

/-- A row's block is the one that it was, or new. -/
def Fresh (w : World) (pv pv' : Value) : Prop := ∀ k, pv'.ownBlock = some k → pv.ownBlock = some k ∨ w.heap.size ≤ k
theorem Fresh.refl (w : World) (pv : Value) : Fresh w pv pv := fun _ h => Or.inl h
theorem Fresh.nil (w : World) (pv : Value) : Fresh w pv (.slice none 0 0) := fun _ h => by simp [Value.ownBlock] at h
theorem Fresh.trans {a b : World} {p q r : Value} (h : Fresh a p q) (k : Fresh b q r) (hs : a.heap.size ≤ b.heap.size) : Fresh a p r := fun x hx => by
  rcases k x hx with h1 | h1
  · exact h x h1
  · exact Or.inr (by omega)
theorem Fresh.of_at {w : World} {pv : Value} {g n cap : Nat} (hat : pv.ownBlock = some g ∨ g = w.heap.size + 2) : Fresh w pv (.slice (some ⟨g, 0, none⟩) n cap) := fun k hk => by
  simp only [Value.ownBlock, Option.some.injEq] at hk
  subst hk
  rcases hat with h1 | h1
  · exact Or.inl h1
  · exact Or.inr (by omega)

set_option linter.unusedSimpArgs false
set_option maxRecDepth 100000 in
set_option maxHeartbeats 3200000 in
/-- Write, of a sector that is there. -/
theorem write_main {w : World} {D R : Nat} {pv : Value} {d : Dev} (h : DevAt w D R pv d) (hm : d.pend.length < 1000) (i : Nat) (s : ByteArray) (hs : s.size = 64) (hr : refE d i = 0) :
    Calls Try.prog 19 #[.pointer (some ⟨D, 0, none⟩), .int .i64 (i : Int), .string s] w fun e w' =>
      e = .returned (.int .i64 (burnE d : Nat)) ∧ (∃ pv', DevAt w' D R pv' (burnD { d with pend := d.pend ++ [(i, s.data.toList)] }) ∧ Fresh w pv pv') ∧ Onl (blocks D R pv) w w' := by
  have hil : i < d.dur.length := by
    unfold refE at hr
    by_cases ho : d.off = true
    · rw [if_pos ho] at hr; omega
    · rw [if_neg ho] at hr
      by_cases hh : (i : Int) < 0 ∨ (d.dur.length : Int) ≤ i
      · rw [if_pos hh] at hr; omega
      · omega
  have href := refuses_any h i
  rw [hr] at href
  have HREF := Lib.hid href
  obtain ⟨⟨c0, c1, c2, c3, c4, c5, c6⟩, ⟨f0, f1, f2, f3, f4, f5, f6⟩, hlt⟩ := h.cells
  have hs' : s.data.toList.length = 64 := by rw [list_size]; exact hs
  have hzw := zero_wr
  have hwn := wr_ne
  have hws := wr_set
  have h65 : (wrC i Z64).length = 65 := by rw [wrC_length, Z64_length]
  have hst := store_fresh w 68 (wrC 0 Z64) (wrC i Z64) (by rw [h65]; exact size_wr) (by rw [wrC_length, wrC_length]) (wrC_one _ _)
  have hcp := copy_wr w i s hs
  clear href c0 c2 c3 c4 c5 c6 f0 f2 f3 f4 f5 f6
  go_enter Try.func19, Try.ntmps19
  go_wp2_with fail
  refine HREF.out.mono ?_
  rintro e w1 ⟨rfl, rfl⟩
  go_wp2_with (at_builtin; refine Lib.wpList_copy_run _ rfl _ _ 69 9 rfl _ _ rfl rfl hcp ?_)
  have hS : (w.alloc (.cells (wrC i s.data.toList).toArray 68)).drew.rangeAt w.heap.size 0 (wrC i s.data.toList) := fun j v hv => by
    rw [World.cell?_drew, cell_of_row _ w.heap.size (0 + j) _ _ (0, 0) (heap_alloc_new w _), List.getElem?_toArray, Nat.zero_add]; exact hv
  have hw1 : (wrC i s.data.toList).length = 65 := by rw [wrC_length, hs']
  have hsz : (Try.prog.info? 68).map (·.size) = some (wrC i s.data.toList).length := by rw [hw1]; exact size_wr
  have HSZ := Lib.hid hsz
  obtain ⟨i0, hi, hz0, hz1, hz2⟩ := info_parts info_wr
  have hS2 : ((w.alloc (.cells (wrC i s.data.toList).toArray 68)).alloc (.cells (wrC i s.data.toList).toArray 68)).drew.rangeAt w.heap.size 0 (wrC i s.data.toList) := fun j v hv => by
    rw [World.cell?_drew, World.cell?_alloc_old _ _ _ (by simp)]
    exact hS j v hv
  have hnew : ∀ j u, (wrC i s.data.toList)[j]? = some u → ((w.alloc (.cells (wrC i s.data.toList).toArray 68)).alloc (.cells (wrC i s.data.toList).toArray 68)).drew.cell? ((⟨w.heap.size + 1, 0, none⟩ : Addr).add j) = some u := fun j u hu => by
    rw [Addr.add_mid, World.cell?_drew]
    have hh := heap_alloc_new (w.alloc (.cells (wrC i s.data.toList).toArray 68)) (.cells (wrC i s.data.toList).toArray 68)
    rw [show (w.alloc (.cells (wrC i s.data.toList).toArray 68)).heap.size = w.heap.size + 1 by simp] at hh
    rw [cell_of_row _ _ _ _ _ (0, 0) hh, List.getElem?_toArray, Nat.zero_add]; exact hu
  have HOWN := Lib.hid (show ((w.alloc (.cells (wrC i s.data.toList).toArray 68)).alloc (.cells (wrC i s.data.toList).toArray 68)).drew.ownsRow 0 68 65 pv d.pend.length (pendC d.pend) from
    (h.own.alloc _).alloc _)
  have HNEW := Lib.hid hnew
  have hN1 : (w.alloc (.cells (wrC i s.data.toList).toArray 68)).drew.heap.size = w.heap.size + 1 := by simp
  have HDEV := Lib.hid h
  clear hnew h
  refine wp_region_noPanic ?_
  refine wp_region_held_drew (S := fun w' => w'.rangeAt w.heap.size 0 (wrC i s.data.toList)) (by kernel_rfl) hS ?_
  intro hHeld
  refine wpAnyH_take (i := 0) (oi := _) (v := .pointer (some ⟨D, 0, none⟩)) rfl (by kernel_rfl) (by kernel_rfl) (by kernel_rfl) (fun _ _ _ h => h) (Or.inl ⟨by rfl, ?_⟩) (by assumption) ?_
  · intro w hSw
    go_simp
  try simp only [Act.put, List.setIfInBounds_toArray, List.set_cons_zero, List.set_cons_succ]
  refine wpAnyH_take (i := 1) (oi := _) (v := .pointer (some ⟨D, 0, none⟩)) rfl (by kernel_rfl) (by kernel_rfl) (by kernel_rfl) (fun _ _ _ h => h) (Or.inl ⟨by rfl, ?_⟩) (by assumption) ?_
  · intro w hSw
    go_simp
  try simp only [Act.put, List.setIfInBounds_toArray, List.set_cons_zero, List.set_cons_succ]
  refine wpAnyH_take (i := 2) (oi := _) (v := .pointer (some ⟨D, 0, none⟩)) rfl (by kernel_rfl) (by kernel_rfl) (by kernel_rfl) (fun _ _ _ h => h) (Or.inl ⟨by rfl, ?_⟩) (by assumption) ?_
  · intro w hSw
    go_simp
  try simp only [Act.put, List.setIfInBounds_toArray, List.set_cons_zero, List.set_cons_succ]
  refine wpAnyH_take (i := 3) (oi := _) (v := .pointer (some ⟨D, 1, none⟩)) rfl (by kernel_rfl) (by kernel_rfl) (by kernel_rfl) (fun _ _ _ h => h) (Or.inl ⟨by rfl, ?_⟩) (by assumption) ?_
  · intro w hSw
    go_simp
  try simp only [Act.put, List.setIfInBounds_toArray, List.set_cons_zero, List.set_cons_succ]
  refine wpAnyH_take (i := 5) (oi := _) (v := _) rfl (by kernel_rfl) (by kernel_rfl) (by kernel_rfl) (fun _ _ _ h => h)
    (yieldsIf_load_mid (by rfl) 68 _ rfl w.heap.size 0 rfl (wrC i s.data.toList) _ (fun _ h => h) Try.underlying68 rfl HSZ.out) (by assumption) ?_
  try simp only [Act.put, List.setIfInBounds_toArray, List.set_cons_zero, List.set_cons_succ]
  refine wpAnyH_ready (rs := [4, 6]) (by kernel_rfl) (by simp) ?_
  refine AllReadyH.cons (o := _) rfl (fun K hK => ?_) (AllReadyH.cons (o := _) rfl (fun K hK => ?_) AllReadyH.nil)
  · go_simp
    refine hK.out _ _ ?_ (fun hHeld => ?_)
    · first | exact hS | exact hS2 | assumption
    clear hK K
    try simp only [Act.put, List.setIfInBounds_toArray, List.set_cons_zero, List.set_cons_succ]
    refine wpAnyH_ready (rs := [6]) (by kernel_rfl) (by simp) ?_
    refine AllReadyH.cons (o := _) rfl (fun K hK => ?_) AllReadyH.nil
    rw [if_pos (by rfl)]
    refine wp_buildSlice 55 68 1 _ rfl (wrC i s.data.toList).toArray i0 _ Try.underlying55 hi hz0 (by rw [hz1]; omega) (by rw [hz1]; omega) (by rw [hz1, Array.toList_map]; exact fill_wr i s.data.toList hs' _ (size_map65 _)) ?_
    show K (Act.put _ (some 30) _) _
    rw [hN1]
    refine hK.out _ _ ?_ (fun hHeld => ?_)
    · first | exact hS | exact hS2 | assumption
    clear hK K
    try simp only [Act.put, List.setIfInBounds_toArray, List.set_cons_zero, List.set_cons_succ]
    refine wpAnyH_ready (rs := [7]) (by kernel_rfl) (by simp) ?_
    refine AllReadyH.cons (o := _) rfl (fun K hK => ?_) AllReadyH.nil
    rw [if_pos (by rfl)]
    refine wp_append_lies _ _ _ _ rfl 0 68 i0 _ 65 72 Try.underlying55 hi hz0 hz1 hz2 (by simp [Value.cells, wrC_length, Z64_length]) (by omega) pv d.pend.length (pendC d.pend) rfl HOWN.out ⟨w.heap.size + 1, 0, none⟩ 1 1 (wrC i s.data.toList) rfl (by rw [wrC_length, hs']) HNEW.out (wrC_one _ _) (by omega) (by unfold maxLen; omega) (by omega) (Nat.zero_le _) (w.heap.size + 2) (by simp) ?_
    intro g cap w2 hown' hgrow hat _
    obtain ⟨hS3, hc12, hf12, HX⟩ := write_grow HDEV.out i s.data.toList hil hs' g cap w2 hown' hgrow hat
    have HAT := Lib.hid hat
    clear hown' hgrow hat
    refine hK.out _ _ ?_ (fun hHeld => ?_)
    · first | exact hS | exact hS2 | assumption
    clear hK K
    try simp only [Act.put, List.setIfInBounds_toArray, List.set_cons_zero, List.set_cons_succ]
    refine wpAnyH_take (i := 8) (oi := _) (v := .pointer (some ⟨D, 0, none⟩)) rfl (by kernel_rfl) (by kernel_rfl) (by kernel_rfl) (fun _ _ _ h => h) (Or.inl ⟨by rfl, ?_⟩) (by assumption) ?_
    · intro w hSw
      go_simp
    try simp only [Act.put, List.setIfInBounds_toArray, List.set_cons_zero, List.set_cons_succ]
    refine wpAnyH_take (i := 9) (oi := _) (v := .pointer (some ⟨D, 1, none⟩)) rfl (by kernel_rfl) (by kernel_rfl) (by kernel_rfl) (fun _ _ _ h => h) (Or.inl ⟨by rfl, ?_⟩) (by assumption) ?_
    · intro w hSw
      go_simp
    try simp only [Act.put, List.setIfInBounds_toArray, List.set_cons_zero, List.set_cons_succ]
    refine wpAnyH_ready (rs := [10]) (by kernel_rfl) (by simp) ?_
    refine AllReadyH.cons (o := _) rfl (fun K hK => ?_) AllReadyH.nil
    go_simp
    have hS4 := HX.out.1
    refine hK.out _ _ ?_ (fun hHeld => ?_)
    · first | exact hS | exact hS2 | assumption
    clear hK K
    try simp only [Act.put, List.setIfInBounds_toArray, List.set_cons_zero, List.set_cons_succ]
    refine wpAnyH_done (by kernel_rfl) ?_ _
    refine NoPanic.normal ?_
    have hb := burn_any HX.out.2.1 (by simp; omega)
    have HBU := Lib.hid hb
    have HON := Lib.hid HX.out.2.2
    clear hb hS hS2 hS3 hS4 hc12 hf12 hHeld HOWN HNEW hi hz0 hz1 hz2 hN1 hzw hwn hws hst hcp hil
    go_wp2_with fail
    refine HBU.out.mono ?_
    rintro e w3 ⟨rfl, ⟨pv3, d3, hp3⟩, o3⟩
    have hfr : Fresh w pv pv3 := by
      rcases hp3 with rfl | rfl
      · exact Fresh.of_at HAT.out
      · exact Fresh.nil _ _
    have HFR := Lib.hid hfr
    have HD3 := Lib.hid d3
    have HO3 := Lib.hid (HON.out.trans (o3.mono (by simp [blocks])))
    clear hfr d3 o3 hp3
    go_wp2_with fail
    go_ret
    exact ⟨rfl, ⟨_, HD3.out, HFR.out⟩, HO3.out⟩
  · rw [if_pos (by rfl)]
    refine wp_buildSlice 55 68 1 _ rfl (wrC i s.data.toList).toArray i0 _ Try.underlying55 hi hz0 (by rw [hz1]; omega) (by rw [hz1]; omega) (by rw [hz1, Array.toList_map]; exact fill_wr i s.data.toList hs' _ (size_map65 _)) ?_
    show K (Act.put _ (some 30) _) _
    rw [hN1]
    refine hK.out _ _ ?_ (fun hHeld => ?_)
    · first | exact hS | exact hS2 | assumption
    clear hK K
    try simp only [Act.put, List.setIfInBounds_toArray, List.set_cons_zero, List.set_cons_succ]
    refine wpAnyH_ready (rs := [4]) (by kernel_rfl) (by simp) ?_
    refine AllReadyH.cons (o := _) rfl (fun K hK => ?_) AllReadyH.nil
    go_simp
    refine hK.out _ _ ?_ (fun hHeld => ?_)
    · first | exact hS | exact hS2 | assumption
    clear hK K
    try simp only [Act.put, List.setIfInBounds_toArray, List.set_cons_zero, List.set_cons_succ]
    refine wpAnyH_ready (rs := [7]) (by kernel_rfl) (by simp) ?_
    refine AllReadyH.cons (o := _) rfl (fun K hK => ?_) AllReadyH.nil
    rw [if_pos (by rfl)]
    refine wp_append_lies _ _ _ _ rfl 0 68 i0 _ 65 72 Try.underlying55 hi hz0 hz1 hz2 (by simp [Value.cells, wrC_length, Z64_length]) (by omega) pv d.pend.length (pendC d.pend) rfl HOWN.out ⟨w.heap.size + 1, 0, none⟩ 1 1 (wrC i s.data.toList) rfl (by rw [wrC_length, hs']) HNEW.out (wrC_one _ _) (by omega) (by unfold maxLen; omega) (by omega) (Nat.zero_le _) (w.heap.size + 2) (by simp) ?_
    intro g cap w2 hown' hgrow hat _
    obtain ⟨hS3, hc12, hf12, HX⟩ := write_grow HDEV.out i s.data.toList hil hs' g cap w2 hown' hgrow hat
    have HAT := Lib.hid hat
    clear hown' hgrow hat
    refine hK.out _ _ ?_ (fun hHeld => ?_)
    · first | exact hS | exact hS2 | assumption
    clear hK K
    try simp only [Act.put, List.setIfInBounds_toArray, List.set_cons_zero, List.set_cons_succ]
    refine wpAnyH_take (i := 8) (oi := _) (v := .pointer (some ⟨D, 0, none⟩)) rfl (by kernel_rfl) (by kernel_rfl) (by kernel_rfl) (fun _ _ _ h => h) (Or.inl ⟨by rfl, ?_⟩) (by assumption) ?_
    · intro w hSw
      go_simp
    try simp only [Act.put, List.setIfInBounds_toArray, List.set_cons_zero, List.set_cons_succ]
    refine wpAnyH_take (i := 9) (oi := _) (v := .pointer (some ⟨D, 1, none⟩)) rfl (by kernel_rfl) (by kernel_rfl) (by kernel_rfl) (fun _ _ _ h => h) (Or.inl ⟨by rfl, ?_⟩) (by assumption) ?_
    · intro w hSw
      go_simp
    try simp only [Act.put, List.setIfInBounds_toArray, List.set_cons_zero, List.set_cons_succ]
    refine wpAnyH_ready (rs := [10]) (by kernel_rfl) (by simp) ?_
    refine AllReadyH.cons (o := _) rfl (fun K hK => ?_) AllReadyH.nil
    go_simp
    have hS4 := HX.out.1
    refine hK.out _ _ ?_ (fun hHeld => ?_)
    · first | exact hS | exact hS2 | assumption
    clear hK K
    try simp only [Act.put, List.setIfInBounds_toArray, List.set_cons_zero, List.set_cons_succ]
    refine wpAnyH_done (by kernel_rfl) ?_ _
    refine NoPanic.normal ?_
    have hb := burn_any HX.out.2.1 (by simp; omega)
    have HBU := Lib.hid hb
    have HON := Lib.hid HX.out.2.2
    clear hb hS hS2 hS3 hS4 hc12 hf12 hHeld HOWN HNEW hi hz0 hz1 hz2 hN1 hzw hwn hws hst hcp hil
    go_wp2_with fail
    refine HBU.out.mono ?_
    rintro e w3 ⟨rfl, ⟨pv3, d3, hp3⟩, o3⟩
    have hfr : Fresh w pv pv3 := by
      rcases hp3 with rfl | rfl
      · exact Fresh.of_at HAT.out
      · exact Fresh.nil _ _
    have HFR := Lib.hid hfr
    have HD3 := Lib.hid d3
    have HO3 := Lib.hid (HON.out.trans (o3.mono (by simp [blocks])))
    clear hfr d3 o3 hp3
    go_wp2_with fail
    go_ret
    exact ⟨rfl, ⟨_, HD3.out, HFR.out⟩, HO3.out⟩

/-- What Write answers, and leaves. -/
def writeE (d : Dev) (i : Int) (n : Nat) : Nat := if refE d i ≠ 0 then refE d i else if n ≠ 64 then 2 else burnE d
def writeD (d : Dev) (i : Int) (l : List UInt8) : Dev := if refE d i ≠ 0 then d else if l.length ≠ 64 then d else burnD { d with pend := d.pend ++ [(i.toNat, l)] }
set_option maxRecDepth 100000 in
theorem write_any {w : World} {D R : Nat} {pv : Value} {d : Dev} (h : DevAt w D R pv d) (hm : d.pend.length < 1000) (i : Int) (s : ByteArray) :
    Calls Try.prog 19 #[.pointer (some ⟨D, 0, none⟩), .int .i64 i, .string s] w fun e w' =>
      e = .returned (.int .i64 (writeE d i s.size : Nat)) ∧ (∃ pv', DevAt w' D R pv' (writeD d i s.data.toList) ∧ Fresh w pv pv') ∧ Onl (blocks D R pv) w w' := by
  have hl := list_size s
  by_cases hr : refE d i = 0
  · by_cases hs : s.size = 64
    · have e1 : writeE d i s.size = burnE d := by unfold writeE; rw [if_neg (by omega), if_neg (by omega)]
      have e2 : writeD d i s.data.toList = burnD { d with pend := d.pend ++ [(i.toNat, s.data.toList)] } := by unfold writeD; rw [if_neg (by omega), if_neg (by omega)]
      have hi : 0 ≤ i := by
        unfold refE at hr
        by_cases ho : d.off = true
        · rw [if_pos ho] at hr; omega
        · rw [if_neg ho] at hr
          by_cases hh : i < 0 ∨ (d.dur.length : Int) ≤ i
          · rw [if_pos hh] at hr; omega
          · omega
      obtain ⟨I, rfl⟩ := Int.eq_ofNat_of_zero_le hi
      rw [e1, e2, Int.toNat_natCast]
      exact write_main h hm I s hs hr
    · have e1 : writeE d i s.size = 2 := by unfold writeE; rw [if_neg (by omega), if_pos hs]
      have e2 : writeD d i s.data.toList = d := by unfold writeD; rw [if_neg (by omega), if_pos (by omega)]
      rw [e1, e2]
      have href := refuses_any h i
      rw [hr] at href
      have HREF := Lib.hid href
      have H := Lib.hid h
      have hsi : ((s.size : Int) == 64) = false := by simp; omega
      have hsn : (s.size == 64) = false := by simpa using hs
      clear href h e1 e2 hr hs hl
      go_enter Try.func19, Try.ntmps19
      go_wp2_with fail
      refine HREF.out.mono ?_
      rintro e w1 ⟨rfl, rfl⟩
      go_wp2_with fail
      go_ret
      exact ⟨rfl, ⟨_, H.out, Fresh.refl _ _⟩, Onl.refl _ _⟩
  · have e1 : writeE d i s.size = refE d i := by unfold writeE; rw [if_pos hr]
    have e2 : writeD d i s.data.toList = d := by unfold writeD; rw [if_pos hr]
    rw [e1, e2]
    have href := refuses_any h i
    have hne : ((refE d i : Nat) : Int) ≠ 0 := by omega
    have hne1 : (((refE d i : Nat) : Int) == 0) = false := by simpa using hr
    have hne2 : (refE d i == 0) = false := by simpa using hr
    generalize refE d i = r at *
    have HREF := Lib.hid href
    have H := Lib.hid h
    clear href h e1 e2 hr hl hne
    go_enter Try.func19, Try.ntmps19
    go_wp2_with fail
    refine HREF.out.mono ?_
    rintro e w1 ⟨rfl, rfl⟩
    go_wp2_with fail
    go_ret
    exact ⟨rfl, ⟨_, H.out, Fresh.refl _ _⟩, Onl.refl _ _⟩
theorem write_nil (i : Int) (s : ByteArray) (w : World) :
    Calls Try.prog 19 #[.pointer none, .int .i64 i, .string s] w fun e w' => e = .returned (.int .i64 1) ∧ w = w' := by
  go_enter Try.func19, Try.ntmps19
  go_wp2_with fail
  refine (refuses_nil _ _).mono ?_
  rintro e w1 ⟨rfl, rfl⟩
  go_wp2_with fail
  go_ret
  exact ⟨rfl, rfl⟩

end Go.Proofs.Ytfmcbccmijcdgaa.Bk
