/-
  The document's own device: Lasting.
-/
import Derived.Test.YtfmcbccmijcdgaaBkRefR
import Derived.Test.YtfmcbccmijcdgaaBkLast
import Derived.Lib.AppendStr
namespace Go.Proofs.Ytfmcbccmijcdgaa.Bk
open Go.RowKit

set_option maxRecDepth 100000 in
set_option maxHeartbeats 1600000 in
theorem refLasting_any {w : World} {B : Nat} {lv wv tv : Value} {d : Dev} (h : RefAt w B lv wv tv d) (h64 : ∀ x ∈ d.dur, x.length = 64) (hn : d.dur.length ≤ 4096) :
    Calls Try.prog 25 #[.pointer (some ⟨B, 0, none⟩)] w fun e w' => e = .returned (.string (S d.dur.flatten)) ∧ Below w.heap.size w w' := by
  obtain ⟨⟨c0, c1', c2', c3, c4, c5, c6, c7⟩, hf, hlt⟩ := h.cells
  obtain ⟨i0, hi, hz0, hz1, hz2⟩ := info_parts info8
  have hl : ∀ i, i < d.dur.length → ∃ g cap, lv = .slice (some ⟨g, 0, none⟩) d.dur.length cap ∧ g < w.heap.size ∧ w.cell? ⟨g, i, none⟩ = some (.string (S (d.dur.getD i []))) := fun i hi => by
    rcases own_form h.lasts with ⟨_, h0⟩ | ⟨g, cap, rfl⟩
    · omega
    · refine ⟨g, cap, rfl, (h.lasts.lt g rfl).2, ?_⟩
      rw [h.lasts.cellAt i (by omega)]; simp [strC, List.getD, hi]
  have hform := own_form h.lasts
  have HL := Lib.hid hl
  have HT := Lib.hid (fun k hk => durC_take d.dur k hk)
  have H64 := Lib.hid (fun k (hk : k < d.dur.length) => (show (d.dur.getD k []).length = 64 from h64 _ (by simp [List.getD, hk])))
  have HLEN := Lib.hid (durC_length d.dur h64)
  clear h hl c1' c2' c3 c4 c5 c6 c7 hf h64
  obtain ⟨a, cap, hlv⟩ : ∃ a cap, lv = .slice a d.dur.length cap := by
    rcases hform with ⟨rfl, h0⟩ | ⟨g, cap, rfl⟩
    · exact ⟨none, 0, by rw [h0]⟩
    · exact ⟨_, cap, rfl⟩
  subst hlv
  clear hform
  go_enter Try.func25, Try.ntmps25
  go_wp2_with fail
  go_loopw [3, 11] (fun v i wr => ∃ k : Nat, k ≤ d.dur.length ∧ i = .int .i64 k ∧ wr.ownsRow w.heap.size 5 1 v (k * 64) (durC (d.dur.take k)) ∧ Below w.heap.size w wr) (fun _ i _ => d.dur.length - (intOf i).toNat)
  case atStart => exact ⟨0, by omega, rfl, World.ownsRow_nil _ _ _ _, Below.refl _ _⟩
  case round =>
    obtain ⟨k, hkm, rfl, hown, hb⟩ := hrel
    have HB := Lib.hid hb
    have hsz : w.heap.size ≤ wr.heap.size := hb.size
    by_cases hlt3 : k < d.dur.length
    · obtain ⟨g, cap', he, hg, hcell⟩ := HL.out k hlt3
      simp only [Value.slice.injEq, true_and] at he
      obtain ⟨rfl, rfl⟩ := he
      have hcell' := (hb.cell (p := ⟨g, k, none⟩) hg).trans hcell
      have hs : (S (d.dur.getD k [])).size = 64 := by rw [S_size]; exact H64.out k hlt3
      have hsc : Lib.strCells (S (d.dur.getD k [])) = secC (d.dur.getD k []) := rfl
      have HSC := Lib.hid hsc
      have HTK := Lib.hid (HT.out k hlt3)
      have HOB := Lib.hid (fun kk => own_block hown kk)
      have HOW := Lib.hid hown
      have hki : (k : Int) < (d.dur.length : Int) := by omega
      generalize S (d.dur.getD k []) = sv at *
      clear hown hb hcell hsc
      go_wp2_with (at_builtin; refine Lib.wpList_append_own_string _ rfl _ _ 69 9 rfl w.heap.size 5 i0 Try.underlying69 Try.underlying9 hi hz0 hz1 hz2 _ _ _ rfl HOW.out sv rfl (by unfold maxLen; omega) (by omega) hsz ?_; intro v' w1 hown' hgrow _)
      refine ⟨⟨k + 1, by omega, by go_num, ?_, HB.out.grown hgrow hsz HOB.out⟩, by simp [intOf]; omega⟩
      rw [HTK.out, Nat.add_mul, ← HSC.out]
      rw [hs] at hown'
      exact hown'
    · obtain rfl : k = d.dur.length := by omega
      rw [List.take_length, durC_flat] at hown
      have hf := own_form hown
      have hlen : d.dur.length * 64 = d.dur.flatten.length := by
        have := HLEN.out
        rw [durC_flat, List.length_map] at this
        omega
      rcases hf with ⟨rfl, h0⟩ | ⟨g, cap, rfl⟩
      · have e0 : d.dur.flatten = [] := List.eq_nil_of_length_eq_zero (by omega)
        have E0 := Lib.hid e0
        have hcn := conv_nil wr
        clear hown hb hlen e0 h0
        go_wp2_with fail
        go_ret
        exact ⟨by rw [E0.out]; rfl, HB.out⟩
      · have hcv := (Row8.of_owns hown).back (P := Try.prog) 69 9 5 cap Try.underlying69 Try.underlying5 Try.underlying9 (d.dur.length * 64) hlen
        clear hown hb hlen
        go_wp2_with fail
        go_ret
        exact ⟨rfl, HB.out⟩

end Go.Proofs.Ytfmcbccmijcdgaa.Bk
