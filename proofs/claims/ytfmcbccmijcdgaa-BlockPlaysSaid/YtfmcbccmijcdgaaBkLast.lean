/-
  Lasting.
-/
import Derived.Test.YtfmcbccmijcdgaaBkWrite
import Derived.Laws.AppendOwn
namespace Go.Proofs.Ytfmcbccmijcdgaa.Bk
open Go.RowKit

theorem durC_take (s : List (List UInt8)) (k : Nat) (hk : k < s.length) : durC (s.take (k + 1)) = durC (s.take k) ++ secC (s.getD k []) := by
  have : s.take (k + 1) = s.take k ++ [s.getD k []] := by
    rw [List.take_add_one, List.getElem?_eq_getElem hk]
    simp [List.getD, hk]
  rw [this]; simp [durC]
theorem durC_flat (s : List (List UInt8)) : durC s = s.flatten.map fun c => .int .u8 (c.toNat : Int) := by
  induction s with
  | nil => rfl
  | cons a s ih =>
    show secC a ++ durC s = _
    rw [ih]; simp [secC]
theorem conv_nil (w : World) : (convert 69 9 (.slice none 0 0)).run Try.prog w = .ok (.string ⟨#[]⟩) w := by kernel_rfl
theorem make_buf (w : World) (n : Nat) (hn : n ≤ 4096) : ∃ w2 : World,
    (Instr.makeSlice 69 (.int .i64 0) (.int .i64 ((n : Int) * 64))).run Try.prog w = .ok (.slice (some ⟨w.heap.size, 0, none⟩) 0 (n * 64)) w2 ∧
    w2.ownsRow w.heap.size 5 1 (.slice (some ⟨w.heap.size, 0, none⟩) 0 (n * 64)) 0 [] ∧ Below w.heap.size w w2 := by
  obtain ⟨i0, hi, hz0, hz1, hz2⟩ := info_parts info8
  obtain ⟨w2, hmk, hown, hgr⟩ := run_make_own (P := Try.prog) w w.heap.size 69 5 i0 (.int .u8 0) 1 Try.underlying69 hi hz0 hz1 .i64 .i64 (n * 64) (by rw [hz2]; omega) (by unfold maxLen; omega) (Nat.le_refl _)
  have e : ((n * 64 : Nat) : Int) = (n : Int) * 64 := by omega
  rw [e] at hmk
  exact ⟨w2, hmk, hown, (Below.refl _ _).grown hgr (Nat.le_refl _) (by simp)⟩

set_option maxRecDepth 100000 in
set_option maxHeartbeats 3200000 in
theorem lasting_any {w : World} {D R : Nat} {pv : Value} {d : Dev} (h : DevAt w D R pv d) :
    Calls Try.prog 24 #[.pointer (some ⟨D, 0, none⟩)] w fun e w' => e = .returned (.string (S d.dur.flatten)) ∧ Below w.heap.size w w' := by
  have hn := h.ok.most
  obtain ⟨w2, hmk, hown, hbel⟩ := make_buf w d.dur.length hn
  have h2 := h.later (Onl.of_below hbel []) (by simp)
  obtain ⟨⟨c0, c1, c2, c3, c4, c5, c6⟩, ⟨f0, f1, f2, f3, f4, f5, f6⟩, hlt⟩ := h.cells
  obtain ⟨⟨a0, a1, a2, a3, a4, a5, a6⟩, ⟨g0, g1, g2, g3, g4, g5, g6⟩, hlt2⟩ := h2.cells
  obtain ⟨i0, hi, hz0, hz1, hz2⟩ := info_parts info8
  have hzs := zero_sec
  have hmul : IntKind.i64.wrap ((d.dur.length : Int) * 64) = (d.dur.length : Int) * 64 := by
    rw [IntKind.wrap_i64]; omega
  have H := Lib.hid h
  have HOWN := Lib.hid hown
  have HB2 := Lib.hid hbel
  clear h h2 hown hbel c1 c2 c3 c4 c5 c6 f1 f2 f3 f4 f5 f6 a1 a2 a3 a4 a5 a6 g1 g2 g3 g4 g5 g6
  go_enter Try.func24, Try.ntmps24
  go_wp2_with fail
  go_loopw [3, 20] (fun v i wr => ∃ k : Nat, k ≤ d.dur.length ∧ i = .int .i64 k ∧ wr.ownsRow w.heap.size 5 1 v (k * 64) (durC (d.dur.take k)) ∧ Below w.heap.size w wr) (fun _ i _ => d.dur.length - (intOf i).toNat)
  case atStart => exact ⟨0, by omega, rfl, HOWN.out, HB2.out⟩
  case round =>
    obtain ⟨k, hkm, rfl, hown, hb⟩ := hrel
    have hdev := H.out.later (Onl.of_below hb []) (by simp)
    have HB := Lib.hid hb
    have hsz : w.heap.size ≤ wr.heap.size := hb.size
    by_cases hlt3 : k < d.dur.length
    · have hsec := hdev.sec k hlt3
      have hx := dur_get hdev.ok k hlt3
      have hst := store_fresh wr 66 (secC Z64) (secC (d.dur.getD k [])) (by rw [secC_length, hx]; exact size_sec) (by rw [secC_length, secC_length, hx, Z64_length]) (secC_one _)
      have HSZ := Lib.hid (show (Try.prog.info? 66).map (·.size) = some (secC (d.dur.getD k [])).length by rw [secC_length, hx]; exact size_sec)
      have HLD := Lib.hid hsec.1
      have HT := Lib.hid (durC_take d.dur k hlt3)
      have hl64 : (secC (d.dur.getD k [])).length = 64 * 1 := by rw [secC_length, hx]
      have h1c := secC_one (d.dur.getD k [])
      have hnew : ∀ j v, (secC (d.dur.getD k []))[j]? = some v → (wr.alloc (.cells (secC (d.dur.getD k [])).toArray 66)).cell? ((⟨wr.heap.size, 0, none⟩ : Addr).add j) = some v := fun j v hv => by
        rw [Addr.add_mid, Nat.zero_add, cell_of_row _ wr.heap.size j _ _ (0, 0) (heap_alloc_new wr _), List.getElem?_toArray]; exact hv
      have HNEW := Lib.hid hnew
      have HOW := Lib.hid (hown.alloc (.cells (secC (d.dur.getD k [])).toArray 66))
      have hsn : (secC (d.dur.getD k [])).toArray ≠ #[] := by intro e; have := congrArg Array.size e; rw [List.size_toArray, hl64] at this; simp at this
      have hki : (k : Int) < (d.dur.length : Int) := by omega
      have HOB := Lib.hid (fun kk => own_block hown kk)
      have HDEV := Lib.hid hdev
      generalize secC (d.dur.getD k []) = sec at *
      clear hown hdev hb hsec hx hnew
      go_wp2_with (first
        | (refine wpList_load_mid rfl 66 _ rfl R (k * 64) rfl sec _ HLD.out Try.underlying66 rfl HSZ.out ?_)
        | (at_builtin; refine wpList_append_own _ rfl _ _ 69 rfl w.heap.size 5 i0 (.int .u8 0) 1 1 Try.underlying69 hi hz0 hz1 hz2 rfl (by decide) _ _ _ rfl HOW.out ⟨wr.heap.size, 0, none⟩ 64 64 sec rfl hl64 HNEW.out h1c (by unfold maxLen; omega) (by omega) (by simp; omega) ?_; intro v' w1 hown' hgrow _))
      refine ⟨⟨k + 1, by omega, by go_num, ?_, (HB.out.alloc hsz _).grown hgrow (by simp; omega) HOB.out⟩, by simp [intOf]; omega⟩
      rw [HT.out, Nat.add_mul]
      exact hown'
    · obtain rfl : k = d.dur.length := by omega
      rw [List.take_length, durC_flat] at hown
      have hf := own_form hown
      have hlen : d.dur.length * 64 = d.dur.flatten.length := by
        have := durC_length d.dur H.out.ok.dur
        rw [durC_flat, List.length_map] at this
        omega
      rcases hf with ⟨rfl, h0⟩ | ⟨g, cap, rfl⟩
      · have e0 : d.dur.flatten = [] := List.eq_nil_of_length_eq_zero (by omega)
        have E0 := Lib.hid e0
        have hcn := conv_nil wr
        clear hown hdev hb hlen e0 h0
        go_wp2_with fail
        go_ret
        exact ⟨by rw [E0.out]; rfl, HB.out⟩
      · have hcv := (Row8.of_owns hown).back (P := Try.prog) 69 9 5 cap Try.underlying69 Try.underlying5 Try.underlying9 (d.dur.length * 64) hlen
        clear hown hdev hb hlen
        go_wp2_with fail
        go_ret
        exact ⟨rfl, HB.out⟩

end Go.Proofs.Ytfmcbccmijcdgaa.Bk
