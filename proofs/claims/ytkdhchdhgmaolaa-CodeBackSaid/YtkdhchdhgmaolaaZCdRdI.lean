/-
  A row of counters that is read, walked.
-/
import Derived.Test.YtkdhchdhgmaolaaZCdRdG
namespace Go.Proofs.Ytkdhchdhgmaolaa.Cd
open Go.RowKit
open Pk Va
set_option linter.unusedVariables false
set_option linter.unusedSimpArgs false

def pCnt (l : List UInt8) (b : Nat) : Rs Int := ((((pSmall 1000 l b).1 : Nat) : Int), (pSmall 1000 l b).2)
set_option maxRecDepth 100000 in
theorem count_r (H r R : Nat) (l : List UInt8) (hl : l.length ≤ 2000000) (bad : Nat) (w : World) (h : RdrR H r R l bad w) :
    Calls Try.prog 83 #[.pointer (some ⟨r, 0, none⟩)] w fun e w' => e = .returned (.int .i64 (pCnt l bad).1) ∧ RdTo H r (pCnt l bad).2.1 (pCnt l bad).2.2 w w' := by
  have c0 := h.c0
  have HT := Lib.hid (rSmall_k R l hl bad 1000 (by omega) (by omega) w h.2.2.2.2)
  have HH := Lib.hid h
  unfold pCnt pSmall
  generalize rdG 0 (decS l 1000) l bad = x at *
  clear h
  go_enter Try.func83, Try.ntmps83
  go_wp2_with fail
  refine HT.out.mono ?_
  rintro e w1 ⟨rfl, r1, o1⟩
  have T1 := Lib.hid (HH.out.step r1 o1).2
  clear r1 o1
  go_wp2_with fail
  go_ret
  exact ⟨rfl, T1.out⟩
theorem ne_int : 3 ≠ 133 ∧ 3 ≠ 171 := by decide
theorem infoI : (Try.prog.info? 3).map (fun i => (i.zero, i.size, i.bytes)) = some (some (.int .i64 0), 1, 8) := by kernel_rfl
/-- A counter that is appended. -/
theorem app_int1 (B : Nat) (v : Value) (m : Nat) (xs : List Int) (w : World) (hown : w.ownsRow B 3 1 v m (i64C xs)) (x : Int) (hm : m + 1 ≤ 1000000) (hB : B ≤ w.heap.size) (H : Nat) (hH : w.heap.size = H) :
    ∃ q c w', (Builtin.append_ #[38, 38] 38 #[v, .slice (some ⟨H, 0, none⟩) 1 1]).run Try.prog (w.alloc (.cells #[.int .i64 x] 3)) = .ok (.slice q (m + 1) c) w' ∧ w'.ownsRow B 3 1 (.slice q (m + 1) c) (m + 1) (i64C (xs ++ [x])) ∧ (w.alloc (.cells #[.int .i64 x] 3)).grownBy w' v.ownBlock := by
  subst hH
  obtain ⟨i0, hi, hz0, hz1, hz2⟩ := info_pt infoI
  have hnew := heap_alloc_new w (.cells #[.int .i64 x] 3)
  have hs1 : (w.alloc (.cells #[.int .i64 x] 3)).heap.size = w.heap.size + 1 := by simp
  have hA := World.ownsRow.alloc hown (.cells #[.int .i64 x] 3)
  have hnews : ∀ j u, (i64C [x])[j]? = some u → (w.alloc (.cells #[.int .i64 x] 3)).cell? ((⟨w.heap.size, 0, none⟩ : Addr).add j) = some u := by
    intro j u hj
    have hadd : (⟨w.heap.size, 0, none⟩ : Addr).add j = ⟨w.heap.size, j, none⟩ := by unfold Addr.add; split <;> simp_all
    rw [hadd, cell_of_row _ w.heap.size j _ _ (0, 0) hnew]
    simpa [i64C] using hj
  have h1 : ∀ u ∈ i64C [x], u.oneCell' = true := by
    intro u hu
    simp only [i64C, List.mem_map] at hu
    obtain ⟨n, _, rfl⟩ := hu
    rfl
  obtain ⟨v', w', hr, h2, h3, _⟩ := run_append_own (P := Try.prog) (w.alloc (.cells #[.int .i64 x] 3)) B 38 38 3 i0 (.int .i64 0) 1 8 Try.underlying38 hi hz0 hz1 hz2 rfl (by decide) v m (i64C xs) hA ⟨w.heap.size, 0, none⟩ 1 1 (i64C [x]) rfl hnews h1 (by unfold maxLen; omega) (by omega) (by omega)
  rw [← i64C_append] at h2
  rcases h2.2 with ⟨_, h0⟩ | ⟨g, cap, cur, rfl, r⟩
  · simp at h0
  · exact ⟨_, cap, w', hr, h2, h3⟩
theorem owned_ints {w : World} {B n : Nat} {v : Value} {l : List Int} (h : w.ownsRow B 3 1 v n (i64C l)) (hn : n = l.length) : ∃ a c, v = .slice a l.length c ∧ NumsAt w a l := by
  subst hn
  rcases h.2 with ⟨rfl, h0⟩ | ⟨g, cap, cur, rfl, _, hg, _⟩
  · have : l = [] := List.length_eq_zero_iff.1 h0
    subst this
    exact ⟨none, 0, rfl, fun i hi => absurd hi (by simp)⟩
  · refine ⟨some ⟨g, 0, none⟩, cap, rfl, fun i hi => ⟨g, 0, rfl, ?_, lt_of_heapV hg⟩⟩
    have := h.cellAt i (by omega)
    rw [Nat.zero_add, this]
    simp [i64C, List.getD, hi]

set_option maxRecDepth 100000 in
set_option maxHeartbeats 4000000 in
theorem allC_r (H r R : Nat) (l : List UInt8) (hl : l.length ≤ 2000000) (bad : Nat) (w : World) (h : RdrR H r R l bad w) :
    Calls Try.prog 82 #[.pointer (some ⟨r, 0, none⟩), .int .i64 16, .func (Fn.func 83) #[] #[]] w fun e w' =>
      ∃ q cap, e = .returned (.slice q (pAll pCnt 16 l bad).1.length cap) ∧ RdTo H r (pAll pCnt 16 l bad).2.1 (pAll pCnt 16 l bad).2.2 w w' ∧ NumsAt w' q (pAll pCnt 16 l bad).1 ∧ ∀ g off, q = some ⟨g, off, none⟩ → (pAll pCnt 16 l bad).1 ≠ [] → w.heap.size ≤ g ∧ OffR r g w' := by
  have c0 := h.c0
  have HSM := Lib.hid (rSmall_k R l hl bad 16 (by omega) (by omega) w h.2.2.2.2)
  have hn16 := pSmall_le 16 (by omega) l bad
  have hsh : (pSmall 16 l bad).2.1.length ≤ 2000000 := Nat.le_trans (rdG_short _ _ _ _) hl
  unfold pAll
  unfold pSmall at *
  generalize rdG 0 (decS l 16) l bad = y at *
  obtain ⟨n, l1, b1⟩ := y
  simp only at HSM hn16 hsh ⊢
  obtain ⟨X, hX⟩ : ∃ X, X = pLoop pCnt n [] l1 b1 := ⟨_, rfl⟩
  rw [← hX]
  have HX := Lib.hid hX
  have HH := Lib.hid h
  have HSH := Lib.hid hsh
  clear h hX hsh
  go_enter Try.func82, Try.ntmps82
  go_wp2_with fail
  refine HSM.out.mono ?_
  rintro e w1 ⟨rfl, r1, o1⟩
  have T1 := Lib.hid (HH.out.step r1 o1).2
  clear r1 o1 HSM
  go_wp2_with fail
  go_loopw [7, 15] (fun lv iv wr => ∃ (i : Nat) (acc : List Int) (li : List UInt8) (bi : Nat) (q : Option Addr) (cap : Nat), i ≤ n ∧ iv = .int .i64 i ∧ lv = .slice q acc.length cap ∧ acc.length ≤ i ∧ wr.ownsRow w.heap.size 3 1 (.slice q acc.length cap) acc.length (i64C acc) ∧ RdTo H r li bi w wr ∧ li.length ≤ 2000000 ∧ X = pLoop pCnt (n - i) acc li bi) (fun _ iv _ => n - (intOf iv).toNat)
  case atStart => exact ⟨0, [], l1, b1, none, 0, Nat.zero_le _, rfl, rfl, by simp, World.ownsRow_nil _ _ _ _, T1.out, HSH.out, HX.out⟩
  case round =>
    obtain ⟨i, acc, li, bi, q, cap, hin, rfl, rfl, hai, hown, ht, hli, hx⟩ := hrel
    obtain ⟨Ri, hRi⟩ := ht.rdr
    have c0 := hRi.c0
    by_cases hlt : i < n
    · have hii : (i : Int) < (n : Int) := by omega
      have hoff := off_row hRi hown ne_int.1 ne_int.2
      have HC := Lib.hid (count_r H r Ri li hli bi wr hRi)
      have hsub : n - i = (n - (i + 1)) + 1 := by omega
      rw [hsub] at hx
      unfold pLoop at hx
      have hsh2 : (pCnt li bi).2.1.length ≤ 2000000 := Nat.le_trans (rdG_short _ _ _ _) hli
      generalize pCnt li bi = z at *
      obtain ⟨x, l2, b2⟩ := z
      simp only at HC hx hsh2
      have HXX := Lib.hid hx
      have HT := Lib.hid ht
      have HRI := Lib.hid hRi
      have HOWN := Lib.hid hown
      have HOFF := Lib.hid hoff
      have HAI := Lib.hid hai
      have HSH2 := Lib.hid hsh2
      clear hx ht hown hoff hsub hai hsh2 hRi
      go_wp2_with fail
      refine HC.out.mono ?_
      rintro e w3 ⟨rfl, t3⟩
      obtain ⟨R3, hR3⟩ := t3.rdr
      have c03 := hR3.c0
      have HB3 := Lib.hid (bad_any R3 l2 b2 w3 hR3.2.2.2.2)
      have HR3 := Lib.hid hR3
      have T3 := Lib.hid (HT.out.trans t3)
      have hown3 := own_keep t3 HOWN.out HOFF.out
      have HOWN3 := Lib.hid hown3
      clear t3 hR3 hown3 c0
      by_cases hb2 : b2 = 0
      · subst hb2
        have hw3 : w.heap.size ≤ w3.heap.size := T3.out.size
        have hx3 := HXX.out
        rw [if_neg (by omega)] at hx3
        obtain ⟨q4, c4, w4, hrun, hown4, hgrow⟩ := app_int1 w.heap.size (.slice q acc.length cap) acc.length acc w3 HOWN3.out x (by have := HAI.out; omega) hw3 w3.heap.size rfl
        have kk := (Below.refl w3.heap.size w3).alloc (Nat.le_refl _) (.cells #[.int .i64 x] 3)
        have hoff4 := off_row (HR3.out.below kk) (World.ownsRow.alloc HOWN3.out (.cells #[.int .i64 x] 3)) ne_int.1 ne_int.2
        have HT4 := Lib.hid ((T3.out.trans (RdTo.of_below HR3.out kk)).grown (Nat.le_trans HH.out.size (Nat.le_refl _)) hgrow (fun g hg => ⟨(World.ownsRow.lt HOWN3.out g hg).1, hoff4 g hg⟩))
        have HRUN := Lib.hid hrun
        have HO4 := Lib.hid (show w4.ownsRow w.heap.size 3 1 (.slice q4 (acc ++ [x]).length c4) (acc ++ [x]).length (i64C (acc ++ [x])) by rw [List.length_append]; exact hown4)
        have HX4 := Lib.hid hx3
        clear hrun hown4 hgrow kk hoff4 hx3
        go_wp2_with fail
        refine HB3.out.mono ?_
        rintro e w5 ⟨rfl, rfl⟩
        go_wp2_with (at_builtin; refine wpList_app rfl _ _ _ _ rfl rfl rfl _ _ HRUN.out ?_)
        go_wp2_with fail
        go_roundw
        case rel => exact ⟨i + 1, acc ++ [x], l2, 0, q4, c4, by omega, by go_num, by rw [List.length_append]; rfl, by have := HAI.out; simp; omega, HO4.out, HT4.out, HSH2.out, HX4.out⟩
        case measure => simp [intOf]; omega
      · have h3 := (err_ne b2 hb2).1
        have hx3 := HXX.out
        rw [if_pos (by omega)] at hx3
        have HX4 := Lib.hid hx3
        clear hx3 hb2
        go_wp2_with fail
        refine HB3.out.mono ?_
        rintro e w5 ⟨rfl, rfl⟩
        go_wp2_with fail
        go_ret
        rw [HX4.out]
        exact ⟨none, 0, rfl, T3.out, fun i hi => absurd hi (by simp), fun _ _ e => by cases e⟩
    · have hie : i = n := by omega
      have hii : ¬ (i : Int) < (n : Int) := by omega
      rw [hie, Nat.sub_self] at hx
      unfold pLoop at hx
      obtain ⟨a', c', he', hnums⟩ := owned_ints hown rfl
      have hoff := off_row hRi hown ne_int.1 ne_int.2
      have hfr : ∀ g off, q = some ⟨g, off, none⟩ → acc ≠ [] → w.heap.size ≤ g ∧ OffR r g wr := fun g off e _ => by
        subst e
        have hg : (Value.slice (some ⟨g, off, none⟩) acc.length cap).ownBlock = some g := rfl
        exact ⟨(World.ownsRow.lt hown g hg).1, hoff g hg⟩
      obtain ⟨rfl, rfl⟩ : q = a' ∧ cap = c' := by injection he' with e1 _ e3; exact ⟨e1, e3⟩
      have HT := Lib.hid ht
      have HNS := Lib.hid hnums
      have HFR := Lib.hid hfr
      have HXX := Lib.hid hx
      clear ht hnums hfr hx hown hoff hRi he'
      go_wp2_with fail
      go_ret
      rw [HXX.out]
      exact ⟨q, ⟨cap, rfl⟩, HT.out, HNS.out, HFR.out⟩

end Go.Proofs.Ytkdhchdhgmaolaa.Cd
