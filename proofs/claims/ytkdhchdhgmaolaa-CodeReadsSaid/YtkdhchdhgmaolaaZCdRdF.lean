/-
  A row of values that is read, walked.
-/
import Derived.Test.YtkdhchdhgmaolaaZCdRdE
namespace Go.Proofs.Ytkdhchdhgmaolaa.Cd
open Go.RowKit
open Pk Va
set_option linter.unusedVariables false
set_option linter.unusedSimpArgs false

def RowR (H r : Nat) (X : Rs (List V)) (w : World) (e : Ending) (w' : World) : Prop :=
  ∃ q d cap, e = .returned (.slice q d.length cap) ∧ d.map (·.1) = X.1 ∧ RdTo H r X.2.1 X.2.2 w w' ∧ VRow w.heap.size r w' q d cap

set_option maxRecDepth 100000 in
set_option maxHeartbeats 8000000 in
theorem allV_r (H r R : Nat) (l : List UInt8) (hl : l.length ≤ 2000000) (bad : Nat) (w : World) (h : RdrR H r R l bad w) :
    Calls Try.prog 114 #[.pointer (some ⟨r, 0, none⟩), .int .i64 16, .func (Fn.func 33) #[] #[]] w fun e w' => RowR H r (pAll pVal 16 l bad) w e w' := by
  have c0 := h.c0
  have HSM := Lib.hid (rSmall_k R l hl bad 16 (by omega) (by omega) w h.2.2.2.2)
  have hn16 := pSmall_le 16 (by omega) l bad
  have hsh : (pSmall 16 l bad).2.1.length ≤ 2000000 := Nat.le_trans (rdG_short _ _ _ _) hl
  unfold pAll
  unfold pSmall at *
  generalize rdG 0 (decS l 16) l bad = y at *
  obtain ⟨n, l1, b1⟩ := y
  simp only at HSM hn16 hsh ⊢
  obtain ⟨X, hX⟩ : ∃ X, X = pLoop pVal n [] l1 b1 := ⟨_, rfl⟩
  rw [← hX]
  obtain ⟨Pst, hPst⟩ : ∃ Pst : Ending → World → Prop, Pst = RowR H r X w := ⟨_, rfl⟩
  rw [show (fun e w' => RowR H r X w e w') = Pst from hPst.symm]
  have HPST := Lib.hid (fun e w' (h : RowR H r X w e w') => show Pst e w' by rw [hPst]; exact h)
  have HX := Lib.hid hX
  have HH := Lib.hid h
  have HSH := Lib.hid hsh
  clear h hX hsh hPst
  go_enter Try.func114, Try.ntmps114
  go_wp2_with fail
  refine HSM.out.mono ?_
  rintro e w1 ⟨rfl, r1, o1⟩
  have T1 := Lib.hid (HH.out.step r1 o1).2
  clear r1 o1 HSM
  go_wp2_with fail
  go_loopw [7, 15] (fun lv iv wr => ∃ (i : Nat) (acc : List (V × Option Addr × Nat)) (li : List UInt8) (bi : Nat) (q : Option Addr) (cap : Nat), i ≤ n ∧ iv = .int .i64 i ∧ lv = .slice q acc.length cap ∧ acc.length ≤ i ∧ VRow w.heap.size r wr q acc cap ∧ RdTo H r li bi w wr ∧ li.length ≤ 2000000 ∧ X = pLoop pVal (n - i) (acc.map (·.1)) li bi) (fun _ iv _ => n - (intOf iv).toNat)
  case atStart => exact ⟨0, [], l1, b1, none, 0, Nat.zero_le _, rfl, rfl, by simp, VRow.nil _ _ _, T1.out, HSH.out, HX.out⟩
  case round =>
    obtain ⟨i, acc, li, bi, q, cap, hin, rfl, rfl, hai, hown, ht, hli, hx⟩ := hrel
    obtain ⟨Ri, hRi⟩ := ht.rdr
    have c0 := hRi.c0
    by_cases hlt : i < n
    · have hii : (i : Int) < (n : Int) := by omega
      have HC := Lib.hid (value_r H r Ri li hli bi wr hRi)
      have hsub : n - i = (n - (i + 1)) + 1 := by omega
      rw [hsub] at hx
      unfold pLoop at hx
      have hsh2 : (pVal li bi).2.1.length ≤ 2000000 := pVal_short li bi 2000000 hli (by omega)
      generalize pVal li bi = z at *
      obtain ⟨x, l2, b2⟩ := z
      simp only at HC hx hsh2
      have HXX := Lib.hid hx
      have HT := Lib.hid ht
      have HRI := Lib.hid hRi
      have HOWN := Lib.hid hown
      have HAI := Lib.hid hai
      have HSH2 := Lib.hid hsh2
      clear hx ht hown hsub hai hsh2 hRi
      go_wp2_with fail
      refine HC.out.mono ?_
      rintro e w3 ⟨qx, cx, rfl, t3, hn3, hf3⟩
      simp only at t3 hn3 hf3
      unfold valC
      obtain ⟨R3, hR3⟩ := t3.rdr
      have hown3 := HOWN.out.keep HRI.out t3
      have ka := (Below.refl w3.heap.size w3).alloc (Nat.le_refl _) (.cells #[.int .i64 x.kind, .int .i64 x.num, .string (S x.text), .slice qx x.list.length cx] 25)
      have t4 := RdTo.of_below hR3 ka
      have hb4 : BV (w3.alloc (.cells #[.int .i64 x.kind, .int .i64 x.num, .string (S x.text), .slice qx x.list.length cx] 25)) w3.heap.size (.int .i64 x.kind) (.int .i64 x.num) (.string (S x.text)) (.slice qx x.list.length cx) := heap_alloc_new w3 _
      have hown4 := hown3.keep hR3 t4
      have hn4 : NumsAt _ qx x.list := NumsAt.of_block hn3 t4.size (fun g off e hn => (t4.keeps g (hf3 g off e hn).2).1)
      have hf4 : ∀ g off, qx = some ⟨g, off, none⟩ → x.list ≠ [] → OffR r g _ ∧ some g ≠ (Value.slice q acc.length cap).ownBlock ∧ w.heap.size ≤ g := fun g off e hn => ⟨(t4.keeps g (hf3 g off e hn).2).2, fun e2 => by
        have h1 := (World.ownsRow.lt HOWN.out.own g e2.symm).2
        have h2 := (hf3 g off e hn).1
        omega, by have h2 := (hf3 g off e hn).1; have := HT.out.size; omega⟩
      obtain ⟨W4, hW4⟩ : ∃ W4, W4 = w3.alloc (.cells #[.int .i64 x.kind, .int .i64 x.num, .string (S x.text), .slice qx x.list.length cx] 25) := ⟨_, rfl⟩
      rw [← hW4] at t4 hb4 hown4 hn4 hf4
      obtain ⟨R4, hR4⟩ := t4.rdr
      have HT4 := Lib.hid ((HT.out.trans t3).trans t4)
      have c04 := hR4.c0
      have HB4 := Lib.hid (bad_any R4 l2 b2 W4 hR4.2.2.2.2)
      have HWS := Lib.hid (show w.heap.size ≤ w3.heap.size from Nat.le_trans HT.out.size t3.size)
      have HC0 := Lib.hid c04
      have y0 := hb4.c0
      have y1 := hb4.c1
      have y2 := hb4.c2
      have y3 := hb4.c3
      have HR4 := Lib.hid hR4
      have HO4 := Lib.hid hown4
      have HN4 := Lib.hid hn4
      have HF4 := Lib.hid hf4
      rw [hW4] at c04
      have HW4 := Lib.hid hW4
      clear hW4 t3 hn3 hf3 hR3 hown3 ka t4 hb4 hown4 hn4 hf4 hR4
      go_wp2_with fail
      rw [← HW4.out]
      clear c04
      have c04 := HC0.out
      by_cases hb2 : b2 = 0
      · subst hb2
        have hx3 := HXX.out
        rw [if_neg (by omega)] at hx3
        obtain ⟨q5, cap5, w5, hrun, hown5, hgrow⟩ := HO4.out.app HR4.out (by have := HT4.out.size; omega) (by have := HAI.out; omega) x qx cx HN4.out HF4.out W4.heap.size rfl
        have kk := (Below.refl W4.heap.size W4).alloc (Nat.le_refl _) (.cells #[.int .i64 x.kind, .int .i64 x.num, .string (S x.text), .slice qx x.list.length cx] 25)
        have hoff5 := off_row (HR4.out.below kk) (HO4.out.below HR4.out kk).own ne_val.1 ne_val.2
        have HT5 := Lib.hid ((HT4.out.trans (RdTo.of_below HR4.out kk)).grown HH.out.size hgrow (fun g hg => ⟨(World.ownsRow.lt HO4.out.own g hg).1, hoff5 g hg⟩))
        have HRUN := Lib.hid hrun
        have HO5 := Lib.hid hown5
        have HX5 := Lib.hid hx3
        clear hrun hown5 hgrow kk hoff5 hx3
        refine HB4.out.mono ?_
        rintro e w6 ⟨rfl, rfl⟩
        go_wp2_with (at_builtin; refine wpList_app rfl _ _ _ _ rfl rfl rfl _ _ HRUN.out ?_)
        go_wp2_with fail
        go_roundw
        case rel => exact ⟨i + 1, acc ++ [(x, qx, cx)], l2, 0, q5, cap5, by omega, by go_num, by rw [List.length_append]; rfl, by have := HAI.out; simp; omega, HO5.out, HT5.out, HSH2.out, by rw [HX5.out]; simp⟩
        case measure => simp [intOf]; omega
      · have h3 := (err_ne b2 hb2).1
        have hx3 := HXX.out
        rw [if_pos (by omega)] at hx3
        have HX4 := Lib.hid hx3
        clear hx3 hb2
        refine HB4.out.mono ?_
        rintro e w6 ⟨rfl, rfl⟩
        go_wp2_with fail
        exact HPST.out _ _ (by rw [HX4.out]; exact ⟨none, [], 0, rfl, rfl, HT4.out, VRow.nil _ _ _⟩)
    · have hie : i = n := by omega
      have hii : ¬ (i : Int) < (n : Int) := by omega
      rw [hie, Nat.sub_self] at hx
      unfold pLoop at hx
      have HT := Lib.hid ht
      have HOWN := Lib.hid hown
      have HXX := Lib.hid hx
      clear ht hx hown hRi
      go_wp2_with fail
      exact HPST.out _ _ (by rw [HXX.out]; exact ⟨q, acc, cap, rfl, rfl, HT.out, HOWN.out⟩)

end Go.Proofs.Ytkdhchdhgmaolaa.Cd
