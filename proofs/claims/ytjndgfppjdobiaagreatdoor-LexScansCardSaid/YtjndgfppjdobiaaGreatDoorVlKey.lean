/-
  The program's values: Print, Key.
-/
import Derived.Test.YtjndgfppjdobiaaGreatDoorVlPrint
namespace Go.Proofs.YtjndgfppjdobiaaGreatDoor.Va
open Go.RowKit

theorem NumsAt.heap {w w' : World} {a : Option Addr} {l : List Int} (h : NumsAt w a l) (e : w'.heap = w.heap) : NumsAt w' a l := fun i hi => by
  obtain ⟨g, off, e1, hc, hl⟩ := h i hi
  exact ⟨g, off, e1, by unfold World.cell? at hc ⊢; rw [e]; exact hc, by rw [e]; exact hl⟩
theorem Tab.heap {w w' : World} (h : Tab w) (b : Below w.heap.size w w') : Tab w' := h.below b

set_option linter.unusedSimpArgs false
set_option maxRecDepth 100000 in
set_option maxHeartbeats 3200000 in
theorem Print_any (v : V) (ok : VIn v) (hr : rightB v = true) (a : Option Addr) (cap : Nat) (w : World) (hx : NumsAt w a v.list) (htab : Tab w) :
    Calls Tryz.prog 41 #[valC v a cap] w fun e w' => e = .returned (.string (S (printV v))) ∧ Below w.heap.size w w' := by
  have hc := right_cases hr
  obtain ⟨k, n, t, l⟩ := v
  have h1 := ok.num
  have h2 := ok.text
  have h3 := ok.list
  have h4 := ok.nums
  simp only at h1 h2 h3 h4 hc hx
  have hB0 := (Below.refl w.heap.size w).alloc (Nat.le_refl _) (boxO k n t l.length a cap)
  have hx1 := hx.below hB0
  have ht1 := htab.below hB0
  have HB0 := Lib.hid hB0
  clear ok hr hx htab hB0
  rcases hc with ⟨rfl, rfl, rfl, rfl⟩ | ⟨rfl, rfl, rfl⟩ | ⟨rfl, hn, rfl, rfl⟩ | ⟨rfl, rfl, rfl⟩ | ⟨rfl, rfl, hnm, rfl⟩ | ⟨rfl, rfl, rfl⟩
  · clear h1 h2 h3 h4 hx1 ht1
    unfold valC
    simp only
    go_enter Tryz.func41, Tryz.ntmps41
    go_wp2_with fail
    go_ret
    exact ⟨ret_s rfl, HB0.out⟩
  · have HF := Lib.hid (formatInt n h1.1 h1.2 _ ht1)
    clear h1 h2 h3 h4 hx1 ht1
    unfold valC
    simp only
    go_enter Tryz.func41, Tryz.ntmps41
    go_wp2_with fail
    refine HF.out.mono ?_
    rintro e w1 ⟨rfl, b1⟩
    have HB1 := Lib.hid (HB0.out.trans (b1.mono (by simp)))
    clear b1
    go_wp2_with fail
    go_ret
    exact ⟨ret_s rfl, HB1.out⟩
  · clear h1 h2 h3 h4 hx1 ht1
    rcases hn with rfl | rfl
    · unfold valC
      simp only
      go_enter Tryz.func41, Tryz.ntmps41
      go_wp2_with fail
      refine (Tryz.strconv_FormatBool false _).mono ?_
      rintro e w1 ⟨rfl, rfl⟩
      go_wp2_with fail
      go_ret
      exact ⟨ret_s rfl, HB0.out⟩
    · unfold valC
      simp only
      go_enter Tryz.func41, Tryz.ntmps41
      go_wp2_with fail
      refine (Tryz.strconv_FormatBool true _).mono ?_
      rintro e w1 ⟨rfl, rfl⟩
      go_wp2_with fail
      go_ret
      exact ⟨ret_s rfl, HB0.out⟩
  · have HQ := Lib.hid (quote_any t (by omega) (w.alloc (boxO 3 0 t ([] : List Int).length a cap)))
    clear h1 h2 h3 h4 hx1 ht1
    unfold valC
    simp only
    go_enter Tryz.func41, Tryz.ntmps41
    go_wp2_with fail
    refine HQ.out.mono ?_
    rintro e w1 ⟨rfl, b1⟩
    have HB1 := Lib.hid (HB0.out.trans (b1.mono (by simp)))
    clear b1
    go_wp2_with fail
    go_ret
    exact ⟨ret_s rfl, HB1.out⟩
  · have hts : (S t).size = t.length := S_size t
    have hadd : ∀ w, (Op.stringOp .add ⟨#[39]⟩ (S t)).run Tryz.prog w = .ok (.string (S (39 :: t))) w := fun w => by
      rw [run_string_add_sum w _ _ (by have : (⟨#[39]⟩ : ByteArray).size = 1 := rfl; omega)]
      show Result.ok (Value.string (S [39] ++ _)) w = _
      rw [S_append]; rfl
    clear h1 h2 h3 h4 hnm hts hx1 ht1
    unfold valC
    simp only
    go_enter Tryz.func41, Tryz.ntmps41
    go_wp2_with fail
    go_ret
    exact ⟨ret_s rfl, HB0.out⟩
  · have HQ := Lib.hid (brackets_any l h3 h4 a cap _ hx1 ht1)
    clear h1 h2 h3 h4 hx1 ht1
    unfold valC
    simp only
    go_enter Tryz.func41, Tryz.ntmps41
    go_wp2_with fail
    refine HQ.out.mono ?_
    rintro e w1 ⟨rfl, b1⟩
    have HB1 := Lib.hid (HB0.out.trans (b1.mono (by simp)))
    clear b1
    go_wp2_with fail
    go_ret
    exact ⟨ret_s rfl, HB1.out⟩

end Go.Proofs.YtjndgfppjdobiaaGreatDoor.Va
