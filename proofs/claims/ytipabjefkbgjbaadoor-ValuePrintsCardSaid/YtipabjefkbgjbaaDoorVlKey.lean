/-
  The program's values: Print, Key.
-/
import Derived.Test.YtipabjefkbgjbaaDoorVlPrint
namespace Go.Proofs.YtipabjefkbgjbaaDoor.Va
open Go.RowKit

theorem NumsAt.heap {w w' : World} {a : Option Addr} {l : List Int} (h : NumsAt w a l) (e : w'.heap = w.heap) : NumsAt w' a l := fun i hi => by
  obtain ⟨g, off, e1, hc, hl⟩ := h i hi
  exact ⟨g, off, e1, by unfold World.cell? at hc ⊢; rw [e]; exact hc, by rw [e]; exact hl⟩
theorem Tab.heap {w w' : World} (h : Tab w) (b : Below w.heap.size w w') : Tab w' := h.below b

set_option linter.unusedSimpArgs false
set_option maxRecDepth 100000 in
set_option maxHeartbeats 3200000 in
theorem Print_any (v : V) (ok : VIn v) (hr : rightB v = true) (a : Option Addr) (cap : Nat) (w : World) (hx : NumsAt w a v.list) (htab : Tab w) :
    Calls Tryd.prog 9 #[valC v a cap] w fun e w' => e = .returned (.string (S (printV v))) ∧ Below w.heap.size w w' := by
  have hc := right_cases hr
  obtain ⟨k, n, t, l⟩ := v
  have h1 := ok.num
  have h2 := ok.text
  have h3 := ok.list
  have h4 := ok.nums
  simp only at h1 h2 h3 h4 hc hx
  have hB0 := (Below.refl w.heap.size w).alloc (Nat.le_refl _) (boxO k n t l.length a cap)
  have hx1 := hx.below hB0
  have ht1 := htab.below hB0
  have HB0 := Lib.hid hB0
  clear ok hr hx htab hB0
  rcases hc with ⟨rfl, rfl, rfl, rfl⟩ | ⟨rfl, rfl, rfl⟩ | ⟨rfl, hn, rfl, rfl⟩ | ⟨rfl, rfl, rfl⟩ | ⟨rfl, rfl, hnm, rfl⟩ | ⟨rfl, rfl, rfl⟩
  · clear h1 h2 h3 h4 hx1 ht1
    unfold valC
    simp only
    go_enter Tryd.func9, Tryd.ntmps9
    go_wp2_with fail
    go_ret
    exact ⟨ret_s rfl, HB0.out⟩
  · have HF := Lib.hid (formatInt n h1.1 h1.2 _ ht1)
    clear h1 h2 h3 h4 hx1 ht1
    unfold valC
    simp only
    go_enter Tryd.func9, Tryd.ntmps9
    go_wp2_with fail
    refine HF.out.mono ?_
    rintro e w1 ⟨rfl, b1⟩
    have HB1 := Lib.hid (HB0.out.trans (b1.mono (by simp)))
    clear b1
    go_wp2_with fail
    go_ret
    exact ⟨ret_s rfl, HB1.out⟩
  · clear h1 h2 h3 h4 hx1 ht1
    rcases hn with rfl | rfl
    · unfold valC
      simp only
      go_enter Tryd.func9, Tryd.ntmps9
      go_wp2_with fail
      refine (Tryd.strconv_FormatBool false _).mono ?_
      rintro e w1 ⟨rfl, rfl⟩
      go_wp2_with fail
      go_ret
      exact ⟨ret_s rfl, HB0.out⟩
    · unfold valC
      simp only
      go_enter Tryd.func9, Tryd.ntmps9
      go_wp2_with fail
      refine (Tryd.strconv_FormatBool true _).mono ?_
      rintro e w1 ⟨rfl, rfl⟩
      go_wp2_with fail
      go_ret
      exact ⟨ret_s rfl, HB0.out⟩
  · have HQ := Lib.hid (quote_any t (by omega) (w.alloc (boxO 3 0 t ([] : List Int).length a cap)))
    clear h1 h2 h3 h4 hx1 ht1
    unfold valC
    simp only
    go_enter Tryd.func9, Tryd.ntmps9
    go_wp2_with fail
    refine HQ.out.mono ?_
    rintro e w1 ⟨rfl, b1⟩
    have HB1 := Lib.hid (HB0.out.trans (b1.mono (by simp)))
    clear b1
    go_wp2_with fail
    go_ret
    exact ⟨ret_s rfl, HB1.out⟩
  · have hts : (S t).size = t.length := S_size t
    have hadd : ∀ w, (Op.stringOp .add ⟨#[39]⟩ (S t)).run Tryd.prog w = .ok (.string (S (39 :: t))) w := fun w => by
      rw [run_string_add_sum w _ _ (by have : (⟨#[39]⟩ : ByteArray).size = 1 := rfl; omega)]
      show Result.ok (Value.string (S [39] ++ _)) w = _
      rw [S_append]; rfl
    clear h1 h2 h3 h4 hnm hts hx1 ht1
    unfold valC
    simp only
    go_enter Tryd.func9, Tryd.ntmps9
    go_wp2_with fail
    go_ret
    exact ⟨ret_s rfl, HB0.out⟩
  · have HQ := Lib.hid (brackets_any l h3 h4 a cap _ hx1 ht1)
    clear h1 h2 h3 h4 hx1 ht1
    unfold valC
    simp only
    go_enter Tryd.func9, Tryd.ntmps9
    go_wp2_with fail
    refine HQ.out.mono ?_
    rintro e w1 ⟨rfl, b1⟩
    have HB1 := Lib.hid (HB0.out.trans (b1.mono (by simp)))
    clear b1
    go_wp2_with fail
    go_ret
    exact ⟨ret_s rfl, HB1.out⟩

set_option maxRecDepth 100000 in
set_option maxHeartbeats 3200000 in
theorem Key_any (vs : List V) (hn : vs.length ≤ 1000) (ok : ∀ v ∈ vs, VIn v ∧ rightB v = true) (a : Option Addr) (cap : Nat) (w : World) (hx : ValsAt w a vs) (htab : Tab w) :
    Calls Tryd.prog 13 #[.slice a vs.length cap] w fun e w' => e = .returned (.string (S (keyT vs))) ∧ Below w.heap.size w w' := by
  have HX := Lib.hid hx
  have HOK := Lib.hid ok
  have HTAB := Lib.hid htab
  have hln := keyT_len vs (fun v hv => (ok v hv).1)
  have hln2 : (keyT vs).length ≤ 1000000000 := by
    have : 500001 * vs.length ≤ 500001 * 1000 := Nat.mul_le_mul_left _ hn
    omega
  obtain ⟨w2, hmk, htex, hbel⟩ := make_texts w vs.length (by omega)
  clear hx ok htab hln
  by_cases h0 : vs = []
  · subst h0
    have HBEL := Lib.hid hbel
    have hmk0 : (Instr.makeSlice 52 (.int .i64 0) (.int .i64 0)).run Tryd.prog w = .ok (.slice (some ⟨w.heap.size, 0, none⟩) 0 0) w2 := hmk
    clear htex hbel hmk
    go_enter Tryd.func13, Tryd.ntmps13
    go_wp2_with fail
    refine wp_loop_rounds 1 ?_
    rw [rounds_succ]
    go_wp2_with fail
    refine (Tryd.strings_Join_none _ _ (S [44]) _).mono ?_
    rintro e w' ⟨rfl, rfl⟩
    go_wp2_with fail
    go_ret
    exact ⟨ret_s rfl, HBEL.out⟩
  · have hpos : 0 < vs.length := List.length_pos_iff.2 h0
    have HT0 := Lib.hid (htex hpos)
    have HJ := Lib.hid (fun (wr : World) (h : TexR w wr w.heap.size vs.length (vs.map printV)) => join_texts w wr w.heap.size vs.length vs.length (vs.map printV) [44] h (by simp) (Nat.le_refl _) (by rw [← keyT_join]; omega) (by omega))
    have HNJ := Lib.hid (keyT_join vs)
    clear htex hbel h0 hln2
    have hsz := HT0.out.lt
    go_enter Tryd.func13, Tryd.ntmps13
    go_wp2_with fail
    clear hmk
    go_loopw [11] (fun i wr => ∃ k : Nat, k ≤ vs.length ∧ i = .int .i64 k ∧ TexR w wr w.heap.size vs.length ((vs.take k).map printV)) (fun i _ => vs.length - (intOf i).toNat)
    case atStart => exact ⟨0, by omega, rfl, HT0.out⟩
    case round =>
      obtain ⟨k, hk, rfl, ht⟩ := hrel
      have HT := Lib.hid ht
      by_cases hlt : k < vs.length
      · obtain ⟨g, off, rfl, hv, hgl⟩ := HX.out k hlt
        obtain ⟨a1, c1, p0, p1, p2, p3, pn⟩ := hv.below hgl ht.below
        obtain ⟨okv, hrv⟩ := HOK.out vs[k] (List.getElem_mem _)
        have hts : (vs.take (k + 1)).map printV = (vs.take k).map printV ++ [printV vs[k]] := by
          rw [List.take_succ_eq_append_getElem hlt, List.map_append]; rfl
        have hlen : ((vs.take k).map printV).length = k := by rw [List.length_map, List.length_take]; omega
        have hki : (k : Int) < (vs.length : Int) := by omega
        have HTS := Lib.hid hts
        have HLEN := Lib.hid hlen
        generalize vs[k] = x at *
        have hB0 := (Below.refl wr.heap.size wr).alloc (Nat.le_refl _) (boxO x.kind x.num x.text x.list.length a1 c1)
        have hcall := Print_any x okv hrv a1 c1 _ (pn.below hB0) ((HTAB.out.below ht.below).below hB0)
        have HQ := Lib.hid (ht.later hB0)
        obtain ⟨xk, xn, xt, xl⟩ := x
        simp only [valC] at hcall
        have HC := Lib.hid hcall
        simp only at p0 p1 p2 p3
        clear hcall okv hrv pn hv hts hlen ht hB0 hgl
        go_wp2_with fail
        refine HC.out.mono ?_
        rintro e w3 ⟨rfl, b3⟩
        have hq := HQ.out.later b3
        have hp := hq.put (printV ⟨xk, xn, xt, xl⟩) (by rw [HLEN.out]; exact hlt)
        obtain ⟨⟨v0, hv0⟩, hf0⟩ := hq.room k hlt
        rw [HLEN.out, ← HTS.out] at hp
        have HP := Lib.hid hp
        clear b3 hq hp
        go_wp2_with fail
        go_roundw
        case rel => exact ⟨k + 1, by omega, by go_num, HP.out⟩
        case measure => simp [intOf]; omega
      · obtain rfl : k = vs.length := by omega
        rw [List.take_length] at ht
        have HJ2 := Lib.hid (HJ.out wr ht)
        have HTB := Lib.hid ht.below
        rw [← HNJ.out] at HJ2
        clear ht HT
        go_wp2_with fail
        refine HJ2.out.mono ?_
        rintro e w3 ⟨rfl, b3⟩
        have HB3 := Lib.hid (HTB.out.trans (b3.mono HTB.out.size))
        clear b3
        go_wp2_with fail
        go_ret
        exact ⟨rfl, HB3.out⟩

end Go.Proofs.YtipabjefkbgjbaaDoor.Va
