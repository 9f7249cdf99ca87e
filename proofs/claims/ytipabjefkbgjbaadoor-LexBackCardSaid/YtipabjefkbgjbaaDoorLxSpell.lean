/-
  The program's lexer: Spell, Join.
-/
import Derived.Test.YtipabjefkbgjbaaDoorLxTokOk
import Derived.Test.YtipabjefkbgjbaaDoorLxToks
namespace Go.Proofs.YtipabjefkbgjbaaDoor.Lx
open Go.RowKit
open Va

theorem right_sym (t : List UInt8) : rightB ⟨4, 0, t, []⟩ = nameB t := by
  unfold rightB
  simp
theorem name_len (t : List UInt8) (h : nameB t = true) : t.length ≤ 24 := by
  exact (nameB_ne h).2.1
set_option linter.unusedSimpArgs false
set_option maxRecDepth 100000 in
set_option maxHeartbeats 3200000 in
theorem spell_any (t : TA) (ok : TokOk t) (w : World) (htab : Tab w) :
    Calls Tryd.prog 33 #[.agg #[.int .i64 t.kind, .string (S t.text), .int .i64 t.num, .int .i64 (t.at_ : Int)]] w fun e w' => e = .returned (.string (S (spellT t))) ∧ Below w.heap.size w w' := by
  obtain ⟨k, tx, n, a⟩ := t
  have o1 := ok.num
  have o2 := ok.text
  have o3 := ok.sym
  have o4 := ok.spell
  simp only at o1 o2 o3 o4
  have hb0 := (Below.refl w.heap.size w).alloc (Nat.le_refl _) (.cells #[.int .i64 k, .string (S tx), .int .i64 n, .int .i64 (a : Int)] 41)
  have HB0 := Lib.hid hb0
  have htab1 := htab.below hb0
  unfold spellT
  simp only
  by_cases k2 : k = 2
  · subst k2
    obtain ⟨n0, n1⟩ := o1 rfl
    have HP := Lib.hid (fun (wr : World) (h : Tab wr) => show Calls Tryd.prog 9 #[.agg #[.int .i64 1, .int .i64 n, .string ⟨#[]⟩, .slice none 0 0]] wr fun e w' => e = .returned (.string (S (decZ n))) ∧ Below wr.heap.size wr w' from Print_any ⟨1, n, [], []⟩ ⟨⟨by simp only; omega, n1⟩, by simp, by simp, by simp⟩ (by simp [rightB]) none 0 wr (NumsAt_nil _ _) h)
    have HR := Lib.hid (show decZ n = spellM 2 tx n from rfl)
    have HT := Lib.hid htab1
    clear o1 o2 o3 o4 hb0 htab1 htab ok
    go_enter Tryd.func33, Tryd.ntmps33
    go_wp2_with fail
    refine (HP.out _ HT.out).mono ?_
    rintro e w1 ⟨rfl, b1⟩
    have B1 := Lib.hid (HB0.out.trans (b1.mono (by simp)))
    clear b1
    go_wp2_with fail
    go_ret
    exact ⟨by rw [← HR.out]; rfl, B1.out⟩
  · have kb2 : (k == 2) = false := by simpa using k2
    by_cases k3 : k = 3
    · subst k3
      have ht := o2 rfl
      have HP := Lib.hid (fun (wr : World) (h : Tab wr) => show Calls Tryd.prog 9 #[.agg #[.int .i64 3, .int .i64 0, .string (S tx), .slice none 0 0]] wr fun e w' => e = .returned (.string (S (34 :: (escT tx ++ [34])))) ∧ Below wr.heap.size wr w' from Print_any ⟨3, 0, tx, []⟩ ⟨by simp only; omega, by simp only; omega, by simp, by simp⟩ (by rw [right_text]; simpa using ht) none 0 wr (NumsAt_nil _ _) h)
      have HR := Lib.hid (show 34 :: (escT tx ++ [34]) = spellM 3 tx n from rfl)
      have HT := Lib.hid htab1
      clear o1 o2 o3 o4 hb0 htab1 htab ok ht
      go_enter Tryd.func33, Tryd.ntmps33
      go_wp2_with fail
      refine (HP.out _ HT.out).mono ?_
      rintro e w1 ⟨rfl, b1⟩
      have B1 := Lib.hid (HB0.out.trans (b1.mono (by simp)))
      clear b1
      go_wp2_with fail
      go_ret
      exact ⟨by rw [← HR.out]; rfl, B1.out⟩
    · have kb3 : (k == 3) = false := by simpa using k3
      by_cases k4 : k = 4
      · subst k4
        have ht := o3 rfl
        have htl := name_len tx ht
        have HP := Lib.hid (fun (wr : World) (h : Tab wr) => show Calls Tryd.prog 9 #[.agg #[.int .i64 4, .int .i64 0, .string (S tx), .slice none 0 0]] wr fun e w' => e = .returned (.string (S (39 :: tx))) ∧ Below wr.heap.size wr w' from Print_any ⟨4, 0, tx, []⟩ ⟨by simp only; omega, by simp only; omega, by simp, by simp⟩ (by rw [right_sym]; exact ht) none 0 wr (NumsAt_nil _ _) h)
        have HR := Lib.hid (show 39 :: tx = spellM 4 tx n from rfl)
        have HT := Lib.hid htab1
        clear o1 o2 o3 o4 hb0 htab1 htab ok ht htl
        go_enter Tryd.func33, Tryd.ntmps33
        go_wp2_with fail
        refine (HP.out _ HT.out).mono ?_
        rintro e w1 ⟨rfl, b1⟩
        have B1 := Lib.hid (HB0.out.trans (b1.mono (by simp)))
        clear b1
        go_wp2_with fail
        go_ret
        exact ⟨by rw [← HR.out]; rfl, B1.out⟩
      · have kb4 : (k == 4) = false := by simpa using k4
        have hsp : spellM k tx n = tx := by unfold spellM; rw [if_neg k2, if_neg k3, if_neg k4]
        rw [hsp] at o4
        have HCL := Lib.hid (clone_any (S tx) (by rw [S_size]; omega))
        have HR := Lib.hid hsp
        clear o1 o2 o3 o4 hb0 htab1 htab ok hsp k2 k3 k4
        go_enter Tryd.func33, Tryd.ntmps33
        go_wp2_with fail
        refine (HCL.out _).mono ?_
        rintro e w1 ⟨rfl, b1⟩
        have B1 := Lib.hid (HB0.out.trans (b1.mono (by simp)))
        clear b1
        go_wp2_with fail
        go_ret
        exact ⟨by rw [HR.out]; rfl, B1.out⟩

set_option maxRecDepth 100000 in
set_option maxHeartbeats 3200000 in
theorem join_any (ts : List TA) (hne : ts ≠ []) (hn : ts.length ≤ 8001) (ok : ∀ t ∈ ts, TokOk t) (g cap : Nat) (w : World) (hx : TokAt w g ts) (htab : Tab w) :
    Calls Tryd.prog 18 #[.slice (some ⟨g, 0, none⟩) ts.length cap] w fun e w' => e = .returned (.string (S (joinM ts))) ∧ Below w.heap.size w w' := by
  have HX := Lib.hid hx
  have HOK := Lib.hid ok
  have HTAB := Lib.hid htab
  have hln := joinM_len ts ok
  have hln2 : (joinM ts).length ≤ 1000000000 := by
    have : 8001 * ts.length ≤ 8001 * 8001 := Nat.mul_le_mul_left _ hn
    omega
  obtain ⟨w2, hmk, htex, hbel⟩ := make_texts w ts.length (by omega)
  have hpos : 0 < ts.length := List.length_pos_iff.2 hne
  have HT0 := Lib.hid (htex hpos)
  have HJ := Lib.hid (fun (wr : World) (h : TexR w wr w.heap.size ts.length (ts.map spellT)) => join_texts w wr w.heap.size ts.length ts.length (ts.map spellT) [32] h (by simp) (Nat.le_refl _) (by rw [← joinM_join]; omega) (by omega))
  have HNJ := Lib.hid (joinM_join ts)
  have hgw := hx.lt
  clear hx ok htab hln htex hbel hne hln2
  have hsz := HT0.out.lt
  go_enter Tryd.func18, Tryd.ntmps18
  go_wp2_with fail
  clear hmk
  go_loopw [11] (fun i wr => ∃ k : Nat, k ≤ ts.length ∧ i = .int .i64 k ∧ TexR w wr w.heap.size ts.length ((ts.take k).map spellT)) (fun i _ => ts.length - (intOf i).toNat)
  case atStart => exact ⟨0, by omega, rfl, HT0.out⟩
  case round =>
    obtain ⟨k, hk, rfl, ht⟩ := hrel
    have HT := Lib.hid ht
    by_cases hlt : k < ts.length
    · have hta := HX.out.below ht.below
      obtain ⟨x, hx⟩ : ∃ x, ts[k]? = some x := ⟨ts[k], List.getElem?_eq_getElem hlt⟩
      obtain ⟨p0, p1, p2, p3⟩ := hta.cells k x hx
      have okx := HOK.out x (List.mem_of_getElem? hx)
      have hts : (ts.take (k + 1)).map spellT = (ts.take k).map spellT ++ [spellT x] := by
        rw [List.take_add_one, hx, List.map_append]; rfl
      have hlen : ((ts.take k).map spellT).length = k := by rw [List.length_map, List.length_take]; omega
      have hki : (k : Int) < (ts.length : Int) := by omega
      have HTS := Lib.hid hts
      have HLEN := Lib.hid hlen
      have hB0 := (Below.refl wr.heap.size wr).alloc (Nat.le_refl _) (.cells #[.int .i64 x.kind, .string (S x.text), .int .i64 x.num, .int .i64 (x.at_ : Int)] 41)
      have hcall := spell_any x okx _ ((HTAB.out.below ht.below).below hB0)
      have HQ := Lib.hid (ht.later hB0)
      obtain ⟨xk, xt, xn, xa⟩ := x
      simp only at p0 p1 p2 p3
      have HC := Lib.hid hcall
      clear hcall okx hts hlen ht hB0 hx hta
      go_wp2_with fail
      refine HC.out.mono ?_
      rintro e w3 ⟨rfl, b3⟩
      have hq := HQ.out.later b3
      have hp := hq.put (spellT ⟨xk, xt, xn, xa⟩) (by rw [HLEN.out]; exact hlt)
      obtain ⟨⟨v0, hv0⟩, hf0⟩ := hq.room k hlt
      rw [HLEN.out, ← HTS.out] at hp
      have HP := Lib.hid hp
      clear b3 hq hp
      go_wp2_with fail
      go_roundw
      case rel => exact ⟨k + 1, by omega, by go_num, HP.out⟩
      case measure => simp [intOf]; omega
    · obtain rfl : k = ts.length := by omega
      rw [List.take_length] at ht
      have HJ2 := Lib.hid (HJ.out wr ht)
      have HTB := Lib.hid ht.below
      rw [← HNJ.out] at HJ2
      clear ht HT
      go_wp2_with fail
      refine HJ2.out.mono ?_
      rintro e w3 ⟨rfl, b3⟩
      have HB3 := Lib.hid (HTB.out.trans (b3.mono HTB.out.size))
      clear b3
      go_wp2_with fail
      go_ret
      exact ⟨rfl, HB3.out⟩

end Go.Proofs.YtipabjefkbgjbaaDoor.Lx
