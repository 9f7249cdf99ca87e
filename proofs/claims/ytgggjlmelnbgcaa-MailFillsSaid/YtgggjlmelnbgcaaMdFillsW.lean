/-
  MailFills, walked.
-/
import Derived.Test.YtgggjlmelnbgcaaMdSmall
namespace Go.Proofs.Ytgggjlmelnbgcaa.Md
open Go.RowKit
open Va
set_option linter.unusedVariables false
set_option linter.unusedSimpArgs false

set_option maxRecDepth 100000 in
set_option maxHeartbeats 8000000 in
theorem mailFills_walk (most : Int) (l : List MailP) (a : Option Addr) (cap : Nat) (w : World) (hm : Num64 most) (hl : l.length ≤ 281474976710656) (hx : MailsAt w a l) (hb : ∀ m ∈ l, MBig m) :
    Calls Try.prog 4 #[.int .i64 most, .slice a l.length cap] w fun e w' => e = .returned (.bool true) ∧ Below w.heap.size w w' := by
  have HX := Lib.hid hx
  have HBIG := Lib.hid hb
  have HMO := Lib.hid hm
  have HLL := Lib.hid hl
  have hli : (l.length : Int) ≤ 281474976710656 := by omega
  clear hx hb hm
  go_enter Try.func4, Try.ntmps4
  go_wp2_with fail
  refine (awake18_any _).mono ?_
  rintro e w1 ⟨rfl, b1⟩
  have B1 := Lib.hid b1
  clear b1
  go_wp2_with fail
  go_loopw [13] (fun iv wr => ∃ k : Nat, k ≤ l.length ∧ iv = .int .i64 k ∧ Below w.heap.size w wr ∧ Hid (∀ j, (h : j < l.length) → j < k → shortB l[j] = true ∧ l.length ≤ 200)) (fun iv _ => l.length - (intOf iv).toNat)
  case atStart => exact ⟨0, by omega, rfl, B1.out, Lib.hid (fun j _ h => absurd h (by omega))⟩
  case round =>
    obtain ⟨k, hk, rfl, hbl, hsh⟩ := hrel
    have HBL := Lib.hid hbl
    by_cases hlt : k < l.length
    · have hki : (k : Int) < (l.length : Int) := by omega
      obtain ⟨b, off, ka, kc, fa, fc, rfl, hv, hbs⟩ := HX.out k hlt
      obtain ⟨v0, v1, v2, v3, hka, hfa⟩ := hv
      have ok1 := HBIG.out l[k] (List.getElem_mem _)
      obtain ⟨m, hm⟩ : ∃ m, m = l[k] := ⟨_, rfl⟩
      rw [← hm] at v0 v1 v2 v3 hka hfa ok1
      have HM := Lib.hid hm
      have p0 := (hbl.cell (p := ⟨b, off + k * 4, none⟩) hbs).trans v0
      have p1 := (hbl.cell (p := ⟨b, off + k * 4 + 1, none⟩) hbs).trans v1
      have p2 := (hbl.cell (p := ⟨b, off + k * 4 + 2, none⟩) hbs).trans v2
      have p3 := (hbl.cell (p := ⟨b, off + k * 4 + 3, none⟩) hbs).trans v3
      have kk := (Below.refl wr.heap.size wr).alloc (Nat.le_refl _) (.cells #[.int .i64 m.id, .string (S m.chan), .slice ka m.key.length kc, .slice fa m.fields.length fc] 30)
      have HKK := Lib.hid (hbl.trans (kk.mono hbl.size))
      have hbe := heap_alloc_new wr (.cells #[.int .i64 m.id, .string (S m.chan), .slice ka m.key.length kc, .slice fa m.fields.length fc] 30)
      have e0 := cell_of_row _ wr.heap.size 0 _ _ (0, 0) hbe
      have e1 := cell_of_row _ wr.heap.size 1 _ _ (0, 0) hbe
      have e2 := cell_of_row _ wr.heap.size 2 _ _ (0, 0) hbe
      have e3 := cell_of_row _ wr.heap.size 3 _ _ (0, 0) hbe
      have HOK := Lib.hid ok1
      clear hbl v0 v1 v2 v3 hka hfa ok1 hm kk hbe
      by_cases hbig : l.length ≤ 200
      · have hbi : ¬ (l.length : Int) > 200 := by omega
        have HSM := Lib.hid (fun W => short_any m HOK.out ka kc fa fc W)
        cases hs : shortB m with
        | true =>
          rw [hs] at HSM
          go_wp2_with fail
          refine (HSM.out _).mono ?_
          rintro e w3 ⟨rfl, b3⟩
          have B3 := Lib.hid (HKK.out.trans (b3.mono HKK.out.size))
          clear b3 e0 e1 e2 e3 p0 p1 p2 p3
          go_wp2_with fail
          go_roundw
          case rel => exact ⟨k + 1, by omega, by go_num, B3.out, Lib.hid (fun j hj hjk => by
            by_cases e : j = k
            · subst e; exact ⟨by rw [← HM.out]; exact hs, hbig⟩
            · exact hsh.out j hj (by omega))⟩
          case measure => simp [intOf]; omega
        | false =>
          rw [hs] at HSM
          go_wp2_with fail
          refine (HSM.out _).mono ?_
          rintro e w3 ⟨rfl, b3⟩
          have B3 := Lib.hid (HKK.out.trans (b3.mono HKK.out.size))
          clear b3 e0 e1 e2 e3 p0 p1 p2 p3
          go_wp2_with fail
          refine (awake18_any _).mono ?_
          rintro e w4 ⟨rfl, b4⟩
          have B4 := Lib.hid (B3.out.trans (b4.mono B3.out.size))
          clear b4
          go_wp2_with fail
          go_ret
          exact ⟨rfl, B4.out⟩
      · have hbi : (l.length : Int) > 200 := by omega
        go_wp2_with fail
        refine (awake18_any _).mono ?_
        rintro e w4 ⟨rfl, b4⟩
        have B4 := Lib.hid (HKK.out.trans (b4.mono HKK.out.size))
        clear b4
        go_wp2_with fail
        go_ret
        exact ⟨rfl, B4.out⟩
    · have hke : k = l.length := by omega
      have hki : ¬ (k : Int) < (l.length : Int) := by omega
      have hall : ∀ m ∈ l, Mok m ∧ Msh m := fun m hm => by
        obtain ⟨i, hi, rfl⟩ := List.mem_iff_getElem.1 hm
        exact shortB_ok (HBIG.out _ hm) (hsh.out i hi (by omega)).1
      have HALL := Lib.hid hall
      have HF := Lib.hid (fill_any most HMO.out l hl (fun m hm => (hall m hm).1) a cap wr (HX.out.below hbl))
      have HRN := Lib.hid (refNew_any most HMO.out)
      clear hbl hall hsh
      go_wp2_with fail
      refine HF.out.mono ?_
      rintro e w2 ⟨hfil, b2⟩
      have B2 := Lib.hid (HBL.out.trans (b2.mono HBL.out.size))
      unfold Filled at hfil
      by_cases hroom : l.length ≤ capN most
      · rw [if_pos hroom] at hfil
        obtain ⟨rfl, hbox⟩ := hfil
        have hri : (l.length : Int) ≤ (capN most : Nat) := by omega
        have HBOX := Lib.hid hbox
        clear hbox b2
        go_wp2_with fail
        refine (HRN.out _).mono ?_
        rintro e w3 ⟨rfl, rfl⟩
        have k3 := (Below.refl w2.heap.size w2).alloc (Nat.le_refl _) (.cells #[.slice none 0 0, .int .i64 (capN most : Nat)] 41)
        have h3 := heap_alloc_new w2 (.cells #[.slice none 0 0, .int .i64 (capN most : Nat)] 41)
        have r1 := cell_of_row _ w2.heap.size 1 _ _ (0, 0) h3
        have B3 := Lib.hid (B2.out.trans (k3.mono B2.out.size))
        have HB3 := Lib.hid (HBOX.out.below k3)
        clear k3 h3
        go_wp2_with fail
        refine (awake18_any _).mono ?_
        rintro e w4 ⟨rfl, b4⟩
        have B4 := Lib.hid (B3.out.trans (b4.mono B3.out.size))
        have HB4 := Lib.hid (HB3.out.below b4)
        clear b4 r1
        go_wp2_with fail
        refine (all_any HB4.out (fun m hm => ⟨(HALL.out m hm).1.big, (HALL.out m hm).1.key, (HALL.out m hm).1.fields⟩)).mono ?_
        rintro e w5 ⟨⟨⟨q, d, cp, rfl, hd, hout⟩, hst⟩, o5⟩
        have hdl : d.length = l.length := by rw [← hd]; simp
        rw [hdl]
        have B5 := Lib.hid (o5.then B4.out HBL.out.size B4.out.size)
        have HB5 := Lib.hid (hst w5 (fun _ _ => rfl))
        have HSB := Lib.hid (sameBox_refl l (fun m hm => (HALL.out m hm).2) (by have h9 : capN most ≤ 4096 := (by unfold capN; omega); omega) q a cp cap w5 (hout.mails hd) (HX.out.below B5.out))
        clear hd hout hst o5
        go_wp2_with fail
        refine HSB.out.mono ?_
        rintro e w6 ⟨rfl, b6⟩
        have B6 := Lib.hid (B5.out.trans (b6.mono B5.out.size))
        have HLN := Lib.hid (len_any (HB5.out.below b6))
        clear b6
        go_wp2_with fail
        refine HLN.out.mono ?_
        rintro e w7 ⟨rfl, rfl⟩
        go_wp2_with fail
        go_ret
        exact ⟨by simp, B6.out⟩
      · rw [if_neg hroom] at hfil
        obtain rfl := hfil
        have hri : ¬ (l.length : Int) ≤ (capN most : Nat) := by omega
        clear b2
        go_wp2_with fail
        refine (HRN.out _).mono ?_
        rintro e w3 ⟨rfl, rfl⟩
        have k3 := (Below.refl w2.heap.size w2).alloc (Nat.le_refl _) (.cells #[.slice none 0 0, .int .i64 (capN most : Nat)] 41)
        have h3 := heap_alloc_new w2 (.cells #[.slice none 0 0, .int .i64 (capN most : Nat)] 41)
        have r1 := cell_of_row _ w2.heap.size 1 _ _ (0, 0) h3
        have B3 := Lib.hid (B2.out.trans (k3.mono B2.out.size))
        clear k3 h3
        go_wp2_with fail
        refine (awake18_any _).mono ?_
        rintro e w4 ⟨rfl, b4⟩
        have B4 := Lib.hid (B3.out.trans (b4.mono B3.out.size))
        clear b4 r1
        go_wp2_with fail
        go_ret
        exact ⟨rfl, B4.out⟩

end Go.Proofs.Ytgggjlmelnbgcaa.Md
