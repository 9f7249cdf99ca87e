/-
  Fill: a box of given messages.
-/
import Derived.Test.YtgggjlmelnbgcaaMdAll
namespace Go.Proofs.Ytgggjlmelnbgcaa.Md
open Go.RowKit
open Va
set_option linter.unusedVariables false
set_option linter.unusedSimpArgs false

/-- A message that may be handled: its rows aren't long. -/
structure Mok (m : MailP) : Prop where
  big : MBig m
  key : m.key.length ≤ 1000
  fields : m.fields.length ≤ 1000
def Filled (most : Int) (l : List MailP) (w : World) (e : Ending) (w' : World) : Prop :=
  if l.length ≤ capN most then e = .returned (.tuple #[.pointer (some ⟨w.heap.size + 1, 0, none⟩), .bool true]) ∧ BoxAt w.heap.size w' (w.heap.size + 1) w.heap.size (capN most) l
  else e = .returned (.tuple #[.pointer none, .bool false])

set_option maxRecDepth 100000 in
set_option maxHeartbeats 4000000 in
theorem fill_any (most : Int) (hm : Num64 most) (l : List MailP) (hl : l.length ≤ 281474976710656) (ok : ∀ m ∈ l, Mok m) (a : Option Addr) (cap : Nat) (w : World) (hx : MailsAt w a l) :
    Calls Try.prog 24 #[.int .i64 most, .slice a l.length cap] w fun e w' => Filled most l w e w' ∧ Below w.heap.size w w' := by
  have HN := Lib.hid (new_any most hm w)
  have HX := Lib.hid hx
  have HOK := Lib.hid ok
  have hli : (l.length : Int) ≤ 281474976710656 := by omega
  obtain ⟨Pst, hPst⟩ : ∃ Pst : Ending → World → Prop, Pst = fun e w' => Filled most l w e w' ∧ Below w.heap.size w w' := ⟨_, rfl⟩
  rw [← hPst]
  have HP := Lib.hid hPst
  clear hPst hx ok hm
  go_enter Try.func24, Try.ntmps24
  go_wp2_with fail
  refine HN.out.mono ?_
  rintro e w1 ⟨⟨rfl, hb1⟩, b1⟩
  have HB1 := Lib.hid hb1
  have B1 := Lib.hid b1
  clear hb1 b1 HN
  go_wp2_with fail
  go_loopw [13] (fun iv wr => ∃ k : Nat, k ≤ l.length ∧ iv = .int .i64 k ∧ BoxAt w.heap.size wr (w.heap.size + 1) w.heap.size (capN most) (l.take k) ∧ Below w.heap.size w wr) (fun iv _ => l.length - (intOf iv).toNat)
  case atStart => exact ⟨0, by omega, rfl, by simpa using HB1.out, B1.out⟩
  case round =>
    obtain ⟨k, hk, rfl, hb, hbl⟩ := hrel
    have HB := Lib.hid hb
    have HBL := Lib.hid hbl
    by_cases hlt : k < l.length
    · have hki : (k : Int) < (l.length : Int) := by omega
      obtain ⟨b, off, ka, kc, fa, fc, rfl, hv, hbs⟩ := HX.out k hlt
      obtain ⟨v0, v1, v2, v3, hka, hfa⟩ := hv
      have ok1 := HOK.out l[k] (List.getElem_mem _)
      obtain ⟨m, hm⟩ : ∃ m, m = l[k] := ⟨_, rfl⟩
      rw [← hm] at v0 v1 v2 v3 hka hfa ok1
      have HM := Lib.hid hm
      have p0 := (hbl.cell (p := ⟨b, off + k * 4, none⟩) hbs).trans v0
      have p1 := (hbl.cell (p := ⟨b, off + k * 4 + 1, none⟩) hbs).trans v1
      have p2 := (hbl.cell (p := ⟨b, off + k * 4 + 2, none⟩) hbs).trans v2
      have p3 := (hbl.cell (p := ⟨b, off + k * 4 + 3, none⟩) hbs).trans v3
      have kk := (Below.refl wr.heap.size wr).alloc (Nat.le_refl _) (.cells #[.int .i64 m.id, .string (S m.chan), .slice ka m.key.length kc, .slice fa m.fields.length fc] 30)
      have HKK := Lib.hid kk
      have HOF := Lib.hid (offer_any (hb.below kk) m ok1.big ok1.key ok1.fields ka kc fa fc ((hka.below hbl).below kk) ((hfa.below hbl).below kk))
      unfold mV at HOF
      have hbe := heap_alloc_new wr (.cells #[.int .i64 m.id, .string (S m.chan), .slice ka m.key.length kc, .slice fa m.fields.length fc] 30)
      have e0 := cell_of_row _ wr.heap.size 0 _ _ (0, 0) hbe
      have e1 := cell_of_row _ wr.heap.size 1 _ _ (0, 0) hbe
      have e2 := cell_of_row _ wr.heap.size 2 _ _ (0, 0) hbe
      have e3 := cell_of_row _ wr.heap.size 3 _ _ (0, 0) hbe
      have hlk : (l.take k).length = k := by rw [List.length_take]; omega
      rw [hlk] at HOF
      clear hb hbl v0 v1 v2 v3 hka hfa ok1 hm kk hbe
      by_cases hc : k < capN most
      · rw [if_pos hc, show decide (k < capN most) = true by simp [hc]] at HOF
        go_wp2_with fail
        refine HOF.out.mono ?_
        rintro e w3 ⟨⟨rfl, hb3⟩, o3⟩
        have HB3 := Lib.hid hb3
        have HBL3 := Lib.hid (o3.then (HBL.out.trans (HKK.out.mono HBL.out.size)) (Nat.le_refl _) (Nat.le_trans HBL.out.size HKK.out.size))
        clear hb3 o3 e0 e1 e2 e3 p0 p1 p2 p3
        go_wp2_with fail
        go_roundw
        case rel => exact ⟨k + 1, by omega, by go_num, by rw [List.take_succ_eq_append_getElem hlt, ← HM.out]; exact HB3.out, HBL3.out⟩
        case measure => simp [intOf]; omega
      · rw [if_neg hc, show decide (k < capN most) = false by simp [hc]] at HOF
        go_wp2_with fail
        refine HOF.out.mono ?_
        rintro e w3 ⟨⟨rfl, hb3⟩, o3⟩
        have HBL3 := Lib.hid (o3.then (HBL.out.trans (HKK.out.mono HBL.out.size)) (Nat.le_refl _) (Nat.le_trans HBL.out.size HKK.out.size))
        clear hb3 o3 e0 e1 e2 e3 p0 p1 p2 p3
        go_wp2_with fail
        rw [HP.out]
        refine ⟨?_, HBL3.out⟩
        unfold Filled
        rw [if_neg (by omega)]
        rfl
    · have hke : k = l.length := by omega
      have hki : ¬ (k : Int) < (l.length : Int) := by omega
      clear hb hbl
      go_wp2_with fail
      rw [HP.out]
      refine ⟨?_, HBL.out⟩
      unfold Filled
      have hr := HB.out.room
      rw [hke, List.take_length] at hr
      rw [if_pos hr]
      have := HB.out
      rw [hke, List.take_length] at this
      exact ⟨rfl, this⟩

end Go.Proofs.Ytgggjlmelnbgcaa.Md
