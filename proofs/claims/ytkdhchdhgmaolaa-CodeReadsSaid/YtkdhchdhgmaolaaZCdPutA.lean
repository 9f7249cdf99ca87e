/-
  The writer's small methods: number, small, count, name.
-/
import Derived.Test.YtkdhchdhgmaolaaZCdWr
import Derived.Deep.RegionHeld3
namespace Go.Proofs.Ytkdhchdhgmaolaa.Cd
open Go.RowKit
open Pk Va
set_option linter.unusedVariables false
set_option linter.unusedSimpArgs false

theorem enc_ne (n : Nat) : enc n ≠ [] := by
  unfold enc encF
  split <;> simp
/-- How one call of the writer's ends. -/
def PutsTo (H b : Nat) (x : List UInt8) (ok : Bool) (k : Nat) (l : List UInt8) (bad : Bool) (w : World) (e : Ending) (w' : World) : Prop :=
  e = .returned (.tuple #[]) ∧ ∃ l' bad', WrTo H b l' bad' w w' ∧ Wrote x ok k l bad l' bad'
structure Num64 (n : Int) : Prop where
  lo : -9223372036854775808 ≤ n
  hi : n ≤ 9223372036854775807

set_option maxRecDepth 100000 in
theorem number_w (H b : Nat) (l : List UInt8) (bad : Bool) (n : Int) (hn : Num64 n) (w : World) (h : Wr H b l bad w) (hl : l.length ≤ 100000000) :
    Calls Try.prog 91 #[.pointer (some ⟨b, 0, none⟩), .int .i64 n] w fun e w' => PutsTo H b (numB n) true 10 l bad w e w' := by
  have HN := Lib.hid (fun W (k : Good w W) => (number_any n hn.lo (by have := hn.hi; omega) W).mono (R' := fun e w1 => e = .returned (.string (S (numB n))) ∧ Good w w1) (fun e w1 g => ⟨g.1, k.step g.2⟩))
  have HW := Lib.hid (fun W (k : Good w W) => (WriteString_w H b l bad (numB n) (enc_ne _) W (h.below k) (by have := numB_len n; omega)).mono (R' := fun e w2 => e = .returned (.tuple #[.int .i64 ((numB n).length : Int), .nilIface]) ∧ WrTo H b (l ++ numB n) bad w w2) (fun e w2 g => ⟨g.1, (WrTo.of_below h k).trans g.2⟩))
  have HG := Lib.hid (Good.refl w)
  have HP := Lib.hid (Wrote.all (numB n) l bad 10 (numB_len n))
  clear h hn
  go_enter Try.func91, Try.ntmps91
  go_wp2_with fail
  go_region_held3 (fun _ => True) (first | trivial | assumption)
    (first
      | (go_at_call 120; with_reducible refine (HN.out _ (by first | exact good_id (by assumption) | exact good_drew (by assumption))).mono ?_; rintro e w1 ⟨rfl, k1⟩; have K1 := Lib.hid k1; clear k1)
       | (go_at_call 92; with_reducible refine (HW.out _ (by first | exact good_id (by assumption) | exact good_drew (by assumption))).mono ?_; rintro e w2 ⟨rfl, t2⟩; have T2 := Lib.hid t2; clear t2))
  all_goals
    go_wp2_with fail
    go_end0
    exact ⟨rfl, _, _, T2.out, HP.out⟩

set_option maxRecDepth 100000 in
theorem small_w (H b : Nat) (l : List UInt8) (bad : Bool) (n most : Int) (hn : Num64 n) (hm : 0 ≤ most) (w : World) (h : Wr H b l bad w) (hl : l.length ≤ 100000000) :
    Calls Try.prog 101 #[.pointer (some ⟨b, 0, none⟩), .int .i64 n, .int .i64 most] w fun e w' => PutsTo H b (cntI n) (decide (0 ≤ n ∧ n ≤ most)) 10 l bad w e w' := by
  have hmk := h.mark
  have fz := h.frozen 2
  by_cases hok : 0 ≤ n ∧ n ≤ most
  · obtain ⟨h0, h1⟩ := hok
    have hd : decide (0 ≤ n ∧ n ≤ most) = true := by simp [h0, h1]
    rw [hd]
    have hwr : IntKind.u64.wrap n = n := by have := hn.hi; simp only [IntKind.wrap_u64]; omega
    have hc : cntI n = enc n.toNat := by unfold cntI; congr 1; have := hn.hi; omega
    have hci : ∀ W, Calls Try.prog 121 #[.int .u64 (IntKind.u64.wrap n)] W fun e w' => e = .returned (.string (S (enc n.toNat))) ∧ Below W.heap.size W w' := fun W => by rw [hwr]; exact count_int n h0 (by have := hn.hi; omega) W
    have HN := Lib.hid (fun W (k : Good w W) => (hci W).mono (R' := fun e w1 => e = .returned (.string (S (enc n.toNat))) ∧ Good w w1) (fun e w1 g => ⟨g.1, k.step g.2⟩))
    have HW := Lib.hid (fun W (k : Good w W) => (WriteString_w H b l bad (enc n.toNat) (enc_ne _) W (h.below k) (by have := enc_len n.toNat; omega)).mono (R' := fun e w2 => e = .returned (.tuple #[.int .i64 ((enc n.toNat).length : Int), .nilIface]) ∧ WrTo H b (l ++ enc n.toNat) bad w w2) (fun e w2 g => ⟨g.1, (WrTo.of_below h k).trans g.2⟩))
    have HG := Lib.hid (Good.refl w)
    have HP := Lib.hid (Wrote.all (enc n.toNat) l bad 10 (enc_len _))
    rw [hc]
    clear h hn hd hc hwr hci
    go_enter Try.func101, Try.ntmps101
    go_wp2_with fail
    go_region_held3 (fun _ => True) (first | trivial | assumption)
      (first
        | (go_at_call 121; with_reducible refine (HN.out _ (by first | exact good_id (by assumption) | exact good_drew (by assumption))).mono ?_; rintro e w1 ⟨rfl, k1⟩; have K1 := Lib.hid k1; clear k1)
         | (go_at_call 92; with_reducible refine (HW.out _ (by first | exact good_id (by assumption) | exact good_drew (by assumption))).mono ?_; rintro e w2 ⟨rfl, t2⟩; have T2 := Lib.hid t2; clear t2))
    all_goals
      go_wp2_with fail
      go_end0
      exact ⟨rfl, _, _, T2.out, HP.out⟩
  · have hd : decide (0 ≤ n ∧ n ≤ most) = false := by simpa using hok
    rw [hd]
    have HF := Lib.hid (WrTo.set h true)
    have HP := Lib.hid (Wrote.no (cntI n) l bad 10)
    clear h hn hd
    by_cases hneg : n < 0
    · clear hok
      go_enter Try.func101, Try.ntmps101
      go_wp2_with fail
      go_end0
      exact ⟨rfl, _, _, HF.out, HP.out⟩
    · have hgt : most < n := by omega
      clear hok
      go_enter Try.func101, Try.ntmps101
      go_wp2_with fail
      go_end0
      exact ⟨rfl, _, _, HF.out, HP.out⟩

set_option maxRecDepth 100000 in
theorem count_w (H b : Nat) (l : List UInt8) (bad : Bool) (n : Int) (hn : Num64 n) (w : World) (h : Wr H b l bad w) (hl : l.length ≤ 100000000) :
    Calls Try.prog 99 #[.pointer (some ⟨b, 0, none⟩), .int .i64 n] w fun e w' => PutsTo H b (cntI n) (cntOk n) 10 l bad w e w' := by
  have HN := Lib.hid (small_w H b l bad n 1000 hn (by omega) w h hl)
  clear h hn
  go_enter Try.func99, Try.ntmps99
  go_wp2_with fail
  refine HN.out.mono ?_
  rintro e w1 ⟨rfl, h1⟩
  have H1 := Lib.hid h1
  clear h1
  go_wp2_with fail
  go_end0
  exact ⟨rfl, H1.out⟩

set_option maxRecDepth 100000 in
theorem name_w (H b : Nat) (l : List UInt8) (bad : Bool) (t : List UInt8) (w : World) (h : Wr H b l bad w) (hl : l.length ≤ 100000000) :
    Calls Try.prog 96 #[.pointer (some ⟨b, 0, none⟩), .string (S t)] w fun e w' => PutsTo H b (txtB t) (nameOk t) 34 l bad w e w' := by
  have hmk := h.mark
  have fz := h.frozen 2
  have hsz : (S t).size = t.length := S_size t
  by_cases hok : t.length ≤ 24
  · have hd : nameOk t = true := by simp [nameOk, hok]
    rw [hd]
    have hle : (S t).size ≤ 24 := by omega
    have HN := Lib.hid (fun W (k : Good w W) => (text_any (S t) (by omega) W).mono (R' := fun e w1 => e = .returned (.string (S (txtB t))) ∧ Good w w1) (fun e w1 g => ⟨by rw [g.1, hsz, S_toList]; rfl, k.step g.2⟩))
    have HW := Lib.hid (fun W (k : Good w W) => (WriteString_w H b l bad (txtB t) (by unfold txtB; intro e; exact enc_ne _ (List.append_eq_nil_iff.1 e).1) W (h.below k) (by have := txtB_len t; omega)).mono (R' := fun e w2 => e = .returned (.tuple #[.int .i64 ((txtB t).length : Int), .nilIface]) ∧ WrTo H b (l ++ txtB t) bad w w2) (fun e w2 g => ⟨g.1, (WrTo.of_below h k).trans g.2⟩))
    have HG := Lib.hid (Good.refl w)
    have HP := Lib.hid (Wrote.all (txtB t) l bad 34 (by have := txtB_len t; omega))
    clear h hd hsz
    generalize txtB t = x at *
    go_enter Try.func96, Try.ntmps96
    go_wp2_with fail
    go_region_held3 (fun _ => True) (first | trivial | assumption)
      (first
        | (go_at_call 94; with_reducible refine (HN.out _ (by first | exact good_id (by assumption) | exact good_drew (by assumption))).mono ?_; rintro e w1 ⟨rfl, k1⟩; have K1 := Lib.hid k1; clear k1)
         | (go_at_call 92; with_reducible refine (HW.out _ (by first | exact good_id (by assumption) | exact good_drew (by assumption))).mono ?_; rintro e w2 ⟨rfl, t2⟩; have T2 := Lib.hid t2; clear t2))
    all_goals
      go_wp2_with fail
      go_end0
      exact ⟨rfl, _, _, T2.out, HP.out⟩
  · have hd : nameOk t = false := by simpa [nameOk] using hok
    rw [hd]
    have hgt : 24 < (S t).size := by omega
    have HF := Lib.hid (WrTo.set h true)
    have HP := Lib.hid (Wrote.no (txtB t) l bad 34)
    clear h hd hsz hok
    go_enter Try.func96, Try.ntmps96
    go_wp2_with fail
    go_end0
    exact ⟨rfl, _, _, HF.out, HP.out⟩

end Go.Proofs.Ytkdhchdhgmaolaa.Cd
