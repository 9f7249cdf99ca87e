/-
  The program's BinarySearch, Right and Known.
-/
import Derived.Test.YtopaaokclfnhdaaSnMem
import Derived.Deep.RegionHeld3
import Derived.Deep.LoopGhost
namespace Go.Proofs.Ytopaaokclfnhdaa.Sn
open Go.RowKit
set_option linter.unusedVariables false
set_option linter.unusedSimpArgs false

theorem isNaNs_any (x : Int) (w : World) : Calls Try.prog 17 #[.int .i64 x] w fun e w' => e = .returned (.bool false) ∧ w = w' := by
  go_enter Try.func17, Try.ntmps17
  go_wp2_with fail
  go_ret
  exact ⟨by simp, rfl⟩
theorem isNaNc_any (x : Int) (w : World) : Calls Try.prog 19 #[.int .i64 x] w fun e w' => e = .returned (.bool false) ∧ w = w' := by
  go_enter Try.func19, Try.ntmps19
  go_wp2_with fail
  go_ret
  exact ⟨by simp, rfl⟩
theorem less_any (x y : Int) (w : World) : Calls Try.prog 16 #[.int .i64 x, .int .i64 y] w fun e w' => e = .returned (.bool (decide (x < y))) ∧ w = w' := by
  go_enter Try.func16, Try.ntmps16
  go_wp2_with (go_at_call 19; refine (isNaNc_any _ _).mono ?_; rintro e w' ⟨rfl, rfl⟩)
  go_ret
  exact ⟨rfl, rfl⟩
/-- What a search answers: the place, and whether the number is there, if the row rises. -/
def Cut (l : List Int) (x : Int) (i : Nat) (f : Bool) : Prop := i ≤ l.length ∧ (upB l = true → (∀ t, t < i → l.getD t 0 < x) ∧ (∀ t, i ≤ t → t < l.length → x ≤ l.getD t 0) ∧ f = l.contains x)
theorem cut_of {l : List Int} {x : Int} {lo : Nat} (h0 : lo ≤ l.length) (h : upB l = true → (∀ t, t < lo → l.getD t 0 < x) ∧ (∀ t, lo ≤ t → t < l.length → x ≤ l.getD t 0)) {f : Bool} (hf : f = (decide (lo < l.length) && decide (l.getD lo 0 = x))) : Cut l x lo f := by
  refine ⟨h0, fun hu => ⟨(h hu).1, (h hu).2, ?_⟩⟩
  obtain ⟨h1, h2⟩ := h hu
  rw [hf]
  cases hc : l.contains x with
  | true =>
    obtain ⟨i, hi, e⟩ := contains_at.1 hc
    have hi2 : ¬ i < lo := fun hl => by have := h1 i hl; omega
    have hlo : lo < l.length := by omega
    have h3 : l.getD lo 0 = x := by
      by_cases e2 : lo = i
      · rw [e2]; exact e
      · have := upB_at.1 hu lo i (by omega) hi
        have := h2 lo (Nat.le_refl _) hlo
        omega
    simp only [hlo, h3, decide_true, Bool.and_self]
  | false =>
    cases hlt : decide (lo < l.length) with
    | false => rfl
    | true =>
      cases he : decide (l.getD lo 0 = x) with
      | false => rfl
      | true =>
        have := getD_contains (l := l) (i := lo) (by simpa using hlt)
        rw [of_decide_eq_true he, hc] at this
        cases this

def BinS (l : List Int) (x : Int) (e : Ending) : Prop := ∃ (i : Nat) (f : Bool), e = .returned (.tuple #[.int .i64 (i : Int), .bool f]) ∧ Cut l x i f
set_option maxRecDepth 100000 in
set_option maxHeartbeats 4000000 in
theorem binS_any (l : List Int) (x : Int) (hl : l.length ≤ 281474976710656) (a : Option Addr) (cap : Nat) (w : World) (hx : NumsAt w a l) :
    Calls Try.prog 14 #[.slice a l.length cap, .int .i64 x] w fun e w' => BinS l x e ∧ w = w' := by
  have HX := Lib.hid hx
  clear hx
  go_enter Try.func14, Try.ntmps14
  go_wp2_with fail
  go_loopw [7, 8] (fun s7 s8 wr => ∃ lo hi : Nat, s7 = .int .i64 lo ∧ s8 = .int .i64 hi ∧ lo ≤ hi ∧ hi ≤ l.length ∧ wr = w ∧ Hid (upB l = true → (∀ t, t < lo → l.getD t 0 < x) ∧ (∀ t, hi ≤ t → t < l.length → x ≤ l.getD t 0))) (fun s7 s8 _ => (intOf s8).toNat - (intOf s7).toNat)
  case atStart => exact ⟨0, l.length, rfl, rfl, Nat.zero_le _, Nat.le_refl _, rfl, Lib.hid (fun _ => ⟨fun t h => absurd h (by omega), fun t h1 h2 => by omega⟩)⟩
  case round =>
    obtain ⟨lo, hi, rfl, rfl, hlh, hin, rfl, hs⟩ := hrel
    by_cases hlt : lo < hi
    · obtain ⟨b, off, rfl, hc, hb⟩ := HX.out ((lo + hi) / 2) (by omega)
      obtain ⟨y, hy⟩ : ∃ y, y = l.getD ((lo + hi) / 2) 0 := ⟨_, rfl⟩
      rw [← hy] at hc
      have HY := Lib.hid hy
      clear hy hb
      by_cases hyx : y < x
      · go_wp2_with (go_at_call 16; refine (less_any _ _ _).mono ?_; rintro e w' ⟨rfl, rfl⟩)
        go_roundw
        case rel => exact ⟨(lo + hi) / 2 + 1, hi, by go_num, rfl, by omega, hin, by trivial, Lib.hid (fun hu => ⟨fun t ht => by
          by_cases e : t = (lo + hi) / 2
          · rw [e, ← HY.out]; exact hyx
          · have := upB_at.1 hu t ((lo + hi) / 2) (by omega) (by omega)
            rw [← HY.out] at this
            omega, (hs.out hu).2⟩)⟩
        case measure => simp [intOf]; omega
      · go_wp2_with (go_at_call 16; refine (less_any _ _ _).mono ?_; rintro e w' ⟨rfl, rfl⟩)
        go_roundw
        case rel => exact ⟨lo, (lo + hi) / 2, rfl, by go_num, by omega, by omega, by trivial, Lib.hid (fun hu => ⟨(hs.out hu).1, fun t h1 h2 => by
          by_cases e : t = (lo + hi) / 2
          · rw [e, ← HY.out]; omega
          · have := upB_at.1 hu ((lo + hi) / 2) t (by omega) h2
            rw [← HY.out] at this
            omega⟩)⟩
        case measure => simp [intOf]; omega
    · obtain rfl : lo = hi := by omega
      have hnl : ¬ (lo : Int) < (lo : Int) := by omega
      by_cases hln : lo < l.length
      · have hlni : (lo : Int) < (l.length : Int) := by omega
        obtain ⟨b, off, rfl, hc, hb⟩ := HX.out lo hln
        obtain ⟨y, hy⟩ : ∃ y, y = l.getD lo 0 := ⟨_, rfl⟩
        rw [← hy] at hc
        by_cases hyx : y = x
        · have HF := Lib.hid (cut_of hin hs.out (f := true) (by rw [← hy, hyx]; simp [hln]))
          clear hs hy
          go_wp2_with (go_at_call 17; refine (isNaNs_any _ _).mono ?_; rintro e w' ⟨rfl, rfl⟩)
          go_ret2
          exact ⟨⟨lo, true, by simp [hyx], HF.out⟩, rfl⟩
        · have HF := Lib.hid (cut_of hin hs.out (f := false) (by rw [← hy]; simp [hyx]))
          clear hs hy
          go_wp2_with (go_at_call 17; refine (isNaNs_any _ _).mono ?_; rintro e w' ⟨rfl, rfl⟩)
          go_ret2
          exact ⟨⟨lo, false, by simp [hyx], HF.out⟩, rfl⟩
      · have hlni : ¬ (lo : Int) < (l.length : Int) := by omega
        have HF := Lib.hid (cut_of hin hs.out (f := false) (by simp [hln]))
        clear hs
        go_wp2_with (go_at_call 17; refine (isNaNs_any _ _).mono ?_; rintro e w' ⟨rfl, rfl⟩)
        go_ret2
        exact ⟨⟨lo, false, by simp, HF.out⟩, rfl⟩

set_option maxRecDepth 100000 in
set_option maxHeartbeats 4000000 in
theorem right_any (l : List Int) (hl : l.length ≤ 281474976710656) (a : Option Addr) (cap : Nat) (w : World) (hx : NumsAt w a l) :
    Calls Try.prog 12 #[.slice a l.length cap] w fun e w' => e = .returned (.bool (upB l)) ∧ w = w' := by
  have HX := Lib.hid hx
  clear hx
  go_enter Try.func12, Try.ntmps12
  go_wp2_with fail
  go_loopw [7] (fun iv wr => ∃ k : Nat, k ≤ l.length ∧ iv = .int .i64 k ∧ wr = w ∧ Hid (∀ i, i + 1 < k → l.getD i 0 < l.getD (i + 1) 0)) (fun iv _ => l.length - (intOf iv).toNat)
  case atStart => exact ⟨0, by omega, rfl, rfl, Lib.hid (fun i h => absurd h (by omega))⟩
  case round =>
    obtain ⟨k, hk, rfl, rfl, hs⟩ := hrel
    by_cases hlt : k < l.length
    · have hki : (k : Int) < (l.length : Int) := by omega
      obtain ⟨b, off, rfl, hc, hb⟩ := HX.out k hlt
      by_cases h0 : k = 0
      · subst h0
        rw [Nat.add_zero] at hc
        go_wp2_with fail
        go_roundw
        case rel => exact ⟨1, by omega, by go_num, by trivial, Lib.hid (fun i h => absurd h (by omega))⟩
        case measure => simp [intOf]; omega
      · have hk0 : (k : Int) > 0 := by omega
        obtain ⟨b', off', e', hc', _⟩ := HX.out (k - 1) (by omega)
        injection e' with e'
        injection e' with e1 e2 _
        subst e1 e2
        have hw : (k : Int) - 1 = ((k - 1 : Nat) : Int) := by omega
        obtain ⟨y, hy⟩ : ∃ y, y = l.getD k 0 := ⟨_, rfl⟩
        obtain ⟨z, hz⟩ : ∃ z, z = l.getD (k - 1) 0 := ⟨_, rfl⟩
        rw [← hy] at hc
        rw [← hz] at hc'
        by_cases hge : z ≥ y
        · have HF := Lib.hid (upB_not (l := l) (i := k - 1) (j := k) (by omega) hlt (by omega))
          clear hs hy hz
          go_wp2_with fail
          go_ret
          exact ⟨by rw [HF.out]; rfl, rfl⟩
        · have HZ := Lib.hid (show l.getD (k - 1) 0 < l.getD k 0 by omega)
          clear hy hz
          go_wp2_with fail
          go_roundw
          case rel => exact ⟨k + 1, by omega, by go_num, by trivial, Lib.hid (fun i h => by
            by_cases e : i + 1 = k
            · have := HZ.out
              rw [show k - 1 = i by omega] at this
              rw [e]; exact this
            · exact hs.out i (by omega))⟩
          case measure => simp [intOf]; omega
    · have hki : ¬ (k : Int) < (l.length : Int) := by omega
      have HF := Lib.hid (upB_adj (l := l) (fun i hi => hs.out i (by omega)))
      clear hs
      go_wp2_with fail
      go_ret
      exact ⟨by rw [HF.out]; rfl, rfl⟩

set_option maxRecDepth 100000 in
theorem known_any (l : List Int) (x : Int) (hl : l.length ≤ 281474976710656) (a : Option Addr) (cap : Nat) (w : World) (hx : NumsAt w a l) :
    Calls Try.prog 10 #[.slice a l.length cap, .int .i64 x] w fun e w' => e = .returned (.bool (knownB l x)) ∧ w = w' := by
  have HB := Lib.hid (binS_any l x hl a cap w hx)
  have HR := Lib.hid (right_any l hl a cap w hx)
  clear hx
  go_enter Try.func10, Try.ntmps10
  go_wp2_with fail
  refine HB.out.mono ?_
  rintro e w1 ⟨⟨i, f, rfl, hcut⟩, rfl⟩
  have HC := Lib.hid hcut
  clear hcut
  cases f with
  | false =>
    go_wp2_with fail
    go_ret
    refine ⟨?_, rfl⟩
    congr 2
    unfold knownB
    cases h : upB l with
    | false => simp
    | true => rw [← (HC.out.2 h).2.2]; rfl
  | true =>
    go_wp2_with fail
    refine HR.out.mono ?_
    rintro e w2 ⟨rfl, rfl⟩
    go_wp2_with fail
    go_ret
    refine ⟨?_, rfl⟩
    unfold knownB
    cases h : upB l with
    | false => simp
    | true => rw [← (HC.out.2 h).2.2]; rfl

end Go.Proofs.Ytopaaokclfnhdaa.Sn
