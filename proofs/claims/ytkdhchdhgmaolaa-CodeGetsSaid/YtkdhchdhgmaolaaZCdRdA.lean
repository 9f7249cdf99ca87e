/-
  Reading: pack's Byte and Small; code's reader in memory.
-/
import Derived.Test.YtkdhchdhgmaolaaZPkReader
import Derived.Test.YtkdhchdhgmaolaaZTzC
namespace Go.Proofs.Ytkdhchdhgmaolaa.Cd
open Go.RowKit
open Pk Va
set_option linter.unusedVariables false
set_option linter.unusedSimpArgs false

theorem decB_size (l : List UInt8) : (decB l).2.1 ≤ l.length := by
  unfold decB
  cases l with
  | nil => simp
  | cons b l => simp
theorem decS_size (l : List UInt8) (most : Int) : (decS l most).2.1 ≤ l.length := by
  have h := (decC_size l).1
  unfold decS
  split
  · simp
  · split
    · simp
    · exact h

set_option maxRecDepth 100000 in
theorem smallFn_any (s : ByteArray) (hs : s.size ≤ 2000000) (most : Int) (hm0 : -9223372036854775808 ≤ most) (hm1 : most < 9223372036854775808) (x : Nat) (w : World) (hx : w.cell? ⟨x, 0, none⟩ = some (.int .i64 most)) :
    Calls Try.prog 115 #[.string s, .pointer (some ⟨x, 0, none⟩)] w fun e w' =>
      e = .returned (.tuple #[.int .i64 ((decS s.data.toList most).1 : Nat), .int .i64 ((decS s.data.toList most).2.1 : Nat), .int .i64 ((decS s.data.toList most).2.2 : Nat)]) ∧ w = w' := by
  have HD := decodeSmall_any s (by unfold maxLen; omega) most hm0 hm1 w
  have HD := Lib.hid HD
  clear hm0 hm1 hs
  go_enter Try.func115, Try.ntmps115
  go_wp2_with fail
  refine HD.out.mono ?_
  rintro e w1 ⟨rfl, rfl⟩
  clear hx
  go_wp2_with fail
  go_ret3
  exact ⟨rfl, rfl⟩

set_option maxRecDepth 100000 in
theorem readByte_any (b : Nat) (l : List UInt8) (hl : l.length ≤ 2000000) (bad : Nat)  (w : World) (h : RdAt w b l bad) :
    Calls Try.prog 103 #[.pointer (some ⟨b, 0, none⟩), .func (Fn.func 104) #[] #[]] w fun e w' =>
      e = .returned (.int .i64 ((rdG 0 (decB l) l bad).1 : Nat)) ∧ RdAt w' b (rdG 0 (decB l) l bad).2.1 (rdG 0 (decB l) l bad).2.2 ∧ Only b w w' := by
  have hB := bad_any b l bad w h
  have HB := Lib.hid hB
  have h0 := h.c0
  have h1 := h.c1
  have f0 := h.f0 0
  have f1 := h.f0 1
  have HD := decodeByte_any (S l) w
  rw [S_toList] at HD
  have hsz := decB_size l
  unfold rdG
  obtain ⟨r, hr⟩ : ∃ r, decB l = r := ⟨_, rfl⟩
  rw [hr] at HD hsz ⊢
  obtain ⟨v, size, err⟩ := r
  simp only at HD hsz ⊢
  have H := Lib.hid h
  have HD := Lib.hid HD
  clear h hB hr
  by_cases hb : bad = 0
  · subst hb
    rw [if_neg (by omega)]
    by_cases he : err = 0
    · subst he
      rw [if_neg (by omega)]
      have hs2 : size ≤ (S l).size := by rw [S_size]; exact hsz
      have hr2 := S_rest l size
      have HR2 := Lib.hid hr2
      clear hr2
      go_enter Try.func103, Try.ntmps103
      go_wp2_with fail
      refine HB.out.mono ?_
      rintro e w' ⟨rfl, rfl⟩
      go_wp2_with fail
      refine HD.out.mono ?_
      rintro e w' ⟨rfl, rfl⟩
      go_wp2_with fail
      go_ret
      exact ⟨rfl, H.out.set0 (l.drop size) _ HR2.out, Only.set _ _ _ _⟩
    · rw [if_pos he]
      have h3 := (err_ne err he).1
      clear he
      go_enter Try.func103, Try.ntmps103
      go_wp2_with fail
      refine HB.out.mono ?_
      rintro e w' ⟨rfl, rfl⟩
      go_wp2_with fail
      refine HD.out.mono ?_
      rintro e w' ⟨rfl, rfl⟩
      go_wp2_with fail
      go_ret
      exact ⟨rfl, H.out.set1 err, Only.set _ _ _ _⟩
  · rw [if_pos hb]
    have h3 := (err_ne bad hb).1
    clear hb
    go_enter Try.func103, Try.ntmps103
    go_wp2_with fail
    refine HB.out.mono ?_
    rintro e w' ⟨rfl, rfl⟩
    go_wp2_with fail
    go_ret
    exact ⟨rfl, H.out, Only.refl _ _⟩

set_option maxRecDepth 100000 in
theorem readSmall_any (b : Nat) (l : List UInt8) (hl : l.length ≤ 2000000) (bad : Nat) (most : Int) (hm0 : -9223372036854775808 ≤ most) (hm1 : most < 9223372036854775808) (x : Nat) (w : World) (hx : w.cell? ⟨x, 0, none⟩ = some (.int .i64 most)) (h : RdAt w b l bad) :
    Calls Try.prog 103 #[.pointer (some ⟨b, 0, none⟩), .func (Fn.func 115) #[] #[.pointer (some ⟨x, 0, none⟩)]] w fun e w' =>
      e = .returned (.int .i64 ((rdG 0 (decS l most) l bad).1 : Nat)) ∧ RdAt w' b (rdG 0 (decS l most) l bad).2.1 (rdG 0 (decS l most) l bad).2.2 ∧ Only b w w' := by
  have hB := bad_any b l bad w h
  have HB := Lib.hid hB
  have h0 := h.c0
  have h1 := h.c1
  have f0 := h.f0 0
  have f1 := h.f0 1
  have HD := smallFn_any (S l) (by rw [S_size]; omega) most hm0 hm1 x w hx
  rw [S_toList] at HD
  have hsz := decS_size l most
  unfold rdG
  obtain ⟨r, hr⟩ : ∃ r, decS l most = r := ⟨_, rfl⟩
  rw [hr] at HD hsz ⊢
  obtain ⟨v, size, err⟩ := r
  simp only at HD hsz ⊢
  have H := Lib.hid h
  have HD := Lib.hid HD
  clear h hB hr hx hm0 hm1
  by_cases hb : bad = 0
  · subst hb
    rw [if_neg (by omega)]
    by_cases he : err = 0
    · subst he
      rw [if_neg (by omega)]
      have hs2 : size ≤ (S l).size := by rw [S_size]; exact hsz
      have hr2 := S_rest l size
      have HR2 := Lib.hid hr2
      clear hr2
      go_enter Try.func103, Try.ntmps103
      go_wp2_with fail
      refine HB.out.mono ?_
      rintro e w' ⟨rfl, rfl⟩
      go_wp2_with fail
      refine HD.out.mono ?_
      rintro e w' ⟨rfl, rfl⟩
      go_wp2_with fail
      go_ret
      exact ⟨rfl, H.out.set0 (l.drop size) _ HR2.out, Only.set _ _ _ _⟩
    · rw [if_pos he]
      have h3 := (err_ne err he).1
      clear he
      go_enter Try.func103, Try.ntmps103
      go_wp2_with fail
      refine HB.out.mono ?_
      rintro e w' ⟨rfl, rfl⟩
      go_wp2_with fail
      refine HD.out.mono ?_
      rintro e w' ⟨rfl, rfl⟩
      go_wp2_with fail
      go_ret
      exact ⟨rfl, H.out.set1 err, Only.set _ _ _ _⟩
  · rw [if_pos hb]
    have h3 := (err_ne bad hb).1
    clear hb
    go_enter Try.func103, Try.ntmps103
    go_wp2_with fail
    refine HB.out.mono ?_
    rintro e w' ⟨rfl, rfl⟩
    go_wp2_with fail
    go_ret
    exact ⟨rfl, H.out, Only.refl _ _⟩

theorem rByte_any (b : Nat) (l : List UInt8) (hl : l.length ≤ 2000000) (bad : Nat) (w : World) (h : RdAt w b l bad) :
    Calls Try.prog 69 #[.pointer (some ⟨b, 0, none⟩)] w fun e w' =>
      e = .returned (.int .i64 ((rdG 0 (decB l) l bad).1 : Nat)) ∧ RdAt w' b (rdG 0 (decB l) l bad).2.1 (rdG 0 (decB l) l bad).2.2 ∧ Only b w w' := by
  have HD := readByte_any b l hl bad w h
  generalize rdG 0 (decB l) l bad = r at *
  have HD := Lib.hid HD
  clear h hl
  go_enter Try.func69, Try.ntmps69
  go_wp2_with fail
  refine HD.out.mono ?_
  rintro e w1 ⟨rfl, r1, o1⟩
  have R1 := Lib.hid r1
  have O1 := Lib.hid o1
  clear r1 o1
  go_wp2_with fail
  go_ret
  exact ⟨rfl, R1.out, O1.out⟩
theorem rSmall_any (b : Nat) (l : List UInt8) (hl : l.length ≤ 2000000) (bad : Nat) (most : Int) (hm0 : -9223372036854775808 ≤ most) (hm1 : most < 9223372036854775808) (w : World) (h : RdAt w b l bad) :
    Calls Try.prog 85 #[.pointer (some ⟨b, 0, none⟩), .int .i64 most] w fun e w' =>
      e = .returned (.int .i64 ((rdG 0 (decS l most) l bad).1 : Nat)) ∧ RdAt w' b (rdG 0 (decS l most) l bad).2.1 (rdG 0 (decS l most) l bad).2.2 ∧ Only b w w' := by
  have hb0 : Below w.heap.size w (w.alloc (.cells #[.int .i64 most] 3)) := (Below.refl _ _).alloc (Nat.le_refl _) _
  have HD := readSmall_any b l hl bad most hm0 hm1 w.heap.size (w.alloc (.cells #[.int .i64 most] 3)) (by simp) (h.below hb0)
  generalize rdG 0 (decS l most) l bad = r at *
  have HD := Lib.hid HD
  have HB0 := Lib.hid hb0
  clear h hl hb0 hm0 hm1
  go_enter Try.func85, Try.ntmps85
  go_wp2_with fail
  refine HD.out.mono ?_
  rintro e w1 ⟨rfl, r1, o1⟩
  have R1 := Lib.hid r1
  have O1 := Lib.hid o1
  clear r1 o1
  go_wp2_with fail
  go_ret
  exact ⟨rfl, R1.out, (Only.of_below HB0.out).trans O1.out⟩

end Go.Proofs.Ytkdhchdhgmaolaa.Cd
