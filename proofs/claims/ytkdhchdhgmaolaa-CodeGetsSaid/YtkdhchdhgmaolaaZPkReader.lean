/-
  The walks over the methods of pack's reader, each by its contract: what is answered, and what is left in memory.
-/
import Derived.Test.YtkdhchdhgmaolaaZPkRead
namespace Go.Proofs.Ytkdhchdhgmaolaa.Pk
open Go.RowKit

theorem RdAt.c0 {w : World} {b : Nat} {l : List UInt8} {bad : Nat} (h : RdAt w b l bad) : w.cell? ⟨b, 0, none⟩ = some (.string (S l)) :=
  cell_of_row w b 0 _ _ (0, 0) h
theorem RdAt.c1 {w : World} {b : Nat} {l : List UInt8} {bad : Nat} (h : RdAt w b l bad) : w.cell? ⟨b, 1, none⟩ = some (.int .i64 (bad : Int)) :=
  cell_of_row w b 1 _ _ (0, 0) h
theorem RdAt.f0 {w : World} {b : Nat} {l : List UInt8} {bad : Nat} (h : RdAt w b l bad) (j : Nat) : w.frozen? ⟨b, j, none⟩ = false :=
  frozen_of_row w b j _ _ h
theorem RdAt.lt {w : World} {b : Nat} {l : List UInt8} {bad : Nat} (h : RdAt w b l bad) : b < w.heap.size := World.block_lt_of_cell? w _ h.c0

theorem RdAt.set0 {w : World} {b : Nat} {l : List UInt8} {bad : Nat} (h : RdAt w b l bad) (l' : List UInt8) (s : ByteArray) (hs : s = S l') : RdAt (w.setCell ⟨b, 0, none⟩ (.string s)) b l' bad := by
  subst hs
  exact heap_setCell_same w b 0 _ _ _ h
theorem RdAt.set1 {w : World} {b : Nat} {l : List UInt8} {bad : Nat} (h : RdAt w b l bad) (bad' : Nat) : RdAt (w.setCell ⟨b, 1, none⟩ (.int .i64 (bad' : Int))) b l bad' :=
  heap_setCell_same w b 1 _ _ _ h
/-- One row alone was written, and blocks may be new. -/
def Only (b : Nat) (w w' : World) : Prop := w.grownBy w' (some b)
theorem Only.refl (b : Nat) (w : World) : Only b w w := ⟨rfl, rfl, rfl, Nat.le_refl _, fun _ _ _ => rfl⟩
theorem Only.of_below {b : Nat} {w w' : World} (h : Below w.heap.size w w') : Only b w w' := ⟨h.os, h.tape, h.output, h.size, fun k hk _ => h.block k hk⟩
theorem Only.trans {b : Nat} {x y z : World} (h : Only b x y) (k : Only b y z) : Only b x z :=
  ⟨k.os.trans h.os, k.tape.trans h.tape, k.output.trans h.output, Nat.le_trans h.size k.size, fun i hi hn => (k.block i (Nat.lt_of_lt_of_le hi h.size) hn).trans (h.block i hi hn)⟩
theorem Only.set (b : Nat) (w : World) (j : Nat) (v : Value) : Only b w (w.setCell ⟨b, j, none⟩ v) :=
  ⟨rfl, rfl, rfl, by simp, fun k _ hk => heap_setCell_other w ⟨b, j, none⟩ k v (fun e => hk (by simp [e]))⟩
theorem RdAt.below {w w' : World} {b : Nat} {l : List UInt8} {bad : Nat} (h : RdAt w b l bad) (k : Below w.heap.size w w') : RdAt w' b l bad :=
  (k.block b h.lt).trans h
theorem RdAt.only {w w' : World} {b c : Nat} {l : List UInt8} {bad : Nat} (h : RdAt w b l bad) (k : Only c w w') (hne : b ≠ c) : RdAt w' b l bad :=
  (k.block b h.lt (by simpa using hne)).trans h
theorem Only.below {B b : Nat} {x w w' : World} (h : Below B x w) (k : Only b w w') (hB : B ≤ w.heap.size) (hb : B ≤ b) : Below B x w' :=
  h.grown k hB (fun i hi => by simp at hi; omega)

theorem new_any (s : ByteArray) (w : World) :
    Calls Try.prog 67 #[.string s] w fun e w' => e = .returned (.pointer (some ⟨w.heap.size, 0, none⟩)) ∧ RdAt w' w.heap.size s.data.toList 0 ∧ Below w.heap.size w w' ∧ w'.heap.size = w.heap.size + 1 := by
  have hs := S_list s
  have HS := Lib.hid hs
  clear hs
  go_enter Try.func67, Try.ntmps67
  go_wp2_with fail
  go_ret
  refine ⟨rfl, ?_, (Below.refl _ _).alloc (Nat.le_refl _) _, by simp⟩
  unfold RdAt
  rw [HS.out]
  exact heap_alloc_new w _

theorem bad_any (b : Nat) (l : List UInt8) (bad : Nat) (w : World) (h : RdAt w b l bad) :
    Calls Try.prog 102 #[.pointer (some ⟨b, 0, none⟩)] w fun e w' => e = .returned (.int .i64 (bad : Int)) ∧ w = w' := by
  have h1 := h.c1
  have H := Lib.hid h
  clear h
  go_enter Try.func102, Try.ntmps102
  go_wp2_with fail
  go_ret
  exact ⟨rfl, rfl⟩

theorem bad_nil (w : World) :
    Calls Try.prog 102 #[.pointer none] w fun e w' => e = .returned (.int .i64 1) ∧ w = w' := by
  go_enter Try.func102, Try.ntmps102
  go_wp2_with fail
  go_ret
  exact ⟨rfl, rfl⟩

/-- What End answers. -/
def endV (l : List UInt8) (bad : Nat) : Nat := if bad ≠ 0 then bad else if l.length = 0 then 0 else 4

set_option maxRecDepth 100000 in
theorem end_any (b : Nat) (l : List UInt8) (bad : Nat) (w : World) (h : RdAt w b l bad) :
    Calls Try.prog 68 #[.pointer (some ⟨b, 0, none⟩)] w fun e w' => e = .returned (.int .i64 (endV l bad : Nat)) ∧ w = w' := by
  have hB := bad_any b l bad w h
  have h0 := h.c0
  have hl := S_size l
  have H := Lib.hid h
  have HB := Lib.hid hB
  clear h hB
  unfold endV
  by_cases hb : bad = 0
  · subst hb
    rw [if_neg (by omega)]
    by_cases hz : l.length = 0
    · rw [if_pos hz]
      have hz2 : (S l).size = 0 := by omega
      clear hl hz
      go_enter Try.func68, Try.ntmps68
      go_wp2_with fail
      refine HB.out.mono ?_
      rintro e w' ⟨rfl, rfl⟩
      go_wp2_with fail
      go_ret
      exact ⟨rfl, rfl⟩
    · rw [if_neg hz]
      have hz2 : 0 < (S l).size := by omega
      clear hl hz
      go_enter Try.func68, Try.ntmps68
      go_wp2_with fail
      refine HB.out.mono ?_
      rintro e w' ⟨rfl, rfl⟩
      go_wp2_with fail
      go_ret
      exact ⟨rfl, rfl⟩
  · rw [if_pos hb]
    have h1 := (err_ne bad hb).1
    clear hl hb
    go_enter Try.func68, Try.ntmps68
    go_wp2_with fail
    refine HB.out.mono ?_
    rintro e w' ⟨rfl, rfl⟩
    go_wp2_with fail
    go_ret
    exact ⟨rfl, rfl⟩

theorem S_rest (l : List UInt8) (k : Nat) : (S l).extract k (S l).size = S (l.drop k) := by
  rw [S_extract, S_toList, S_size]
  congr 1
  apply List.take_of_length_le
  simp

theorem decN_size (l : List UInt8) : (decN l).2.1 ≤ l.length := (decC_size l).1
theorem decT_size (l : List UInt8) : (decT l).2.1 ≤ l.length := by
  unfold decT decB
  cases l with
  | nil => simp
  | cons b l => simp only; split <;> simp
theorem decX_size (l : List UInt8) (most : Int) : (decX l most).2.1 ≤ l.length := by
  have h := (decC_size l).1
  have hs : (decS l most).2.1 ≤ l.length := by
    unfold decS
    split
    · simp
    · split
      · simp
      · exact h
  unfold decX
  split
  · simp
  · split
    · simp
    · simp only; omega

set_option maxRecDepth 100000 in
theorem readNumber_any (b : Nat) (l : List UInt8) (hl : l.length ≤ 2000000) (bad : Nat) (w : World) (h : RdAt w b l bad) :
    Calls Try.prog 105 #[.pointer (some ⟨b, 0, none⟩), .func (Fn.func 106) #[] #[]] w fun e w' =>
      e = .returned (.int .i64 (rdG 0 (decN l) l bad).1) ∧ RdAt w' b (rdG 0 (decN l) l bad).2.1 (rdG 0 (decN l) l bad).2.2 ∧ Only b w w' := by
  have hB := bad_any b l bad w h
  have HB := Lib.hid hB
  have h0 := h.c0
  have h1 := h.c1
  have f0 := h.f0 0
  have f1 := h.f0 1
  have HD := decodeNumber_any (S l) (by rw [S_size]; unfold maxLen; omega) w
  rw [S_toList] at HD
  have hsz := decN_size l
  unfold rdG
  obtain ⟨r, hr⟩ : ∃ r, decN l = r := ⟨_, rfl⟩
  rw [hr] at HD hsz ⊢
  obtain ⟨v, size, err⟩ := r
  simp only at HD hsz ⊢
  have H := Lib.hid h
  have HD := Lib.hid HD
  clear h hB hr
  by_cases hb : bad = 0
  · subst hb
    rw [if_neg (by omega)]
    by_cases he : err = 0
    · subst he
      rw [if_neg (by omega)]
      have hs2 : size ≤ (S l).size := by rw [S_size]; exact hsz
      have hr2 := S_rest l size
      have HR2 := Lib.hid hr2
      clear hr2
      go_enter Try.func105, Try.ntmps105
      go_wp2_with fail
      refine HB.out.mono ?_
      rintro e w' ⟨rfl, rfl⟩
      go_wp2_with fail
      refine HD.out.mono ?_
      rintro e w' ⟨rfl, rfl⟩
      go_wp2_with fail
      go_ret
      exact ⟨rfl, H.out.set0 (l.drop size) _ HR2.out, Only.set _ _ _ _⟩
    · rw [if_pos he]
      have h3 := (err_ne err he).1
      clear he
      go_enter Try.func105, Try.ntmps105
      go_wp2_with fail
      refine HB.out.mono ?_
      rintro e w' ⟨rfl, rfl⟩
      go_wp2_with fail
      refine HD.out.mono ?_
      rintro e w' ⟨rfl, rfl⟩
      go_wp2_with fail
      go_ret
      exact ⟨rfl, H.out.set1 err, Only.set _ _ _ _⟩
  · rw [if_pos hb]
    have h3 := (err_ne bad hb).1
    clear hb
    go_enter Try.func105, Try.ntmps105
    go_wp2_with fail
    refine HB.out.mono ?_
    rintro e w' ⟨rfl, rfl⟩
    go_wp2_with fail
    go_ret
    exact ⟨rfl, H.out, Only.refl _ _⟩

set_option maxRecDepth 100000 in
theorem readTruth_any (b : Nat) (l : List UInt8) (_hl : l.length ≤ 2000000) (bad : Nat) (w : World) (h : RdAt w b l bad) :
    Calls Try.prog 107 #[.pointer (some ⟨b, 0, none⟩), .func (Fn.func 108) #[] #[]] w fun e w' =>
      e = .returned (.bool (rdG false (decT l) l bad).1) ∧ RdAt w' b (rdG false (decT l) l bad).2.1 (rdG false (decT l) l bad).2.2 ∧ Only b w w' := by
  have hB := bad_any b l bad w h
  have HB := Lib.hid hB
  have h0 := h.c0
  have h1 := h.c1
  have f0 := h.f0 0
  have f1 := h.f0 1
  have HD := decodeTruth_any (S l) w
  rw [S_toList] at HD
  have hsz := decT_size l
  unfold rdG
  obtain ⟨r, hr⟩ : ∃ r, decT l = r := ⟨_, rfl⟩
  rw [hr] at HD hsz ⊢
  obtain ⟨v, size, err⟩ := r
  simp only at HD hsz ⊢
  have H := Lib.hid h
  have HD := Lib.hid HD
  clear h hB hr
  by_cases hb : bad = 0
  · subst hb
    rw [if_neg (by omega)]
    by_cases he : err = 0
    · subst he
      rw [if_neg (by omega)]
      have hs2 : size ≤ (S l).size := by rw [S_size]; exact hsz
      have hr2 := S_rest l size
      have HR2 := Lib.hid hr2
      clear hr2
      go_enter Try.func107, Try.ntmps107
      go_wp2_with fail
      refine HB.out.mono ?_
      rintro e w' ⟨rfl, rfl⟩
      go_wp2_with fail
      refine HD.out.mono ?_
      rintro e w' ⟨rfl, rfl⟩
      go_wp2_with fail
      go_ret
      exact ⟨rfl, H.out.set0 (l.drop size) _ HR2.out, Only.set _ _ _ _⟩
    · rw [if_pos he]
      have h3 := (err_ne err he).1
      clear he
      go_enter Try.func107, Try.ntmps107
      go_wp2_with fail
      refine HB.out.mono ?_
      rintro e w' ⟨rfl, rfl⟩
      go_wp2_with fail
      refine HD.out.mono ?_
      rintro e w' ⟨rfl, rfl⟩
      go_wp2_with fail
      go_ret
      exact ⟨rfl, H.out.set1 err, Only.set _ _ _ _⟩
  · rw [if_pos hb]
    have h3 := (err_ne bad hb).1
    clear hb
    go_enter Try.func107, Try.ntmps107
    go_wp2_with fail
    refine HB.out.mono ?_
    rintro e w' ⟨rfl, rfl⟩
    go_wp2_with fail
    go_ret
    exact ⟨rfl, H.out, Only.refl _ _⟩

set_option maxRecDepth 100000 in
theorem textFn_any (s : ByteArray) (hs : s.size ≤ 2000000) (most : Int) (hm0 : -9223372036854775808 ≤ most) (hm1 : most < 9223372036854775808) (x : Nat) (w : World) (hx : w.cell? ⟨x, 0, none⟩ = some (.int .i64 most)) :
    Calls Try.prog 110 #[.string s, .pointer (some ⟨x, 0, none⟩)] w fun e w' =>
      e = .returned (.tuple #[.string (S (decX s.data.toList most).1), .int .i64 ((decX s.data.toList most).2.1 : Nat), .int .i64 ((decX s.data.toList most).2.2 : Nat)]) ∧ Below w.heap.size w w' := by
  have HD := decodeText_any s hs most hm0 hm1 w
  have HD := Lib.hid HD
  clear hm0 hm1 hs
  go_enter Try.func110, Try.ntmps110
  go_wp2_with fail
  refine HD.out.mono ?_
  rintro e w1 ⟨rfl, b1⟩
  have B1 := Lib.hid b1
  clear b1 hx
  go_wp2_with fail
  go_ret3
  exact ⟨rfl, B1.out⟩

set_option maxRecDepth 100000 in
theorem readText_any (b : Nat) (l : List UInt8) (hl : l.length ≤ 2000000) (bad : Nat) (most : Int) (hm0 : -9223372036854775808 ≤ most) (hm1 : most < 9223372036854775808) (x : Nat) (w : World)
    (hx : w.cell? ⟨x, 0, none⟩ = some (.int .i64 most)) (h : RdAt w b l bad) :
    Calls Try.prog 109 #[.pointer (some ⟨b, 0, none⟩), .func (Fn.func 110) #[] #[.pointer (some ⟨x, 0, none⟩)]] w fun e w' =>
      e = .returned (.string (S (rdG [] (decX l most) l bad).1)) ∧ RdAt w' b (rdG [] (decX l most) l bad).2.1 (rdG [] (decX l most) l bad).2.2 ∧ Only b w w' := by
  have hB := bad_any b l bad w h
  have HB := Lib.hid hB
  have h0 := h.c0
  have h1 := h.c1
  have f0 := h.f0 0
  have f1 := h.f0 1
  have HD := textFn_any (S l) (by rw [S_size]; omega) most hm0 hm1 x w hx
  rw [S_toList] at HD
  have hsz := decX_size l most
  unfold rdG
  obtain ⟨r, hr⟩ : ∃ r, decX l most = r := ⟨_, rfl⟩
  rw [hr] at HD hsz ⊢
  obtain ⟨v, size, err⟩ := r
  simp only at HD hsz ⊢
  have H := Lib.hid h
  have HD := Lib.hid HD
  clear h hB hr hx hm0 hm1
  by_cases hb : bad = 0
  · subst hb
    rw [if_neg (by omega)]
    by_cases he : err = 0
    · subst he
      rw [if_neg (by omega)]
      have hs2 : size ≤ (S l).size := by rw [S_size]; exact hsz
      have hr2 := S_rest l size
      have HR2 := Lib.hid hr2
      clear hr2
      go_enter Try.func109, Try.ntmps109
      go_wp2_with fail
      refine HB.out.mono ?_
      rintro e w' ⟨rfl, rfl⟩
      go_wp2_with fail
      refine HD.out.mono ?_
      rintro e w1 ⟨rfl, b1⟩
      have r1 := H.out.below b1
      have k0 := r1.c0
      have k1 := r1.c1
      have g0 := r1.f0 0
      have R1 := Lib.hid r1
      have B1 := Lib.hid b1
      clear b1 r1 h0 h1 f0 f1
      go_wp2_with fail
      go_ret
      exact ⟨rfl, R1.out.set0 (l.drop size) _ HR2.out, (Only.of_below B1.out).trans (Only.set _ _ _ _)⟩
    · rw [if_pos he]
      have h3 := (err_ne err he).1
      clear he
      go_enter Try.func109, Try.ntmps109
      go_wp2_with fail
      refine HB.out.mono ?_
      rintro e w' ⟨rfl, rfl⟩
      go_wp2_with fail
      refine HD.out.mono ?_
      rintro e w1 ⟨rfl, b1⟩
      have r1 := H.out.below b1
      have k0 := r1.c0
      have k1 := r1.c1
      have g1 := r1.f0 1
      have R1 := Lib.hid r1
      have B1 := Lib.hid b1
      clear b1 r1 h0 h1 f0 f1
      go_wp2_with fail
      go_ret
      exact ⟨rfl, R1.out.set1 err, (Only.of_below B1.out).trans (Only.set _ _ _ _)⟩
  · rw [if_pos hb]
    have h3 := (err_ne bad hb).1
    clear hb
    go_enter Try.func109, Try.ntmps109
    go_wp2_with fail
    refine HB.out.mono ?_
    rintro e w' ⟨rfl, rfl⟩
    go_wp2_with fail
    go_ret
    exact ⟨rfl, H.out, Only.refl _ _⟩

theorem rNumber_any (b : Nat) (l : List UInt8) (hl : l.length ≤ 2000000) (bad : Nat) (w : World) (h : RdAt w b l bad) :
    Calls Try.prog 70 #[.pointer (some ⟨b, 0, none⟩)] w fun e w' =>
      e = .returned (.int .i64 (rdG 0 (decN l) l bad).1) ∧ RdAt w' b (rdG 0 (decN l) l bad).2.1 (rdG 0 (decN l) l bad).2.2 ∧ Only b w w' := by
  have HD := readNumber_any b l hl bad w h
  generalize rdG 0 (decN l) l bad = r at *
  have HD := Lib.hid HD
  clear h hl
  go_enter Try.func70, Try.ntmps70
  go_wp2_with fail
  refine HD.out.mono ?_
  rintro e w1 ⟨rfl, r1, o1⟩
  have R1 := Lib.hid r1
  have O1 := Lib.hid o1
  clear r1 o1
  go_wp2_with fail
  go_ret
  exact ⟨rfl, R1.out, O1.out⟩

theorem rTruth_any (b : Nat) (l : List UInt8) (hl : l.length ≤ 2000000) (bad : Nat) (w : World) (h : RdAt w b l bad) :
    Calls Try.prog 71 #[.pointer (some ⟨b, 0, none⟩)] w fun e w' =>
      e = .returned (.bool (rdG false (decT l) l bad).1) ∧ RdAt w' b (rdG false (decT l) l bad).2.1 (rdG false (decT l) l bad).2.2 ∧ Only b w w' := by
  have HD := readTruth_any b l hl bad w h
  generalize rdG false (decT l) l bad = r at *
  have HD := Lib.hid HD
  clear h hl
  go_enter Try.func71, Try.ntmps71
  go_wp2_with fail
  refine HD.out.mono ?_
  rintro e w1 ⟨rfl, r1, o1⟩
  have R1 := Lib.hid r1
  have O1 := Lib.hid o1
  clear r1 o1
  go_wp2_with fail
  go_ret
  exact ⟨rfl, R1.out, O1.out⟩

theorem rText_any (b : Nat) (l : List UInt8) (hl : l.length ≤ 2000000) (bad : Nat) (most : Int) (hm0 : -9223372036854775808 ≤ most) (hm1 : most < 9223372036854775808) (w : World) (h : RdAt w b l bad) :
    Calls Try.prog 72 #[.pointer (some ⟨b, 0, none⟩), .int .i64 most] w fun e w' =>
      e = .returned (.string (S (rdG [] (decX l most) l bad).1)) ∧ RdAt w' b (rdG [] (decX l most) l bad).2.1 (rdG [] (decX l most) l bad).2.2 ∧ Only b w w' := by
  have hb0 : Below w.heap.size w (w.alloc (.cells #[.int .i64 most] 3)) := (Below.refl _ _).alloc (Nat.le_refl _) _
  have HD := readText_any b l hl bad most hm0 hm1 w.heap.size (w.alloc (.cells #[.int .i64 most] 3)) (by simp) (h.below hb0)
  generalize rdG [] (decX l most) l bad = r at *
  have HD := Lib.hid HD
  have HB0 := Lib.hid hb0
  clear h hl hb0 hm0 hm1
  go_enter Try.func72, Try.ntmps72
  go_wp2_with fail
  refine HD.out.mono ?_
  rintro e w1 ⟨rfl, r1, o1⟩
  have R1 := Lib.hid r1
  have O1 := Lib.hid o1
  clear r1 o1
  go_wp2_with fail
  go_ret
  exact ⟨rfl, R1.out, (Only.of_below HB0.out).trans O1.out⟩

end Go.Proofs.Ytkdhchdhgmaolaa.Pk
