/-
  The document's own answer for values: where they lie; Right.
-/
import Derived.Test.YtkdhchdhgmaolaaZVaRef
namespace Go.Proofs.Ytkdhchdhgmaolaa.Va
open Go.RowKit

/-- A row of numbers among the arguments. -/
def NumsAt (w : World) (a : Option Addr) (l : List Int) : Prop := ∀ i, i < l.length → ∃ b off, a = some ⟨b, off, none⟩ ∧ w.cell? ⟨b, off + i, none⟩ = some (.int .i64 (l.getD i 0)) ∧ b < w.heap.size
theorem NumsAt.below {w w' : World} {a : Option Addr} {l : List Int} (h : NumsAt w a l) (b : Below w.heap.size w w') : NumsAt w' a l := fun i hi => by
  obtain ⟨g, off, e, hc, hl⟩ := h i hi
  exact ⟨g, off, e, (b.cell (p := ⟨g, off + i, none⟩) hl).trans hc, Nat.lt_of_lt_of_le hl b.size⟩
/-- A value as an argument. -/
def valC (v : V) (a : Option Addr) (cap : Nat) : Value := .agg #[.int .i64 v.kind, .int .i64 v.num, .string (S v.text), .slice a v.list.length cap]
structure VOk (v : V) : Prop where
  text : v.text.length ≤ 9223372036854775807
  list : v.list.length ≤ 9223372036854775807
theorem ret_b {a b : Bool} (h : a = b) : Ending.returned (.bool a) = .returned (.bool b) := by rw [h]

set_option linter.unusedSimpArgs false
set_option maxRecDepth 100000 in
set_option maxHeartbeats 1600000 in
theorem refRight_0 (n : Int) (t : List UInt8) (l : List Int) (ok : VOk ⟨0, n, t, l⟩) (a : Option Addr) (cap : Nat) (w : World) :
    Calls Try.prog 78 #[valC ⟨0, n, t, l⟩ a cap] w fun e w' => e = .returned (.bool (rightB ⟨0, n, t, l⟩)) ∧ Below w.heap.size w w' := by
  have hts : (S t).size = t.length := S_size t
  have ht1 := ok.text
  have hl1 := ok.list
  simp only at ht1 hl1
  have hti : (t.length : Int) ≤ 9223372036854775807 := by omega
  unfold valC
  simp only
  clear ok
  by_cases h0 : n = 0
  · subst h0
    by_cases hx : t = []
    · subst hx
      have hx0 : (S []).size = 0 := rfl
      clear hts ht1 hti
      by_cases hy : l = []
      · subst hy
        have HR := Lib.hid (show true = rightB ⟨0, 0, [], []⟩ from by symm; simp [rightB])
        go_enter Try.func78, Try.ntmps78
        go_wp2_with fail
        go_ret
        exact ⟨ret_b HR.out, (Below.refl _ _).alloc (Nat.le_refl _) _⟩
      · have hyi : 0 < l.length := List.length_pos_iff.2 hy
        have hyb : ((l.length : Int) == 0) = false := by simp; omega
        have hyc : (l.length == 0) = false := by simp; omega
        have HR := Lib.hid (show false = rightB ⟨0, 0, [], l⟩ from by symm; simp [rightB, hy])
        clear hy
        go_enter Try.func78, Try.ntmps78
        go_wp2_with fail
        go_ret
        exact ⟨ret_b HR.out, (Below.refl _ _).alloc (Nat.le_refl _) _⟩
    · have hxi : 0 < t.length := List.length_pos_iff.2 hx
      have HR := Lib.hid (show false = rightB ⟨0, 0, t, l⟩ from by symm; simp [rightB, hx])
      clear hx
      go_enter Try.func78, Try.ntmps78
      go_wp2_with fail
      go_ret
      exact ⟨ret_b HR.out, (Below.refl _ _).alloc (Nat.le_refl _) _⟩
  · have h0b : (n == 0) = false := by simpa using h0
    have h0n : (n != 0) = true := by simpa using h0
    have HR := Lib.hid (show false = rightB ⟨0, n, t, l⟩ from by symm; simp [rightB, h0])
    clear h0
    go_enter Try.func78, Try.ntmps78
    go_wp2_with fail
    go_ret
    exact ⟨ret_b HR.out, (Below.refl _ _).alloc (Nat.le_refl _) _⟩

set_option maxRecDepth 100000 in
set_option maxHeartbeats 1600000 in
theorem refRight_1 (n : Int) (t : List UInt8) (l : List Int) (ok : VOk ⟨1, n, t, l⟩) (a : Option Addr) (cap : Nat) (w : World) :
    Calls Try.prog 78 #[valC ⟨1, n, t, l⟩ a cap] w fun e w' => e = .returned (.bool (rightB ⟨1, n, t, l⟩)) ∧ Below w.heap.size w w' := by
  have hts : (S t).size = t.length := S_size t
  have ht1 := ok.text
  have hl1 := ok.list
  simp only at ht1 hl1
  have hti : (t.length : Int) ≤ 9223372036854775807 := by omega
  unfold valC
  simp only
  clear ok
  by_cases hx : t = []
  · subst hx
    have hx0 : (S []).size = 0 := rfl
    clear hts ht1 hti
    by_cases hy : l = []
    · subst hy
      have HR := Lib.hid (show true = rightB ⟨1, n, [], []⟩ from by symm; simp [rightB])
      go_enter Try.func78, Try.ntmps78
      go_wp2_with fail
      go_ret
      exact ⟨ret_b HR.out, (Below.refl _ _).alloc (Nat.le_refl _) _⟩
    · have hyi : 0 < l.length := List.length_pos_iff.2 hy
      have hyb : ((l.length : Int) == 0) = false := by simp; omega
      have hyc : (l.length == 0) = false := by simp; omega
      have HR := Lib.hid (show false = rightB ⟨1, n, [], l⟩ from by symm; simp [rightB, hy])
      clear hy
      go_enter Try.func78, Try.ntmps78
      go_wp2_with fail
      go_ret
      exact ⟨ret_b HR.out, (Below.refl _ _).alloc (Nat.le_refl _) _⟩
  · have hxi : 0 < t.length := List.length_pos_iff.2 hx
    have HR := Lib.hid (show false = rightB ⟨1, n, t, l⟩ from by symm; simp [rightB, hx])
    clear hx
    go_enter Try.func78, Try.ntmps78
    go_wp2_with fail
    go_ret
    exact ⟨ret_b HR.out, (Below.refl _ _).alloc (Nat.le_refl _) _⟩

set_option maxRecDepth 100000 in
set_option maxHeartbeats 1600000 in
theorem refRight_2 (n : Int) (t : List UInt8) (l : List Int) (ok : VOk ⟨2, n, t, l⟩) (a : Option Addr) (cap : Nat) (w : World) :
    Calls Try.prog 78 #[valC ⟨2, n, t, l⟩ a cap] w fun e w' => e = .returned (.bool (rightB ⟨2, n, t, l⟩)) ∧ Below w.heap.size w w' := by
  have hts : (S t).size = t.length := S_size t
  have ht1 := ok.text
  have hl1 := ok.list
  simp only at ht1 hl1
  have hti : (t.length : Int) ≤ 9223372036854775807 := by omega
  unfold valC
  simp only
  clear ok
  by_cases h0 : n = 0
  · subst h0
    by_cases hx : t = []
    · subst hx
      have hx0 : (S []).size = 0 := rfl
      clear hts ht1 hti
      by_cases hy : l = []
      · subst hy
        have HR := Lib.hid (show true = rightB ⟨2, 0, [], []⟩ from by symm; simp [rightB])
        go_enter Try.func78, Try.ntmps78
        go_wp2_with fail
        go_ret
        exact ⟨ret_b HR.out, (Below.refl _ _).alloc (Nat.le_refl _) _⟩
      · have hyi : 0 < l.length := List.length_pos_iff.2 hy
        have hyb : ((l.length : Int) == 0) = false := by simp; omega
        have hyc : (l.length == 0) = false := by simp; omega
        have HR := Lib.hid (show false = rightB ⟨2, 0, [], l⟩ from by symm; simp [rightB, hy])
        clear hy
        go_enter Try.func78, Try.ntmps78
        go_wp2_with fail
        go_ret
        exact ⟨ret_b HR.out, (Below.refl _ _).alloc (Nat.le_refl _) _⟩
    · have hxi : 0 < t.length := List.length_pos_iff.2 hx
      have HR := Lib.hid (show false = rightB ⟨2, 0, t, l⟩ from by symm; simp [rightB, hx])
      clear hx
      go_enter Try.func78, Try.ntmps78
      go_wp2_with fail
      go_ret
      exact ⟨ret_b HR.out, (Below.refl _ _).alloc (Nat.le_refl _) _⟩
  · by_cases h1 : n = 1
    · subst h1
      by_cases hx : t = []
      · subst hx
        have hx0 : (S []).size = 0 := rfl
        clear hts ht1 hti
        by_cases hy : l = []
        · subst hy
          have HR := Lib.hid (show true = rightB ⟨2, 1, [], []⟩ from by symm; simp [rightB])
          go_enter Try.func78, Try.ntmps78
          go_wp2_with fail
          go_ret
          exact ⟨ret_b HR.out, (Below.refl _ _).alloc (Nat.le_refl _) _⟩
        · have hyi : 0 < l.length := List.length_pos_iff.2 hy
          have hyb : ((l.length : Int) == 0) = false := by simp; omega
          have hyc : (l.length == 0) = false := by simp; omega
          have HR := Lib.hid (show false = rightB ⟨2, 1, [], l⟩ from by symm; simp [rightB, hy])
          clear hy
          go_enter Try.func78, Try.ntmps78
          go_wp2_with fail
          go_ret
          exact ⟨ret_b HR.out, (Below.refl _ _).alloc (Nat.le_refl _) _⟩
      · have hxi : 0 < t.length := List.length_pos_iff.2 hx
        have HR := Lib.hid (show false = rightB ⟨2, 1, t, l⟩ from by symm; simp [rightB, hx])
        clear hx
        go_enter Try.func78, Try.ntmps78
        go_wp2_with fail
        go_ret
        exact ⟨ret_b HR.out, (Below.refl _ _).alloc (Nat.le_refl _) _⟩
    · have h0b : (n == 0) = false := by simpa using h0
      have h0n : (n != 0) = true := by simpa using h0
      have h1b : (n == 1) = false := by simpa using h1
      have h1n : (n != 1) = true := by simpa using h1
      have HR := Lib.hid (show false = rightB ⟨2, n, t, l⟩ from by symm; simp [rightB, h0, h1])
      clear h0 h1
      go_enter Try.func78, Try.ntmps78
      go_wp2_with fail
      go_ret
      exact ⟨ret_b HR.out, (Below.refl _ _).alloc (Nat.le_refl _) _⟩

set_option maxRecDepth 100000 in
set_option maxHeartbeats 1600000 in
theorem refRight_3 (n : Int) (t : List UInt8) (l : List Int) (ok : VOk ⟨3, n, t, l⟩) (a : Option Addr) (cap : Nat) (w : World) :
    Calls Try.prog 78 #[valC ⟨3, n, t, l⟩ a cap] w fun e w' => e = .returned (.bool (rightB ⟨3, n, t, l⟩)) ∧ Below w.heap.size w w' := by
  have hts : (S t).size = t.length := S_size t
  have ht1 := ok.text
  have hl1 := ok.list
  simp only at ht1 hl1
  have hti : (t.length : Int) ≤ 9223372036854775807 := by omega
  unfold valC
  simp only
  clear ok
  by_cases h0 : n = 0
  · subst h0
    by_cases hx : t.length ≤ 64
    · have hxi : (t.length : Int) ≤ 64 := by omega
      by_cases hy : l = []
      · subst hy
        have HR := Lib.hid (show true = rightB ⟨3, 0, t, []⟩ from by symm; simp [rightB, hx])
        go_enter Try.func78, Try.ntmps78
        go_wp2_with fail
        go_ret
        exact ⟨ret_b HR.out, (Below.refl _ _).alloc (Nat.le_refl _) _⟩
      · have hyi : 0 < l.length := List.length_pos_iff.2 hy
        have hyb : ((l.length : Int) == 0) = false := by simp; omega
        have hyc : (l.length == 0) = false := by simp; omega
        have HR := Lib.hid (show false = rightB ⟨3, 0, t, l⟩ from by symm; simp [rightB, hy, hx])
        clear hy
        go_enter Try.func78, Try.ntmps78
        go_wp2_with fail
        go_ret
        exact ⟨ret_b HR.out, (Below.refl _ _).alloc (Nat.le_refl _) _⟩
    · have hxi : ¬ (t.length : Int) ≤ 64 := by omega
      have hxj : 64 < t.length := by omega
      have HR := Lib.hid (show false = rightB ⟨3, 0, t, l⟩ from by symm; simp [rightB, hx])
      clear hx
      go_enter Try.func78, Try.ntmps78
      go_wp2_with fail
      go_ret
      exact ⟨ret_b HR.out, (Below.refl _ _).alloc (Nat.le_refl _) _⟩
  · have h0b : (n == 0) = false := by simpa using h0
    have h0n : (n != 0) = true := by simpa using h0
    have HR := Lib.hid (show false = rightB ⟨3, n, t, l⟩ from by symm; simp [rightB, h0])
    clear h0
    go_enter Try.func78, Try.ntmps78
    go_wp2_with fail
    go_ret
    exact ⟨ret_b HR.out, (Below.refl _ _).alloc (Nat.le_refl _) _⟩

set_option maxRecDepth 100000 in
set_option maxHeartbeats 1600000 in
theorem refRight_4 (n : Int) (t : List UInt8) (l : List Int) (ok : VOk ⟨4, n, t, l⟩) (a : Option Addr) (cap : Nat) (w : World) :
    Calls Try.prog 78 #[valC ⟨4, n, t, l⟩ a cap] w fun e w' => e = .returned (.bool (rightB ⟨4, n, t, l⟩)) ∧ Below w.heap.size w w' := by
  have hts : (S t).size = t.length := S_size t
  have ht1 := ok.text
  have hl1 := ok.list
  simp only at ht1 hl1
  have hti : (t.length : Int) ≤ 9223372036854775807 := by omega
  unfold valC
  simp only
  clear ok
  by_cases h0 : n = 0
  · subst h0
    have hnm := refName_any (S t) (by omega) (w.alloc (.cells #[.int .i64 4, .int .i64 0, .string (S t), .slice a l.length cap] 25))
    rw [S_toList] at hnm
    cases hx : nameB t with
    | true =>
      rw [hx] at hnm
      have HNM := Lib.hid hnm
      clear hnm
      by_cases hy : l = []
      · subst hy
        have HR := Lib.hid (show true = rightB ⟨4, 0, t, []⟩ from by symm; simp [rightB, hx])
        clear hx
        go_enter Try.func78, Try.ntmps78
        go_wp2_with fail
        refine HNM.out.mono ?_
        rintro e w' ⟨rfl, rfl⟩
        go_wp2_with fail
        go_ret
        exact ⟨ret_b HR.out, (Below.refl _ _).alloc (Nat.le_refl _) _⟩
      · have hyi : 0 < l.length := List.length_pos_iff.2 hy
        have hyb : ((l.length : Int) == 0) = false := by simp; omega
        have hyc : (l.length == 0) = false := by simp; omega
        have HR := Lib.hid (show false = rightB ⟨4, 0, t, l⟩ from by symm; simp [rightB, hy, hx])
        clear hy
        clear hx
        go_enter Try.func78, Try.ntmps78
        go_wp2_with fail
        refine HNM.out.mono ?_
        rintro e w' ⟨rfl, rfl⟩
        go_wp2_with fail
        go_ret
        exact ⟨ret_b HR.out, (Below.refl _ _).alloc (Nat.le_refl _) _⟩
    | false =>
      rw [hx] at hnm
      have HNM := Lib.hid hnm
      clear hnm
      have HR := Lib.hid (show false = rightB ⟨4, 0, t, l⟩ from by symm; simp [rightB, hx])
      clear hx
      go_enter Try.func78, Try.ntmps78
      go_wp2_with fail
      refine HNM.out.mono ?_
      rintro e w' ⟨rfl, rfl⟩
      go_wp2_with fail
      go_ret
      exact ⟨ret_b HR.out, (Below.refl _ _).alloc (Nat.le_refl _) _⟩
  · have h0b : (n == 0) = false := by simpa using h0
    have h0n : (n != 0) = true := by simpa using h0
    have HR := Lib.hid (show false = rightB ⟨4, n, t, l⟩ from by symm; simp [rightB, h0])
    clear h0
    go_enter Try.func78, Try.ntmps78
    go_wp2_with fail
    go_ret
    exact ⟨ret_b HR.out, (Below.refl _ _).alloc (Nat.le_refl _) _⟩

set_option maxRecDepth 100000 in
set_option maxHeartbeats 1600000 in
theorem refRight_5 (n : Int) (t : List UInt8) (l : List Int) (ok : VOk ⟨5, n, t, l⟩) (a : Option Addr) (cap : Nat) (w : World) :
    Calls Try.prog 78 #[valC ⟨5, n, t, l⟩ a cap] w fun e w' => e = .returned (.bool (rightB ⟨5, n, t, l⟩)) ∧ Below w.heap.size w w' := by
  have hts : (S t).size = t.length := S_size t
  have ht1 := ok.text
  have hl1 := ok.list
  simp only at ht1 hl1
  have hti : (t.length : Int) ≤ 9223372036854775807 := by omega
  unfold valC
  simp only
  clear ok
  by_cases h0 : n = 0
  · subst h0
    by_cases hx : t = []
    · subst hx
      have hx0 : (S []).size = 0 := rfl
      clear hts ht1 hti
      by_cases hy : l.length ≤ 16
      · have hyi : (l.length : Int) ≤ 16 := by omega
        have HR := Lib.hid (show true = rightB ⟨5, 0, [], l⟩ from by symm; simp [rightB, hy])
        clear hy
        go_enter Try.func78, Try.ntmps78
        go_wp2_with fail
        go_ret
        exact ⟨ret_b HR.out, (Below.refl _ _).alloc (Nat.le_refl _) _⟩
      · have hyi : ¬ (l.length : Int) ≤ 16 := by omega
        have hyj : 16 < l.length := by omega
        have HR := Lib.hid (show false = rightB ⟨5, 0, [], l⟩ from by symm; simp [rightB, hy])
        clear hy
        go_enter Try.func78, Try.ntmps78
        go_wp2_with fail
        go_ret
        exact ⟨ret_b HR.out, (Below.refl _ _).alloc (Nat.le_refl _) _⟩
    · have hxi : 0 < t.length := List.length_pos_iff.2 hx
      have HR := Lib.hid (show false = rightB ⟨5, 0, t, l⟩ from by symm; simp [rightB, hx])
      clear hx
      go_enter Try.func78, Try.ntmps78
      go_wp2_with fail
      go_ret
      exact ⟨ret_b HR.out, (Below.refl _ _).alloc (Nat.le_refl _) _⟩
  · have h0b : (n == 0) = false := by simpa using h0
    have h0n : (n != 0) = true := by simpa using h0
    have HR := Lib.hid (show false = rightB ⟨5, n, t, l⟩ from by symm; simp [rightB, h0])
    clear h0
    go_enter Try.func78, Try.ntmps78
    go_wp2_with fail
    go_ret
    exact ⟨ret_b HR.out, (Below.refl _ _).alloc (Nat.le_refl _) _⟩

set_option maxRecDepth 100000 in
theorem refRight_any (v : V) (ok : VOk v) (a : Option Addr) (cap : Nat) (w : World) :
    Calls Try.prog 78 #[valC v a cap] w fun e w' => e = .returned (.bool (rightB v)) ∧ Below w.heap.size w w' := by
  obtain ⟨k, n, t, l⟩ := v
  by_cases hk : 0 ≤ k ∧ k ≤ 5
  · obtain rfl | rfl | rfl | rfl | rfl | rfl : k = 0 ∨ k = 1 ∨ k = 2 ∨ k = 3 ∨ k = 4 ∨ k = 5 := by omega
    · exact refRight_0 n t l ok a cap w
    · exact refRight_1 n t l ok a cap w
    · exact refRight_2 n t l ok a cap w
    · exact refRight_3 n t l ok a cap w
    · exact refRight_4 n t l ok a cap w
    · exact refRight_5 n t l ok a cap w
  · have HR := Lib.hid (show false = rightB ⟨k, n, t, l⟩ from by symm; simp [rightB]; omega)
    by_cases h0 : k < 0
    · unfold valC
      simp only
      clear ok hk
      go_enter Try.func78, Try.ntmps78
      go_wp2_with fail
      go_ret
      exact ⟨ret_b HR.out, (Below.refl _ _).alloc (Nat.le_refl _) _⟩
    · have h5 : 5 < k := by omega
      unfold valC
      simp only
      clear ok hk
      go_enter Try.func78, Try.ntmps78
      go_wp2_with fail
      go_ret
      exact ⟨ret_b HR.out, (Below.refl _ _).alloc (Nat.le_refl _) _⟩

end Go.Proofs.Ytkdhchdhgmaolaa.Va
