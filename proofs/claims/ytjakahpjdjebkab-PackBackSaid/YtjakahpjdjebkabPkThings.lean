/-
  Things that are written one behind the other: their bytes, as plain mathematics; the walk over how one is written.
-/
import Derived.Test.YtjakahpjdjebkabPkLaws
import Derived.Test.YtjakahpjdjebkabPkOne
namespace Go.Proofs.Ytjakahpjdjebkab.Pk
open Go.RowKit

/-- A thing: what it is, its number, its text. -/
structure Th where
  what : Int
  n : Nat
  s : ByteArray

/-- What it is, by the rest by four: 1 a number, 2 a truth, 3 a text, else a count. -/
inductive Sort4 where
  | num | tru | txt | cnt
def kind (x : Int) : Sort4 :=
  if x.tmod 4 = 1 ∨ x.tmod 4 = -1 then .num else if x.tmod 4 = 2 ∨ x.tmod 4 = -2 then .tru else if x.tmod 4 = 3 ∨ x.tmod 4 = -3 then .txt else .cnt
/-- Its bytes. -/
def tb (t : Th) : List UInt8 :=
  match kind t.what with
  | .num => enc (zz (wrap64 (t.n : Int)))
  | .tru => truthL (decide (t.n % 2 = 1))
  | .txt => encX t.s.data.toList
  | .cnt => enc t.n

theorem wrap64_range (x : Int) : -9223372036854775808 ≤ wrap64 x ∧ wrap64 x < 9223372036854775808 := by
  unfold wrap64; omega

theorem tmod4 (x : Int) : x.tmod 4 = 1 ∨ x.tmod 4 = -1 ∨ x.tmod 4 = 2 ∨ x.tmod 4 = -2 ∨ x.tmod 4 = 3 ∨ x.tmod 4 = -3 ∨ x.tmod 4 = 0 := by
  by_cases hx : 0 ≤ x
  · rw [Int.tmod_eq_emod_of_nonneg hx]; omega
  · have e : x.tmod 4 = -((-x).tmod 4) := by rw [Int.neg_tmod, Int.neg_neg]
    rw [e, Int.tmod_eq_emod_of_nonneg (by omega)]
    omega

theorem truth_b (b : Bool) (w : World) :
    Calls Try.prog 15 #[.bool b] w fun e w' => e = .returned (.string (S (truthL b))) ∧ Below w.heap.size w w' := by
  refine (truth_any b w).mono ?_
  rintro e w' ⟨rfl, rfl⟩
  exact ⟨rfl, Below.refl _ _⟩

set_option maxRecDepth 100000 in
theorem bytes_any (t : Th) (hn : t.n < 2 ^ 64) (hs : t.s.size ≤ 1000) (w : World) :
    Calls Try.prog 16 #[.agg #[.int .i64 t.what, .int .u64 (t.n : Int), .string t.s]] w fun e w' => e = .returned (.string (S (tb t))) ∧ Below w.heap.size w w' := by
  obtain ⟨x, n, s⟩ := t
  simp only at hn hs ⊢
  have HN : U64 n := ⟨hn⟩
  clear hn
  have hb0 := (Below.refl w.heap.size w).alloc (Nat.le_refl _) (.cells #[.int .i64 x, .int .u64 (n : Int), .string s] 32)
  have HB0 := Lib.hid hb0
  clear hb0
  rcases tmod4 x with h | h | h | h | h | h | h
  · have ht : tb ⟨x, n, s⟩ = enc (zz (wrap64 (n : Int))) := by simp [tb, kind, h]
    have HT := Lib.hid ht
    clear ht
    go_enter Try.func16, Try.ntmps16
    go_wp2_with fail
    refine (number_any _ (wrap64_range _).1 (wrap64_range _).2 _).mono ?_
    rintro e w1 ⟨rfl, b1⟩
    have B1 := Lib.hid b1
    clear b1
    go_wp2_with fail
    go_ret
    exact ⟨by rw [HT.out]; rfl, two HB0.out B1.out⟩
  · have ht : tb ⟨x, n, s⟩ = enc (zz (wrap64 (n : Int))) := by simp [tb, kind, h]
    have HT := Lib.hid ht
    clear ht
    go_enter Try.func16, Try.ntmps16
    go_wp2_with fail
    refine (number_any _ (wrap64_range _).1 (wrap64_range _).2 _).mono ?_
    rintro e w1 ⟨rfl, b1⟩
    have B1 := Lib.hid b1
    clear b1
    go_wp2_with fail
    go_ret
    exact ⟨by rw [HT.out]; rfl, two HB0.out B1.out⟩
  · have ht : tb ⟨x, n, s⟩ = truthL (decide (n % 2 = 1)) := by simp [tb, kind, h]
    have HT := Lib.hid ht
    clear ht
    have hq : ((n : Int) % 2 == 1) = decide (n % 2 = 1) := by rw [Bool.eq_iff_iff]; simp; omega
    have hq2 : ((n : Int).tmod 2 == 1) = decide (n % 2 = 1) := by rw [Int.tmod_eq_emod_of_nonneg (by omega)]; exact hq
    have HQ := Lib.hid (And.intro hq hq2)
    clear hq hq2
    go_enter Try.func16, Try.ntmps16
    go_wp2_with fail
    first | rw [HQ.out.1] | rw [HQ.out.2]
    refine (truth_b _ _).mono ?_
    rintro e w1 ⟨rfl, b1⟩
    have B1 := Lib.hid b1
    clear b1
    go_wp2_with fail
    go_ret
    exact ⟨by rw [HT.out]; rfl, two HB0.out B1.out⟩
  · have ht : tb ⟨x, n, s⟩ = truthL (decide (n % 2 = 1)) := by simp [tb, kind, h]
    have HT := Lib.hid ht
    clear ht
    have hq : ((n : Int) % 2 == 1) = decide (n % 2 = 1) := by rw [Bool.eq_iff_iff]; simp; omega
    have hq2 : ((n : Int).tmod 2 == 1) = decide (n % 2 = 1) := by rw [Int.tmod_eq_emod_of_nonneg (by omega)]; exact hq
    have HQ := Lib.hid (And.intro hq hq2)
    clear hq hq2
    go_enter Try.func16, Try.ntmps16
    go_wp2_with fail
    first | rw [HQ.out.1] | rw [HQ.out.2]
    refine (truth_b _ _).mono ?_
    rintro e w1 ⟨rfl, b1⟩
    have B1 := Lib.hid b1
    clear b1
    go_wp2_with fail
    go_ret
    exact ⟨by rw [HT.out]; rfl, two HB0.out B1.out⟩
  · have ht : tb ⟨x, n, s⟩ = encX s.data.toList := by simp [tb, kind, h]
    have HT := Lib.hid ht
    clear ht
    have htx : enc s.size ++ s.data.toList = encX s.data.toList := by unfold encX; simp
    have HTX := Lib.hid htx
    clear htx
    go_enter Try.func16, Try.ntmps16
    go_wp2_with fail
    refine (text_any _ (by omega) _).mono ?_
    rintro e w1 ⟨rfl, b1⟩
    have B1 := Lib.hid b1
    clear b1
    go_wp2_with fail
    go_ret
    exact ⟨by rw [HT.out, ← HTX.out]; rfl, two HB0.out B1.out⟩
  · have ht : tb ⟨x, n, s⟩ = encX s.data.toList := by simp [tb, kind, h]
    have HT := Lib.hid ht
    clear ht
    have htx : enc s.size ++ s.data.toList = encX s.data.toList := by unfold encX; simp
    have HTX := Lib.hid htx
    clear htx
    go_enter Try.func16, Try.ntmps16
    go_wp2_with fail
    refine (text_any _ (by omega) _).mono ?_
    rintro e w1 ⟨rfl, b1⟩
    have B1 := Lib.hid b1
    clear b1
    go_wp2_with fail
    go_ret
    exact ⟨by rw [HT.out, ← HTX.out]; rfl, two HB0.out B1.out⟩
  · have ht : tb ⟨x, n, s⟩ = enc n := by simp [tb, kind, h]
    have HT := Lib.hid ht
    clear ht
    go_enter Try.func16, Try.ntmps16
    go_wp2_with fail
    refine (count_int (n : Int) (by omega) (by have := HN.lt; omega) _).mono ?_
    rintro e w1 ⟨rfl, b1⟩
    have B1 := Lib.hid b1
    clear b1
    go_wp2_with fail
    go_ret
    exact ⟨by rw [HT.out]; rfl, two HB0.out B1.out⟩

end Go.Proofs.Ytjakahpjdjebkab.Pk
