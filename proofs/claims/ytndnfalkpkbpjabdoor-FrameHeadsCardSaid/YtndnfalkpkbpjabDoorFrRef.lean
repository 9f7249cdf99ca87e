/-
  The walks over the document's own answer for package frame, each function by its contract.
-/
import Derived.Test.YtndnfalkpkbpjabDoorMem
import Derived.Test.YtndnfalkpkbpjabDoorCrcSum
import Derived.Test.YtndnfalkpkbpjabDoorFrPure
import Derived.Deep.RegionHeld3
namespace Go.Proofs.YtndnfalkpkbpjabDoor.Fr
open Go.RowKit

theorem be_cons (k : Nat) : ∀ n, be (k + 1) n = UInt8.ofNat (n / 256 ^ k) :: be k n := by
  induction k with
  | zero => intro n; simp [be]
  | succ k ih =>
    intro n
    show be (k + 1) (n / 256) ++ [UInt8.ofNat n] = _
    rw [ih (n / 256)]
    show UInt8.ofNat (n / 256 / 256 ^ k) :: (be k (n / 256) ++ [UInt8.ofNat n]) = _
    rw [Nat.div_div_eq_div_mul, Nat.pow_succ, Nat.mul_comm 256]
    rfl

set_option maxRecDepth 100000 in
/-- bytes: a number's, the greatest first. -/
theorem refBytes_any (n : Nat) (size : Nat) (hn : U64 n) (hs : size ≤ 8) (w : World) :
    Calls Tryd.prog 26 #[.int .u64 (n : Int), .int .i64 (size : Int)] w fun e w' => e = .returned (.string (S (be size n))) ∧ Below w.heap.size w w' := by
  have hn0 : (n : Int) = ((n / 256 ^ 0 : Nat) : Int) := by simp
  have HN := Lib.hid hn0
  clear hn0
  go_enter Tryd.func26, Tryd.ntmps26
  go_wp2_with fail
  go_loopw [0, 5, 6] (fun x s i wr => ∃ k : Nat, k ≤ size ∧ i = .int .i64 k ∧ x = .int .u64 ((n / 256 ^ k : Nat) : Int) ∧ s = .string (S (be k n)) ∧ Below w.heap.size w wr) (fun _ _ i _ => size - (intOf i).toNat)
  case atStart => exact ⟨0, by omega, rfl, by rw [← HN.out], rfl, Below.refl _ _⟩
  case round =>
    obtain ⟨k, hk, rfl, rfl, rfl, hb⟩ := hrel
    have HB := Lib.hid hb
    clear hb
    by_cases hlt : k < size
    · have hd : n / 256 ^ k / 256 = n / 256 ^ (k + 1) := by rw [Nat.div_div_eq_div_mul, Nat.pow_succ]
      have HD := Lib.hid hd
      have hcat : S [UInt8.ofNat (n / 256 ^ k)] ++ S (be k n) = S (be (k + 1) n) := by rw [S_append, be_cons]; rfl
      have HCAT := Lib.hid hcat
      have hz1 := S_size [UInt8.ofNat (n / 256 ^ k)]
      have hz2 : (S (be k n)).size ≤ 8 := by rw [S_size, be_length]; omega
      have hz1' : (S [UInt8.ofNat (n / 256 ^ k)]).size ≤ 1 := by rw [hz1]; simp
      have hmb : n / 256 ^ k < 18446744073709551616 := Nat.lt_of_le_of_lt (Nat.div_le_self _ _) hn.lt
      clear hd hcat hz1
      generalize n / 256 ^ k = m at *
      have hv : ((m : Int) % 256) = ((UInt8.ofNat m).toNat : Int) := by simp
      have hconv := fun w => byte_string w (UInt8.ofNat m) _ hv
      clear hv
      go_wp2_with fail
      go_roundw
      case rel =>
        refine ⟨k + 1, by omega, by go_num, ?_, congrArg Value.string HCAT.out, HB.out.alloc HB.out.size _⟩
        rw [← HD.out]; go_num
      case measure => simp [intOf]; omega
    · obtain rfl : k = size := by omega
      go_wp2_with fail
      go_ret
      exact ⟨rfl, HB.out⟩

theorem val_take (l : List UInt8) (k : Nat) (h : k < l.length) : val (l.take (k + 1)) = 256 * val (l.take k) + (l.getD k 0).toNat := by
  rw [Crc.take_succ' l k h, val_snoc]
theorem val_small (l : List UInt8) (k : Nat) : val (l.take k) < 256 ^ k := by
  have h := val_lt (l.take k) (l.take k).length rfl
  have h2 : (l.take k).length ≤ k := List.length_take_le _ _
  exact Nat.lt_of_lt_of_le h (Nat.pow_le_pow_right (by omega) h2)

set_option maxRecDepth 100000 in
/-- value: of bytes. -/
theorem refValue_any (s : ByteArray) (hs : s.size ≤ 8) (w : World) :
    Calls Tryd.prog 21 #[.string s] w fun e w' => e = .returned (.int .u64 (val s.data.toList : Nat)) ∧ w = w' := by
  have HL := Lib.hid (list_size s)
  go_enter Tryd.func21, Tryd.ntmps21
  go_wp2_with fail
  go_loop [3, 4] (fun x i => ∃ k : Nat, k ≤ s.size ∧ i = .int .i64 k ∧ x = .int .u64 (val (s.data.toList.take k) : Nat)) (fun _ i => s.size - (intOf i).toNat)
  case atStart => exact ⟨0, by omega, rfl, rfl⟩
  case round =>
    obtain ⟨k, hk, rfl, rfl⟩ := hrel
    by_cases hlt : k < s.size
    · have hv := val_take s.data.toList k (by rw [HL.out]; exact hlt)
      rw [getElem_list s k hlt] at hv
      have HV := Lib.hid hv
      have hlt2 : val (s.data.toList.take k) < 72057594037927936 := by
        have h1 := val_small s.data.toList k
        have h2 : 256 ^ k ≤ 256 ^ 7 := Nat.pow_le_pow_right (by omega) (by omega)
        omega
      have hb := byte_lt s[k]
      clear hv
      generalize val (s.data.toList.take k) = m at *
      go_wp2_with fail
      go_round
      case rel => exact ⟨k + 1, by omega, by go_num, by rw [HV.out]; go_num⟩
      case measure => simp [intOf]; omega
    · obtain rfl : k = s.size := by omega
      have ht : s.data.toList.take s.size = s.data.toList := List.take_of_length_le (by rw [HL.out]; omega)
      have HT := Lib.hid ht
      clear ht
      go_wp2_with fail
      go_ret
      exact ⟨by show Ending.returned (Value.int .u64 ((val (s.data.toList.take s.size) : Nat) : Int)) = _; rw [HT.out], rfl⟩

/-- How many sectors a unit with n bytes has. -/
def secs (n : Int) : Nat := if n < 0 ∨ 1048576 < n then 0 else (n.toNat + 84) / 64

set_option maxRecDepth 100000 in
/-- whole: up to whole sectors. -/
theorem refWhole_any (s : ByteArray) (hs : s.size ≤ 2000000) (w : World) :
    Calls Tryd.prog 31 #[.string s] w fun e w' => e = .returned (.string (S (s.data.toList ++ List.replicate ((64 - s.size % 64) % 64) 0))) ∧ Below w.heap.size w w' := by
  obtain ⟨k, hk⟩ : ∃ k, (64 - s.size % 64) % 64 = k := ⟨_, rfl⟩
  rw [hk]
  have hk2 : k < 64 := by omega
  have hki : (64 - (s.size : Int) % 64) % 64 = (k : Int) := by omega
  obtain ⟨w2, hmk, hrow, hbel⟩ := make_row w k (by omega)
  have hback := hrow.back (P := Tryd.prog) 49 9 5 k Tryd.underlying49 Tryd.underlying5 Tryd.underlying9 k (by simp)
  have hcat : s ++ S (List.replicate k 0) = S (s.data.toList ++ List.replicate k 0) := by rw [← S_append, S_list]
  have HCAT := Lib.hid hcat
  have HB := Lib.hid hbel
  have hz : (S (List.replicate k 0)).size ≤ 64 := by rw [S_size]; simp; omega
  clear hcat hbel hrow hk
  go_enter Tryd.func31, Tryd.ntmps31
  go_wp2_with fail
  go_ret
  exact ⟨congrArg (fun v => Ending.returned (Value.string v)) HCAT.out, HB.out⟩

theorem refBytes4 (n : Nat) (hn : U64 n) (w : World) :
    Calls Tryd.prog 26 #[.int .u64 (n : Int), .int .i64 4] w fun e w' => e = .returned (.string (S (be 4 n))) ∧ Below w.heap.size w w' :=
  refBytes_any n 4 hn (by omega) w
theorem refBytes8 (n : Nat) (hn : U64 n) (w : World) :
    Calls Tryd.prog 26 #[.int .u64 (n : Int), .int .i64 8] w fun e w' => e = .returned (.string (S (be 8 n))) ∧ Below w.heap.size w w' :=
  refBytes_any n 8 hn (by omega) w
theorem refBytes1 (n : Nat) (hn : U64 n) (w : World) :
    Calls Tryd.prog 26 #[.int .u64 (n : Int), .int .i64 1] w fun e w' => e = .returned (.string (S (be 1 n))) ∧ Below w.heap.size w w' :=
  refBytes_any n 1 hn (by omega) w

theorem be_sz (k n : Nat) : (S (be k n)).size = k := by rw [S_size, be_length]

/-- Four cells of a block stay, where nothing that is there changes. -/
theorem keep4 {w0 w w' : World} {v0 v1 v2 v3 : Value} (h : w.cell? ⟨w0.heap.size, 0, none⟩ = some v0 ∧ w.cell? ⟨w0.heap.size, 1, none⟩ = some v1 ∧ w.cell? ⟨w0.heap.size, 2, none⟩ = some v2 ∧ w.cell? ⟨w0.heap.size, 3, none⟩ = some v3 ∧ Below w0.heap.size w0 w ∧ w0.heap.size < w.heap.size)
    (b : Below w.heap.size w w') : w'.cell? ⟨w0.heap.size, 0, none⟩ = some v0 ∧ w'.cell? ⟨w0.heap.size, 1, none⟩ = some v1 ∧ w'.cell? ⟨w0.heap.size, 2, none⟩ = some v2 ∧ w'.cell? ⟨w0.heap.size, 3, none⟩ = some v3 ∧ Below w0.heap.size w0 w' ∧ w0.heap.size < w'.heap.size := by
  obtain ⟨h0, h1, h2, h3, h4, h5⟩ := h
  have k := fun j => b.cell (p := ⟨w0.heap.size, j, none⟩) h5
  exact ⟨(k 0).trans h0, (k 1).trans h1, (k 2).trans h2, (k 3).trans h3, two h4 b, Nat.lt_of_lt_of_le h5 b.size⟩

/-- Why a unit has no sectors, or 0. -/
def putE (kind : Int) (n : Nat) : Nat := if 1048576 < n then 5 else if kind < 0 ∨ 255 < kind then 2 else 0
/-- What Put answers. -/
def putS (serial seq : Nat) (kind : Int) (b : List UInt8) : List UInt8 := if putE kind b.length = 0 then unitL serial seq kind.toNat b else []

set_option maxRecDepth 100000 in
set_option maxHeartbeats 1600000 in
/-- Put. -/
theorem refPut_any (serial seq : Nat) (kind : Int) (b : ByteArray) (h1 : serial < 4294967296) (h2 : seq < 18446744073709551616) (w : World) :
    Calls Tryd.prog 22 #[.agg #[.int .u32 (serial : Int), .int .u64 (seq : Int), .int .i64 kind, .string b]] w fun e w' =>
      e = .returned (.tuple #[.string (S (putS serial seq kind b.data.toList)), .int .i64 (putE kind b.size : Nat)]) ∧ Below w.heap.size w w' := by
  have HL := Lib.hid (list_size b)
  have hb0 := (Below.refl w.heap.size w).alloc (Nat.le_refl _) (.cells #[.int .u32 (serial : Int), .int .u64 (seq : Int), .int .i64 kind, .string b] 30)
  have HB0 := Lib.hid hb0
  clear hb0
  by_cases hc1 : 1048576 < b.size
  · have he : putE kind b.size = 5 := by simp [putE, hc1]
    have hs : putS serial seq kind b.data.toList = [] := by unfold putS; rw [HL.out, he]; rfl
    rw [he, hs]
    clear he hs
    go_enter Tryd.func22, Tryd.ntmps22
    go_wp2_with fail
    go_ret2
    exact ⟨rfl, HB0.out⟩
  · have hc1' : b.size ≤ 1048576 := by omega
    by_cases hc2 : kind < 0
    · have he : putE kind b.size = 2 := by simp [putE, hc1, hc2]
      have hs : putS serial seq kind b.data.toList = [] := by unfold putS; rw [HL.out, he]; rfl
      rw [he, hs]
      clear he hs
      go_enter Tryd.func22, Tryd.ntmps22
      go_wp2_with fail
      go_ret2
      exact ⟨rfl, HB0.out⟩
    · by_cases hc3 : 255 < kind
      · have he : putE kind b.size = 2 := by simp [putE, hc1, hc3]
        have hs : putS serial seq kind b.data.toList = [] := by unfold putS; rw [HL.out, he]; rfl
        rw [he, hs]
        clear he hs
        go_enter Tryd.func22, Tryd.ntmps22
        go_wp2_with fail
        go_ret2
        exact ⟨rfl, HB0.out⟩
      · have he : putE kind b.size = 0 := by simp [putE, hc1]; omega
        have hs : putS serial seq kind b.data.toList = unitL serial seq kind.toNat b.data.toList := by unfold putS; rw [HL.out, he]; rfl
        obtain ⟨K, rfl⟩ := Int.eq_ofNat_of_zero_le (show 0 ≤ kind by omega)
        rw [he, hs]
        rw [Int.toNat_natCast]
        have hK : K ≤ 255 := by omega
        have u1 : U64 serial := ⟨by omega⟩
        have u2 : U64 seq := ⟨h2⟩
        have u3 : U64 K := ⟨by omega⟩
        have u4 : U64 b.size := ⟨by omega⟩
        have h17 : 17 + b.size ≤ 9223372036854775807 := by omega
        have h18 : b.size ≤ 9223372036854775790 := by omega
        have h19 : ¬ (9223372036854775807 < 17 + b.size) := by omega
        have h20 : ¬ (9223372036854775790 < b.size) := by omega
        have p1 : IntKind.u64.wrap (serial : Int) = serial := by rw [IntKind.wrap_u64]; omega
        have p3 : IntKind.u64.wrap (K : Int) = K := by rw [IntKind.wrap_u64]; omega
        have p4 : IntKind.u64.wrap (b.size : Int) = b.size := by rw [IntKind.wrap_u64]; omega
        clear he hs hc1 hc2 hc3 h1 h2
        have hbody : S (be 4 serial) ++ S (be 8 seq) ++ S (be 1 K) ++ S (be 4 b.size) ++ b = S (bodyL serial seq K b.data.toList) := by
          have e : S (bodyL serial seq K b.data.toList) = S (be 4 serial ++ be 8 seq ++ be 1 K ++ be 4 b.size ++ b.data.toList) := by
            unfold bodyL; rw [HL.out]; simp
          rw [e, ← S_append, ← S_append, ← S_append, ← S_append, S_list]
        have HBODY := Lib.hid hbody
        clear hbody
        have hsl : (Crc.sum (bodyL serial seq K b.data.toList)).toNat < 18446744073709551616 := by have := (Crc.sum (bodyL serial seq K b.data.toList)).isLt; omega
        have HSL := Lib.hid hsl
        have hsum : IntKind.u64.wrap (Crc.V (Crc.sum (bodyL serial seq K b.data.toList))) = ((Crc.sum (bodyL serial seq K b.data.toList)).toNat : Int) := by
          rw [IntKind.wrap_u64]; show (((Crc.sum (bodyL serial seq K b.data.toList)).toNat : Int)) % _ = _; omega
        have HSUM := Lib.hid hsum
        have hall : S (be 4 (Crc.sum (bodyL serial seq K b.data.toList)).toNat) ++ S (bodyL serial seq K b.data.toList) = S (sumB (bodyL serial seq K b.data.toList) ++ bodyL serial seq K b.data.toList) := by
          rw [← S_append]; rfl
        have HALL := Lib.hid hall
        have hunit : (S (sumB (bodyL serial seq K b.data.toList) ++ bodyL serial seq K b.data.toList)).data.toList ++ List.replicate ((64 - (S (sumB (bodyL serial seq K b.data.toList) ++ bodyL serial seq K b.data.toList)).size % 64) % 64) 0 = unitL serial seq K b.data.toList := by
          rw [S_toList, S_size, List.length_append, sumB_length, bodyL_length]
          unfold unitL
          rw [List.append_assoc]
          congr 3
          rw [HL.out]; unfold room; omega
        have HUNIT := Lib.hid hunit
        have hbz : (S (bodyL serial seq K b.data.toList)).size ≤ 1048593 := by rw [S_size, bodyL_length, HL.out]; omega
        have HBZ := Lib.hid hbz
        clear hsl hsum hall hunit hbz
        have k4 := be_sz 4
        have k8 := be_sz 8
        have k1 := be_sz 1
        go_enter Tryd.func22, Tryd.ntmps22
        go_wp2_with fail
        go_region_held3 (fun w' => w'.cell? ⟨w.heap.size, 0, none⟩ = some (.int .u32 (serial : Int)) ∧ w'.cell? ⟨w.heap.size, 1, none⟩ = some (.int .u64 (seq : Int)) ∧ w'.cell? ⟨w.heap.size, 2, none⟩ = some (.int .i64 (K : Int)) ∧ w'.cell? ⟨w.heap.size, 3, none⟩ = some (.string b) ∧ Below w.heap.size w w' ∧ w.heap.size < w'.heap.size)
          (first | exact keep4 (by assumption) (by assumption) | (refine ⟨?_, ?_, ?_, ?_, HB0.out.drew, ?_⟩ <;> simp; done))
          (first
            | (go_at_call 26; (with_reducible refine (refBytes4 _ ?_ _).mono ?_); assumption; rintro e w' ⟨rfl, hq⟩)
            | (go_at_call 26; (with_reducible refine (refBytes8 _ ?_ _).mono ?_); assumption; rintro e w' ⟨rfl, hq⟩)
            | (go_at_call 26; (with_reducible refine (refBytes1 _ ?_ _).mono ?_); assumption; rintro e w' ⟨rfl, hq⟩))
        have hbel : Below w.heap.size w _ := (by assumption : _ ∧ _ ∧ _ ∧ _ ∧ Below w.heap.size w _ ∧ _).2.2.2.2.1
        have HBEL := Lib.hid hbel
        clear hbel h17 h18 h19 h20
        go_wp2_with fail
        rw [HBODY.out]
        refine (Crc.refSum_any _ (by unfold maxLen; rw [S_size, bodyL_length, HL.out]; omega) _).mono ?_
        rintro e w2 ⟨rfl, rfl⟩
        rw [S_toList]
        go_wp2_with fail
        rw [HSUM.out]
        refine (refBytes4 _ ⟨HSL.out⟩ _).mono ?_
        rintro e w3 ⟨rfl, b3⟩
        have B3 := Lib.hid b3
        clear b3
        have k5 := k4 (Crc.sum (bodyL serial seq K b.data.toList)).toNat
        have k6 := HBZ.out
        go_wp2_with fail
        rw [HALL.out]
        refine (refWhole_any _ (by rw [S_size, List.length_append, sumB_length, bodyL_length, HL.out]; omega) _).mono ?_
        rintro e w4 ⟨rfl, b4⟩
        have B4 := Lib.hid b4
        clear b4
        go_wp2_with fail
        go_ret2
        exact ⟨congrArg (fun l => Ending.returned (Value.tuple #[Value.string (S l), Value.int .i64 0])) HUNIT.out, two (two HBEL.out B3.out) B4.out⟩

end Go.Proofs.YtndnfalkpkbpjabDoor.Fr
