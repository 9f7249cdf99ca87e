/-
  The walks over package frame's own helpers, each function by its contract.
-/
import Derived.Test.YtndnfalkpkbpjaaDoorFrRef
import Derived.Lib.LazyBuf
import Derived.Lib.SlBuf
import Derived.Shelf.Strconv.Clone
namespace Go.Proofs.YtndnfalkpkbpjaaDoor.Fr
open Go.RowKit

theorem fill_set (size k : Nat) (c : UInt8) (l : List UInt8) (h : k < size) :
    (List.replicate (size - k) (0 : UInt8) ++ l).set (size - 1 - k) c = List.replicate (size - (k + 1)) 0 ++ c :: l := by
  have e : size - k = (size - (k + 1)) + 1 := by omega
  rw [e, List.replicate_succ', List.append_assoc]
  have e2 : size - 1 - k = (List.replicate (size - (k + 1)) (0 : UInt8)).length := by simp; omega
  rw [e2, List.set_append_right _ _ (Nat.le_refl _)]
  simp

theorem pow8 (k : Nat) : (2 : Int) ^ (8 * k) = ((256 ^ k : Nat) : Int) := by
  rw [Int.natCast_pow, Int.pow_mul]; rfl

set_option maxRecDepth 100000 in
/-- digits: a number's lowest bytes, the greatest first. -/
theorem digits_any (n : Nat) (size : Nat) (_hn : U64 n) (hs : size ≤ 8) (w : World) :
    Calls Tryd.prog 10 #[.int .u64 (n : Int), .int .i64 (size : Int)] w fun e w' => e = .returned (.string (S (be size n))) ∧ Below w.heap.size w w' := by
  obtain ⟨w2, hmk, hrow, hbel⟩ := make_row w size (by omega)
  have HR := Lib.hid hrow
  have HB := Lib.hid hbel
  clear hrow hbel
  go_enter Tryd.func10, Tryd.ntmps10
  go_wp2_with fail
  clear hmk
  go_loopw [6, 10] (fun z i wr => ∃ k : Nat, k ≤ size ∧ i = .int .i64 k ∧ Row8 wr w.heap.size (List.replicate (size - k) 0 ++ be k n) ∧ Below w.heap.size w wr) (fun _ i _ => size - (intOf i).toNat)
  case atStart => exact ⟨0, by omega, rfl, by simpa [be] using HR.out, HB.out⟩
  case round =>
    obtain ⟨k, hk, rfl, hr, hb⟩ := hrel
    have HR2 := Lib.hid hr
    have HB2 := Lib.hid hb
    clear hr hb
    by_cases hlt : k < size
    · have hlen : (List.replicate (size - k) (0 : UInt8) ++ be k n).length = size := by simp [be_length]; omega
      have hcf := HR2.out (size - 1 - k) (by rw [hlen]; omega)
      obtain ⟨hc, hf⟩ := hcf
      generalize (List.replicate (size - k) (0 : UInt8) ++ be k n).getD (size - 1 - k) 0 = c at *
      have hi : ((size : Int) - 1 - k).toNat = size - 1 - k := by omega
      have h8 : (8 * (k : Int)).toNat = 8 * k := by omega
      have HL := Lib.hid hlen
      clear hlen
      go_wp2_with fail
      go_roundw
      case rel =>
        refine ⟨k + 1, by omega, by go_num, ?_, HB2.out.setCell (by simp) _⟩
        have h := HR2.out.set (size - 1 - k) (UInt8.ofNat (n / 256 ^ k)) (by rw [HL.out]; omega) ((n : Int) / 2 ^ (8 * k) % 256) (by rw [pow8]; simp)
        rw [fill_set size k _ _ hlt, ← be_cons] at h
        exact h
      case measure => simp [intOf]; omega
    · obtain rfl : k = size := by omega
      have hback := HR2.out.back (P := Tryd.prog) 43 9 5 k Tryd.underlying43 Tryd.underlying5 Tryd.underlying9 k (by simp [be_length])
      go_wp2_with fail
      go_ret
      exact ⟨by simp [S], HB2.out⟩

theorem Row8.setAll {w : World} {b : Nat} {l : List UInt8} (h : Row8 w b l) (s : List UInt8) (hs : s.length ≤ l.length) :
    Row8 (w.setCells b 0 (s.map fun c => .int .u8 (c.toNat : Int))) b (s ++ l.drop s.length) := by
  intro j hj
  have hj2 : j < l.length := by simp at hj; omega
  have hj0 := h j hj2
  refine ⟨?_, by rw [World.frozen?_setCells]; exact hj0.2⟩
  by_cases e : j < s.length
  · have h1 := World.cell?_setCells_in b (s.map fun c => Value.int .u8 (c.toNat : Int)) 0 w (by
      intro i hi
      rw [List.length_map] at hi
      rw [Nat.zero_add, (h i (by omega)).1]; rfl) j (by simpa using e)
    rw [Nat.zero_add] at h1
    rw [h1]
    simp [List.getD, List.getElem?_append_left e, e]
  · rw [World.cell?_setCells_out b _ 0 w ⟨b, j, none⟩ (by intro _ _; simp; omega), hj0.1]
    have e2 : (s ++ l.drop s.length).getD j 0 = l.getD j 0 := by
      simp only [List.getD]
      rw [List.getElem?_append_right (by omega), List.getElem?_drop]
      congr 2
      omega
    rw [e2]

theorem size_u8 (w : World) : (Go.sizeOf 5).run Tryd.prog w = .ok 1 w := by kernel_rfl

set_option maxRecDepth 100000 in
/-- fill: noughts behind, up to so many bytes in all. -/
theorem fill_any (s : ByteArray) (n : Nat) (hs : s.size ≤ n) (hn : n ≤ 4000000) (w : World) :
    Calls Tryd.prog 11 #[.string s, .int .i64 (n : Int)] w fun e w' => e = .returned (.string (S (s.data.toList ++ List.replicate (n - s.size) 0))) ∧ Below w.heap.size w w' := by
  obtain ⟨w2, hmk, hrow, hbel⟩ := make_row w n (by omega)
  have hlen : s.data.toList.length = s.size := list_size s
  have hcp := run_copy_string (P := Tryd.prog) w2 43 9 3 5 w.heap.size 0 n n s Tryd.underlying43 size_u8 hs
    (fun j hj => by rw [Nat.zero_add, (hrow j (by simp; omega)).1]; rfl) (fun j hj => by rw [Nat.zero_add]; exact (hrow j (by simp; omega)).2)
  have hrow2 := Row8.setAll hrow s.data.toList (by rw [hlen]; simpa using hs)
  have hbel2 := Lib.below_setCells w.heap.size (Nat.le_refl _) (s.data.toList.map fun x => Value.int .u8 (x.toNat : Int)) 0 hbel
  obtain ⟨w3, hw3⟩ : ∃ w3, w2.setCells w.heap.size 0 (s.data.toList.map fun x => Value.int .u8 (x.toNat : Int)) = w3 := ⟨_, rfl⟩
  rw [hw3] at hcp hrow2 hbel2
  have hback := hrow2.back (P := Tryd.prog) 43 9 5 n Tryd.underlying43 Tryd.underlying5 Tryd.underlying9 n (by simp; omega)
  have hdrop : s.data.toList ++ (List.replicate n (0 : UInt8)).drop s.data.toList.length = s.data.toList ++ List.replicate (n - s.size) 0 := by
    rw [hlen, List.drop_replicate]
  rw [hdrop] at hback
  have HB := Lib.hid hbel2
  clear hw3 hrow hbel hrow2 hbel2 hdrop hlen
  go_enter Tryd.func11, Tryd.ntmps11
  go_wp2_with (at_builtin; refine Lib.wpList_copy_run _ rfl _ _ 43 9 rfl _ _ rfl rfl hcp ?_)
  go_ret
  exact ⟨rfl, HB.out⟩

/-- digits, by constant sizes. -/
theorem digits4 (n : Nat) (hn : U64 n) (w : World) :
    Calls Tryd.prog 10 #[.int .u64 (n : Int), .int .i64 4] w fun e w' => e = .returned (.string (S (be 4 n))) ∧ Below w.heap.size w w' :=
  digits_any n 4 hn (by omega) w
theorem digits8 (n : Nat) (hn : U64 n) (w : World) :
    Calls Tryd.prog 10 #[.int .u64 (n : Int), .int .i64 8] w fun e w' => e = .returned (.string (S (be 8 n))) ∧ Below w.heap.size w w' :=
  digits_any n 8 hn (by omega) w
theorem digits1 (n : Nat) (hn : U64 n) (w : World) :
    Calls Tryd.prog 10 #[.int .u64 (n : Int), .int .i64 1] w fun e w' => e = .returned (.string (S (be 1 n))) ∧ Below w.heap.size w w' :=
  digits_any n 1 hn (by omega) w

theorem sumV (l : List UInt8) : IntKind.u64.wrap (Crc.V (Crc.sum l)) = ((Crc.sum l).toNat : Int) := by
  have hsl : (Crc.sum l).toNat < 18446744073709551616 := by have := (Crc.sum l).isLt; omega
  rw [IntKind.wrap_u64]; show (((Crc.sum l).toNat : Int)) % _ = _; omega
theorem sum64 (l : List UInt8) : U64 (Crc.sum l).toNat := ⟨by have := (Crc.sum l).isLt; omega⟩

/-- checksum. -/
theorem checksum_any (s : ByteArray) (hs : s.size ≤ maxLen) (w : World) :
    Calls Tryd.prog 12 #[.string s] w fun e w' => e = .returned (.string (S (sumB s.data.toList))) ∧ Below w.heap.size w w' := by
  have HSUM := Lib.hid (sumV s.data.toList)
  have HSL := Lib.hid (sum64 s.data.toList)
  go_enter Tryd.func12, Tryd.ntmps12
  go_wp2_with fail
  refine (Crc.sum_any _ hs _).mono ?_
  rintro e w1 ⟨rfl, b1⟩
  have B1 := Lib.hid b1
  clear b1
  go_wp2_with fail
  rw [HSUM.out]
  refine (digits4 _ HSL.out _).mono ?_
  rintro e w2 ⟨rfl, b2⟩
  have B2 := Lib.hid b2
  clear b2
  go_wp2_with fail
  go_ret
  exact ⟨rfl, two B1.out B2.out⟩

set_option maxRecDepth 100000 in
/-- number: of at most eight bytes. -/
theorem number_any (s : ByteArray) (hs : s.size ≤ 8) (w : World) :
    Calls Tryd.prog 16 #[.string s] w fun e w' => e = .returned (.int .u64 (val s.data.toList : Nat)) ∧ Below w.heap.size w w' := by
  obtain ⟨cap, w2, hconv, hcell, hbel⟩ := Crc.conv_bytes w s
  have HL := Lib.hid (list_size s)
  have HB := Lib.hid hbel
  have HC := Lib.hid hcell
  clear hbel hcell
  go_enter Tryd.func16, Tryd.ntmps16
  go_wp2_with fail
  go_loop [3, 5, 9] (fun x c i => ∃ k : Nat, k ≤ s.size ∧ i = .int .i64 k ∧ x = .int .u64 (val (s.data.toList.take k) : Nat)) (fun _ _ i => s.size - (intOf i).toNat)
  case atStart => exact ⟨0, by omega, rfl, rfl⟩
  case round =>
    obtain ⟨k, hk, rfl, rfl⟩ := hrel
    by_cases hlt : k < s.size
    · have hc := HC.out k hlt
      have hv := val_take s.data.toList k (by rw [HL.out]; exact hlt)
      have HV := Lib.hid hv
      have hlt2 : val (s.data.toList.take k) < 72057594037927936 := by
        have h1 := val_small s.data.toList k
        have h2 : 256 ^ k ≤ 256 ^ 7 := Nat.pow_le_pow_right (by omega) (by omega)
        omega
      generalize s.data.toList.getD k 0 = c at *
      have hb := byte_lt c
      have hor : bits .or .u64 ((val (s.data.toList.take k) : Nat) * 256 : Int) (c.toNat : Int) = ((256 * val (s.data.toList.take k) + c.toNat : Nat) : Int) := by
        have hc2 : c.toNat < 256 := c.toNat_lt
        have e := u64_or_nat (val (s.data.toList.take k) * 256) c.toNat (by omega) (by omega)
        have e2 : (val (s.data.toList.take k) * 256) ||| c.toNat = 256 * val (s.data.toList.take k) + c.toNat := by
          have h := Nat.two_pow_add_eq_or_of_lt (i := 8) (b := c.toNat) (by simpa using hc2) (val (s.data.toList.take k))
          rw [← show 2 ^ 8 * val (s.data.toList.take k) = val (s.data.toList.take k) * 256 by omega, ← h]
        rw [e2] at e
        simpa using e
      clear hv hconv
      generalize val (s.data.toList.take k) = m at *
      go_wp2_with fail
      go_round
      case rel => exact ⟨k + 1, by omega, by go_num, by rw [HV.out]; go_num⟩
      case measure => simp [intOf]; omega
    · obtain rfl : k = s.size := by omega
      have ht : s.data.toList.take s.size = s.data.toList := List.take_of_length_le (by rw [HL.out]; omega)
      have HT := Lib.hid ht
      clear ht hconv
      go_wp2_with fail
      go_ret
      exact ⟨by show Ending.returned (Value.int .u64 ((val (s.data.toList.take s.size) : Nat) : Int)) = _; rw [HT.out], HB.out⟩

/-- A string's size, of a slot. -/
def strSz : Value → Nat
  | .string t => t.size
  | _ => 0
theorem S_head (c : UInt8) (l : List UInt8) (h : 0 < (S (c :: l)).size) : (S (c :: l))[0] = c := rfl

set_option maxRecDepth 100000 in
/-- trimLeftByte: what is left behind the noughts. -/
theorem trim_any (s : ByteArray) (hs : s.size ≤ maxLen) (w : World) :
    Calls Tryd.prog 24 #[.string s, .int .u8 0] w fun e w' => e = .returned (.string (S (s.data.toList.dropWhile (· == 0)))) ∧ w = w' := by
  unfold maxLen at hs
  have HL := Lib.hid (list_size s)
  have HS := Lib.hid hs
  go_enter Tryd.func24, Tryd.ntmps24
  go_wp2_with fail
  go_loop [0] (fun x => ∃ l : List UInt8, l.length ≤ s.size ∧ x = .string (S l) ∧ l.dropWhile (· == 0) = s.data.toList.dropWhile (· == 0)) (fun x => strSz x)
  case atStart => exact ⟨s.data.toList, by rw [HL.out]; omega, by rw [S_list], rfl⟩
  case round =>
    obtain ⟨l, hl, rfl, hd⟩ := hrel
    have HD := Lib.hid hd
    clear hd
    have hz := S_size l
    cases l with
    | nil =>
      have hz0 : (S []).size = 0 := rfl
      go_wp2_with fail
      go_ret
      exact ⟨by rw [← HD.out]; rfl, rfl⟩
    | cons c l =>
      have hpos : 0 < (S (c :: l)).size := by rw [hz]; simp
      have hlt : (S (c :: l)).size ≤ 9223372036854775807 := by rw [hz]; omega
      have hl2 : (l.length : Int) + 1 ≤ 9223372036854775807 := by simp at hl; omega
      by_cases hc : c = 0
      · have hb : ((((S (c :: l))[0]).toNat : Int) == 0) = true := by rw [S_head, hc]; rfl
        subst hc
        have hx : (S ((0 : UInt8) :: l)).extract 1 (l.length + 1) = S l := by rw [S_extract, S_toList]; simp
        go_wp2_with fail
        go_round
        case rel => exact ⟨l, by simp at hl; omega, rfl, by rw [← HD.out]; simp⟩
        case measure => show (S l).size < (S ((0 : UInt8) :: l)).size; rw [hz, S_size]; simp
      · have hb : ((((S (c :: l))[0]).toNat : Int) == 0) = false := by
          rw [S_head, beq_eq_false_iff_ne]; intro e; apply hc; apply UInt8.toNat_inj.1; simpa using e
        have hdw : (c :: l).dropWhile (· == 0) = c :: l := by simp [hc]
        have HDW := Lib.hid hdw
        clear hdw
        go_wp2_with fail
        go_ret
        exact ⟨by rw [← HD.out, HDW.out]; rfl, rfl⟩

/-- Are these all noughts? -/
def zerosB (l : List UInt8) : Bool := l.all (· == 0)
theorem dropZ (l : List UInt8) : (l.dropWhile (· == 0) = []) ↔ zerosB l = true := by
  unfold zerosB
  induction l with
  | nil => simp
  | cons c l ih =>
    by_cases h : c = 0
    · subst h; simpa using ih
    · simp [h]

set_option maxRecDepth 100000 in
/-- TrimLeft of noughts. -/
theorem trimLeft_any (s : ByteArray) (hs : s.size ≤ maxLen) (w : World) :
    Calls Tryd.prog 21 #[.string s, .string ⟨#[0]⟩] w fun e w' => e = .returned (.string (S (s.data.toList.dropWhile (· == 0)))) ∧ w = w' := by
  have h := Lib.hid (trim_any s hs w)
  have HS := S_list s
  clear hs
  by_cases h0 : s.data.toList = []
  · have h1 : s.toList.isEmpty = true := by rw [ByteArray.toList_eq, h0]; rfl
    have hd : s = S (s.data.toList.dropWhile (· == 0)) := by rw [h0]; rw [← HS, h0]; rfl
    have HD := Lib.hid hd
    clear HS h hd
    go_enter Tryd.func21, Tryd.ntmps21
    go_wp2_with fail
    go_ret
    exact ⟨by show Ending.returned (Value.string s) = _; rw [← HD.out], rfl⟩
  · have h1 : s.toList.isEmpty = false := by rw [ByteArray.toList_eq]; cases h2 : s.data.toList with | nil => exact absurd h2 h0 | cons _ _ => rfl
    clear h0
    have HS2 := Lib.hid HS
    clear HS
    go_enter Tryd.func21, Tryd.ntmps21
    go_wp2_with fail
    refine h.out.mono ?_
    rintro e w' ⟨rfl, rfl⟩
    go_wp2_with fail
    go_ret
    exact ⟨rfl, rfl⟩

set_option maxRecDepth 100000 in
/-- zeros. -/
theorem zeros_any (s : ByteArray) (hs : s.size ≤ maxLen) (w : World) :
    Calls Tryd.prog 17 #[.string s] w fun e w' => e = .returned (.bool (zerosB s.data.toList)) ∧ w = w' := by
  have h := Lib.hid (trimLeft_any s hs w)
  have hd := dropZ s.data.toList
  generalize s.data.toList.dropWhile (· == 0) = l at *
  have hb : (S l).toList.isEmpty = zerosB s.data.toList := by
    rw [ByteArray.toList_eq, S_toList, Bool.eq_iff_iff, ← hd]; simp
  generalize zerosB s.data.toList = b at *
  clear hd
  have HB := Lib.hid hb
  clear hb hs
  go_enter Tryd.func17, Tryd.ntmps17
  go_wp2_with fail
  refine h.out.mono ?_
  rintro e w' ⟨rfl, rfl⟩
  go_wp2_with fail
  go_ret
  exact ⟨congrArg (fun v => Ending.returned (Value.bool v)) HB.out, rfl⟩


set_option maxRecDepth 100000 in
/-- Sectors. -/
theorem sectors_any (n : Int) (w : World) :
    Calls Tryd.prog 7 #[.int .i64 n] w fun e w' => e = .returned (.int .i64 (secs n : Nat)) ∧ w = w' := by
  unfold secs
  by_cases h1 : n < 0
  · rw [if_pos (Or.inl h1)]
    go_enter Tryd.func7, Tryd.ntmps7
    go_wp2_with fail
    go_ret
    exact ⟨rfl, rfl⟩
  · by_cases h2 : 1048576 < n
    · rw [if_pos (Or.inr h2)]
      have h1' : decide (n < 0) = false := by simpa using h1
      clear h1
      go_enter Tryd.func7, Tryd.ntmps7
      go_wp2_with fail
      go_ret
      exact ⟨rfl, rfl⟩
    · rw [if_neg (by omega)]
      obtain ⟨N, rfl⟩ := Int.eq_ofNat_of_zero_le (show 0 ≤ n by omega)
      rw [Int.toNat_natCast]
      have h3 : N ≤ 1048576 := by omega
      clear h1 h2
      go_enter Tryd.func7, Tryd.ntmps7
      go_wp2_with fail
      go_ret
      have hKN : (21 + (N : Int) + 64 - 1) / 64 = (((N + 84) / 64 : Nat) : Int) := by omega
      exact ⟨congrArg (fun v => Ending.returned (Value.int .i64 v)) hKN, rfl⟩

end Go.Proofs.YtndnfalkpkbpjaaDoor.Fr
