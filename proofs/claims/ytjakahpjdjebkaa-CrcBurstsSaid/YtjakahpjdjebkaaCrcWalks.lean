/-
  The walks over package crc and the document's own answer for it: each function by its contract, for every argument.
-/
import Derived.Test.YtjakahpjdjebkaaRows
import Derived.Test.YtjakahpjdjebkaaCrcPure
import Derived.WalkKit
import Derived.WalkSpells
import Derived.WalkLawsBesides
import Derived.Lib.Hide
namespace Go.Proofs.Ytjakahpjdjebkaa.Crc
open Go.RowKit

/-- A word as the walk has it. -/
def V (r : BitVec 32) : Int := (r.toNat : Int)
/-- A number as a word. -/
def B (x : Int) : BitVec 32 := BitVec.ofInt 32 x

theorem B_V (r : BitVec 32) : B (V r) = r := by
  unfold B V
  apply BitVec.eq_of_toNat_eq
  rw [BitVec.ofInt_natCast]
  simp
theorem V_ge (r : BitVec 32) : 0 ≤ V r := by unfold V; omega
theorem V_lt (r : BitVec 32) : V r < 4294967296 := by
  unfold V; have := r.isLt; omega
theorem B_nat (x : Int) (h0 : 0 ≤ x) (h1 : x < 4294967296) : (B x).toNat = x.toNat := by
  obtain ⟨n, rfl⟩ := Int.eq_ofNat_of_zero_le h0
  unfold B
  rw [BitVec.ofInt_natCast]
  simp
  omega
theorem V_B (x : Int) (h0 : 0 ≤ x) (h1 : x < 4294967296) : V (B x) = x := by
  unfold V; rw [B_nat x h0 h1]; omega
/-- It fits 32 bits. (Closed, so that the walk doesn't meet the numeral.) -/
def W32 (x : Int) : Prop := 0 ≤ x ∧ x < 4294967296
theorem V_w (r : BitVec 32) : W32 (V r) := ⟨V_ge r, V_lt r⟩
theorem V_inj (a b : BitVec 32) (h : V a = V b) : a = b := by
  rw [← B_V a, ← B_V b, h]
theorem beq_V (a b : BitVec 32) : (V a == V b) = (a == b) := by
  rw [Bool.eq_iff_iff, beq_iff_eq, beq_iff_eq]
  exact ⟨V_inj a b, fun h => by rw [h]⟩
theorem xor_V (x y : Int) : bits .xor .u32 x y = V (B x ^^^ B y) := by
  unfold bits V B
  have h : (BitVec.ofInt 32 x ^^^ BitVec.ofInt 32 y).toNat < 2 ^ 32 := (BitVec.ofInt 32 x ^^^ BitVec.ofInt 32 y).isLt
  show IntKind.u32.wrap ((BitVec.ofInt 32 x ^^^ BitVec.ofInt 32 y).toNat : Int) = _
  rw [IntKind.wrap_u32]
  omega
theorem W32_xor (x y : Int) : W32 (bits .xor .u32 x y) := by rw [xor_V]; exact V_w _
theorem odd_B (x : Int) (h0 : 0 ≤ x) (h1 : x < 4294967296) : (B x).getLsbD 0 = decide (x % 2 = 1) := by
  show (B x).toNat.testBit 0 = _
  rw [B_nat x h0 h1, Nat.testBit_zero]
  rw [Bool.eq_iff_iff]; simp; omega
theorem half_B (x : Int) (h0 : 0 ≤ x) (h1 : x < 4294967296) : B (x / 2) = B x >>> 1 := by
  apply BitVec.eq_of_toNat_eq
  rw [B_nat _ (by omega) (by omega), BitVec.toNat_ushiftRight, B_nat x h0 h1, Nat.shiftRight_eq_div_pow]
  omega
theorem and_one (x : Int) (h0 : 0 ≤ x) (h1 : x < 4294967296) : bits .and .u32 x 1 = x % 2 := by
  rw [u32_and x 1 h0 h1 (by omega) (by omega)]
  simp [Nat.and_one_is_mod]
  omega

/-- crc.shift: one step. -/
theorem shift_any (x : Int) (hx32 : W32 x) (w : World) :
    Calls Try.prog 18 #[.int .u32 x] w fun e w' => e = .returned (.int .u32 (V (stp (B x)))) ∧ w = w' := by
  obtain ⟨h0, h1⟩ := hx32
  have ha := and_one x h0 h1
  have hb := odd_B x h0 h1
  have hh := half_B x h0 h1
  by_cases ho : x % 2 = 1
  · have hs : V (stp (B x)) = bits .xor .u32 (x / 2) 2197175160 := by
      rw [xor_V]; unfold stp; rw [hb, hh]; simp [ho, poly, B]
    have ht : (bits .and .u32 x 1 == 1) = true := by rw [ha]; simp [ho]
    have HS := Lib.hid hs
    clear hs ha hb hh h1
    go_enter Try.func18, Try.ntmps18
    go_wp2
    go_ret
    rw [HS.out]
    exact ⟨rfl, rfl⟩
  · have hs : V (stp (B x)) = x / 2 := by
      unfold stp; rw [hb, ← hh]; simp [ho]; exact V_B _ (by omega) (by omega)
    have ht : (bits .and .u32 x 1 == 1) = false := by rw [ha]; simp [ho]
    have HS := Lib.hid hs
    clear hs ha hb hh h1
    go_enter Try.func18, Try.ntmps18
    go_wp2
    go_ret
    rw [HS.out]
    exact ⟨rfl, rfl⟩

/-- crc.shiftByte: eight steps. -/
theorem shiftByte_any (x : Int) (hx32 : W32 x) (w : World) :
    Calls Try.prog 14 #[.int .u32 x] w fun e w' => e = .returned (.int .u32 (V (it 8 (B x)))) ∧ w = w' := by
  have hx : x = V (it 0 (B x)) := (V_B x hx32.1 hx32.2).symm
  have HX := Lib.hid hx
  clear hx
  go_enter Try.func14, Try.ntmps14
  go_wp2
  go_loop [0, 3] (fun r i => ∃ k : Nat, k ≤ 8 ∧ i = .int .i64 k ∧ r = .int .u32 (V (it k (B x)))) (fun _ i => 8 - (intOf i).toNat)
  case atStart => exact ⟨0, by omega, rfl, by rw [← HX.out]⟩
  case round =>
    obtain ⟨k, hk, rfl, rfl⟩ := hrel
    have g0 := V_w (it k (B x))
    by_cases hlt : k < 8
    · go_wp2_with (go_at_call 18; refine (shift_any _ g0 _).mono ?_; rintro e w' ⟨rfl, rfl⟩)
      go_round
      case rel => exact ⟨k + 1, by omega, by go_num, by rw [B_V]; rfl⟩
      case measure => simp [intOf]; omega
    · go_wp2
      go_ret
      obtain rfl : k = 8 := by omega
      exact ⟨rfl, rfl⟩

set_option maxRecDepth 100000 in
/-- The document's move: one step. -/
theorem move_any (x : Int) (hx32 : W32 x) (w : World) :
    Calls Try.prog 15 #[.int .u32 x] w fun e w' => e = .returned (.int .u32 (V (stp (B x)))) ∧ w = w' := by
  obtain ⟨h0, h1⟩ := hx32
  have hb := odd_B x h0 h1
  have hh := half_B x h0 h1
  by_cases ho : x % 2 = 1
  · have hs : V (stp (B x)) = bits .xor .u32 (x / 2) 2197175160 := by
      rw [xor_V]; unfold stp; rw [hb, hh]; simp [ho, poly, B]
    have ht : (x % 2 == 1) = true := by simp [ho]
    have HS := Lib.hid hs
    clear hs hb hh ho
    go_enter Try.func15, Try.ntmps15
    go_wp2
    go_ret
    rw [HS.out]
    exact ⟨rfl, rfl⟩
  · have hs : V (stp (B x)) = x / 2 := by
      unfold stp; rw [hb, ← hh]; simp [ho]; exact V_B _ (by omega) (by omega)
    have ht : (x % 2 == 1) = false := by simp [ho]
    have HS := Lib.hid hs
    clear hs hb hh ho
    go_enter Try.func15, Try.ntmps15
    go_wp2
    go_ret
    rw [HS.out]
    exact ⟨rfl, rfl⟩

/-- The test of bit 31 - k of a factor, as the walk has it. -/
theorem bit_at (x : Int) (h0 : 0 ≤ x) (h1 : x < 4294967296) (j : Nat) : (bits .and .u32 (x / 2 ^ j) 1 == 1) = (B x).getLsbD j := by
  obtain ⟨n, rfl⟩ := Int.eq_ofNat_of_zero_le h0
  have hp : ((n : Int) / 2 ^ j) = ((n / 2 ^ j : Nat) : Int) := by simp
  have hl : n / 2 ^ j ≤ n := Nat.div_le_self _ _
  generalize hq : n / 2 ^ j = q at *
  rw [hp, and_one _ (by omega) (by omega)]
  show _ = (B (n : Int)).toNat.testBit j
  rw [B_nat _ h0 h1]
  simp only [Int.toNat_natCast]
  rw [Nat.testBit_eq_decide_div_mod_eq, hq, Bool.eq_iff_iff]
  simp
  omega

/-- crc.times: the product. -/
theorem times_any (x y : Int) (hx32 : W32 x) (hy32 : W32 y) (w : World) :
    Calls Try.prog 16 #[.int .u32 x, .int .u32 y] w fun e w' => e = .returned (.int .u32 (V (times (B x) (B y)))) ∧ w = w' := by
  have hy : y = V (it 0 (B y)) := (V_B y hy32.1 hy32.2).symm
  have HY := Lib.hid hy
  clear hy
  go_enter Try.func16, Try.ntmps16
  go_wp2
  go_loop [1, 5, 6, 7] (fun b p z i => ∃ k : Nat, k ≤ 32 ∧ i = .int .i64 k ∧ b = .int .u32 (V (it k (B y))) ∧ p = .int .u32 (V (tm (B x) (B y) k))) (fun _ _ _ i => 32 - (intOf i).toNat)
  case atStart => exact ⟨0, by omega, rfl, by rw [← HY.out], rfl⟩
  case round =>
    obtain ⟨k, hk, rfl, rfl, rfl⟩ := hrel
    have g0 := V_w (it k (B y))
    by_cases hlt : k < 32
    · have hbit := bit_at x hx32.1 hx32.2 (31 - k)
      have hx0 := hx32.1
      cases hb : (B x).getLsbD (31 - k)
      all_goals
        rw [hb] at hbit
        have HB := Lib.hid hb
        clear hb
        go_wp2_with (go_at_call 18; refine (shift_any _ g0 _).mono ?_; rintro e w' ⟨rfl, rfl⟩)
        go_round
        case rel => exact ⟨k + 1, by omega, by go_num, by rw [B_V]; rfl, by first | (rw [xor_V, B_V, B_V]; simp [tm, HB.out]) | simp [tm, HB.out]⟩
        case measure => simp [intOf]; omega
    · go_wp2
      go_ret
      obtain rfl : k = 32 := by omega
      exact ⟨rfl, rfl⟩

/-- Bits of a count, as the walk has them. -/
theorem odd64 (n : Nat) : (bits .and .i64 (n : Int) 1 == 1) = decide (n % 2 = 1) := by
  have e : bits .and .i64 (n : Int) 1 = ((n % 2 : Nat) : Int) := by
    unfold bits
    show IntKind.i64.wrap ((BitVec.ofInt 64 (n : Int) &&& BitVec.ofInt 64 1).toNat : Int) = _
    rw [BitVec.ofInt_natCast]
    have h1 : (BitVec.ofNat 64 n &&& BitVec.ofInt 64 1).toNat = n % 2 := by
      rw [BitVec.toNat_and]
      have : (BitVec.ofInt 64 1).toNat = 1 := by decide
      rw [this, Nat.and_one_is_mod]
      simp
    show IntKind.i64.wrap ((BitVec.ofNat 64 n &&& BitVec.ofInt 64 1).toNat : Int) = _
    rw [h1, IntKind.wrap_i64]
    omega
  rw [e, Bool.eq_iff_iff]
  simp
  omega

theorem times_pw (j k : Nat) : times (it j one) (it k one) = it (j + k) one := by
  rw [times_it, ← it_add, Nat.add_comm]

theorem x8_one : B 8388608 = it 8 one := by decide +kernel

set_option maxRecDepth 100000 in
/-- crc.power: what so many bytes' shift multiplies by. -/
theorem power_any (n : Int) (h1 : n < 9223372036854775808) (w : World) :
    Calls Try.prog 17 #[.int .i64 n] w fun e w' => e = .returned (.int .u32 (V (it (8 * n.toNat) one))) ∧ w = w' := by
  by_cases hn : 0 < n
  · obtain ⟨N, rfl⟩ := Int.eq_ofNat_of_zero_le (Int.le_of_lt hn)
    simp only [Int.toNat_natCast]
    go_enter Try.func17, Try.ntmps17
    go_wp2
    go_loop [0, 3, 4] (fun n p q => ∃ m a b : Nat, m ≤ N ∧ n = .int .i64 m ∧ p = .int .u32 (V (it (8 * a) one)) ∧ q = .int .u32 (V (it (8 * b) one)) ∧ a + b * m = N) (fun n _ _ => (intOf n).toNat)
    case atStart => exact ⟨N, 0, 1, by omega, rfl, congrArg (Value.int .u32) (by decide +kernel), congrArg (Value.int .u32) (by decide +kernel), by omega⟩
    case round =>
      obtain ⟨m, a, b, hm, rfl, rfl, rfl, hs⟩ := hrel
      have HS := Lib.hid hs
      clear hs
      by_cases hlt : 0 < m
      · have ho := odd64 m
        have ga := V_w (it (8 * a) one)
        have gb := V_w (it (8 * b) one)
        have hm2 : m = 2 * (m / 2) + m % 2 := by omega
        have HM := Lib.hid hm2
        clear hm2
        by_cases hb : m % 2 = 1
        · have ho' : (bits .and .i64 (m : Int) 1 == 1) = true := by rw [ho]; simp [hb]
          have HB := Lib.hid hb
          clear ho hb
          go_wp2_with (go_at_call 16; refine (times_any _ _ (V_w _) (V_w _) _).mono ?_; rintro e w' ⟨rfl, rfl⟩)
          go_round
          case rel =>
            refine ⟨m / 2, a + b, 2 * b, by omega, by go_num, ?_, ?_, ?_⟩
            · rw [B_V, B_V, times_pw, Nat.mul_add]
            · rw [B_V, times_pw]; congr 3; omega
            · have h1 := HS.out
              have h2 := HM.out
              have h3 := HB.out
              rw [h3] at h2
              generalize m / 2 = u at *
              subst h2
              rw [Nat.mul_add, Nat.mul_one, ← Nat.mul_assoc] at h1
              rw [Nat.mul_comm 2 b]
              omega
          case measure => simp [intOf]; omega
        · have ho' : (bits .and .i64 (m : Int) 1 == 1) = false := by rw [ho]; simp [hb]
          have HB := Lib.hid hb
          clear ho hb
          go_wp2_with (go_at_call 16; refine (times_any _ _ (V_w _) (V_w _) _).mono ?_; rintro e w' ⟨rfl, rfl⟩)
          go_round
          case rel =>
            refine ⟨m / 2, a, 2 * b, by omega, by go_num, rfl, ?_, ?_⟩
            · rw [B_V, times_pw]; congr 3; omega
            · have h1 := HS.out
              have h2 := HM.out
              have h3 := HB.out
              rw [show m % 2 = 0 by omega] at h2
              generalize m / 2 = u at *
              subst h2
              rw [Nat.add_zero, ← Nat.mul_assoc] at h1
              rw [Nat.mul_comm 2 b]
              omega
          case measure => simp [intOf]; omega
      · go_wp2
        go_ret
        have : m = 0 := by omega
        subst this
        have := HS.out
        simp at this
        subst this
        exact ⟨rfl, rfl⟩
  · have hz : n.toNat = 0 := by omega
    rw [hz]
    clear hz
    go_enter Try.func17, Try.ntmps17
    go_wp2
    go_loop [0, 3, 4] (fun m p q => m = .int .i64 n ∧ p = .int .u32 2147483648) (fun _ _ _ => 0)
    case atStart => exact ⟨rfl, rfl⟩
    case round =>
      obtain ⟨rfl, rfl⟩ := hrel
      go_wp2
      go_ret
      exact ⟨congrArg (fun v => Ending.returned (Value.int .u32 v)) (by decide +kernel), rfl⟩

/-- What Join answers. -/
def joinV (a b : BitVec 32) (n : Int) : BitVec 32 := it (8 * n.toNat) a ^^^ b

/-- crc.Join. -/
theorem join_any (x y n : Int) (hx32 : W32 x) (hn : n < 9223372036854775808) (w : World) :
    Calls Try.prog 12 #[.int .u32 x, .int .u32 y, .int .i64 n] w fun e w' => e = .returned (.int .u32 (V (joinV (B x) (B y) n))) ∧ w = w' := by
  have HN := Lib.hid hn
  clear hn
  go_enter Try.func12, Try.ntmps12
  go_wp2_with (first | (go_at_call 17; refine (power_any _ HN.out _).mono ?_; rintro e w' ⟨rfl, rfl⟩) | (go_at_call 16; refine (times_any _ _ hx32 (V_w _) _).mono ?_; rintro e w' ⟨rfl, rfl⟩))
  go_ret
  exact ⟨by rw [B_V, times_it, xor_V, B_V]; rfl, rfl⟩

/-- The document's Join. -/
theorem refJoin_any (x y n : Int) (hx32 : W32 x) (hn : n ≤ 20000) (w : World) :
    Calls Try.prog 13 #[.int .u32 x, .int .u32 y, .int .i64 n] w fun e w' => e = .returned (.int .u32 (V (joinV (B x) (B y) n))) ∧ w = w' := by
  have hx : x = V (it (8 * 0) (B x)) := (V_B x hx32.1 hx32.2).symm
  have HX := Lib.hid hx
  clear hx
  go_enter Try.func13, Try.ntmps13
  go_wp2
  go_loop [0, 7, 8] (fun r i z => ∃ k : Nat, (k : Int) ≤ n.toNat ∧ i = .int .i64 k ∧ r = .int .u32 (V (it (8 * k) (B x)))) (fun _ i _ => n.toNat - (intOf i).toNat)
  case atStart => exact ⟨0, by omega, rfl, by rw [← HX.out]⟩
  case round =>
    obtain ⟨k, hk, rfl, rfl⟩ := hrel
    by_cases hlt : (k : Int) < n
    · go_wp2
      go_loop [0, 8] (fun r j => ∃ m : Nat, m ≤ 8 ∧ j = .int .i64 m ∧ r = .int .u32 (V (it (m + 8 * k) (B x)))) (fun _ j => 8 - (intOf j).toNat)
      case atStart => exact ⟨0, by omega, rfl, by rw [Nat.zero_add]⟩
      case round =>
        obtain ⟨m, hm, rfl, rfl⟩ := hrel
        by_cases hlt8 : m < 8
        · go_wp2_with (go_at_call 15; refine (move_any _ (V_w _) _).mono ?_; rintro e w' ⟨rfl, rfl⟩)
          go_round
          case rel => exact ⟨m + 1, by omega, by go_num, by rw [B_V, Nat.succ_add]; rfl⟩
          case measure => simp [intOf]; omega
        · go_wp2
          go_round
          case rel =>
            obtain rfl : m = 8 := by omega
            exact ⟨k + 1, by omega, by go_num, by rw [show 8 + 8 * k = 8 * (k + 1) by omega]⟩
          case measure => simp [intOf]; omega
    · go_wp2
      go_ret
      have hk2 : n.toNat = k := by omega
      refine ⟨?_, rfl⟩
      unfold joinV
      rw [hk2]
      refine Eq.trans ?_ (congrArg (fun v => Ending.returned (Value.int .u32 v)) (by rw [xor_V, B_V] : bits .xor .u32 (V (it (8 * k) (B x))) y = V (it (8 * k) (B x) ^^^ B y)))
      first | rfl | (rw [xor_V, B_V]; rfl)

/-- What '[]byte(s)' makes: one new row that holds the bytes. -/
theorem conv_bytes (w : World) (s : ByteArray) : ∃ (cap : Nat) (w2 : World),
    (convert 9 30 (.string s)).run Try.prog w = .ok (.slice (some ⟨w.heap.size, 0, none⟩) s.size cap) w2 ∧
    (∀ j, j < s.size → w2.cell? ⟨w.heap.size, j, none⟩ = some (.int .u8 ((s.data.toList.getD j 0).toNat : Int))) ∧ Below w.heap.size w w2 := by
  refine ⟨_, _, run_bytes_of_string w 9 30 5 s Try.underlying9 Try.underlying30 Try.underlying5, ?_, ((Below.refl _ _).drew).alloc (Nat.le_refl _) _⟩
  intro j hj
  generalize grownCap w s.size 0 5 = cap
  have h := bytesRow_at s cap j (by exact hj)
  have e : (w.drew.alloc (.cells (bytesRow s cap) 5 ((bytesRow s cap).size, (bytesRow s cap).size + 1))).heap[w.heap.size]? = some (.cells (bytesRow s cap) 5 ((bytesRow s cap).size, (bytesRow s cap).size + 1)) := by
    show (w.heap.push _)[w.heap.size]? = _
    simp
  simp only [World.cell?, e]
  rw [h]
  have hjd : j < s.data.size := hj
  simp [List.getD, Array.getElem?_eq_getElem hjd]

theorem byte_V (c : UInt8) : ((c.toNat : Nat) : Int) = V (wide c) := by
  unfold V wide
  have : c.toNat < 256 := c.toNat_lt
  simp
theorem byte_lt (c : UInt8) : ((c.toNat : Nat) : Int) < 256 := by
  have : c.toNat < 256 := c.toNat_lt
  omega
theorem go_take (r : BitVec 32) (l : List UInt8) (k : Nat) (h : k < l.length) : go r (l.take (k + 1)) = upd (go r (l.take k)) (l.getD k 0) := by
  rw [take_succ' l k h, go_snoc]
theorem not_V (r : BitVec 32) : bits .xor .u32 4294967295 (V r) = V (ones ^^^ r) := by
  rw [xor_V, B_V]; rfl

/-- crc.Sum. -/
theorem sum_any (s : ByteArray) (hs : s.size ≤ maxLen) (w : World) :
    Calls Try.prog 10 #[.string s] w fun e w' => e = .returned (.int .u32 (V (sum s.data.toList))) ∧ Below w.heap.size w w' := by
  obtain ⟨cap, w2, hconv, hcell, hbel⟩ := conv_bytes w s
  unfold maxLen at hs
  have hlen : s.data.toList.length = s.size := by simp
  have HL := Lib.hid hlen
  have HB := Lib.hid hbel
  have HC := Lib.hid hcell
  clear hlen hbel hcell
  go_enter Try.func10, Try.ntmps10
  go_wp2
  go_loop [3, 5, 9] (fun r c i => ∃ k : Nat, k ≤ s.size ∧ i = .int .i64 k ∧ r = .int .u32 (V (go ones (s.data.toList.take k)))) (fun _ _ i => s.size - (intOf i).toNat)
  case atStart => exact ⟨0, by omega, rfl, rfl⟩
  case round =>
    obtain ⟨k, hk, rfl, rfl⟩ := hrel
    by_cases hlt : k < s.size
    · have hc := HC.out k hlt
      have hb := byte_lt (s.data.toList.getD k 0)
      have hb0 : (0 : Int) ≤ ((s.data.toList.getD k 0).toNat : Int) := by omega
      have hg := go_take ones s.data.toList k (by rw [HL.out]; exact hlt)
      have HG := Lib.hid hg
      clear hg
      generalize hcv : s.data.toList.getD k 0 = c at *
      have HCV := Lib.hid hcv
      clear hcv
      clear hconv
      go_wp2_with (go_at_call 14; refine (shiftByte_any _ (W32_xor _ _) _).mono ?_; rintro e w' ⟨rfl, rfl⟩)
      go_round
      case rel => exact ⟨k + 1, by omega, by go_num, by rw [HG.out, xor_V, B_V, B_V, byte_V, B_V]; rfl⟩
      case measure => simp [intOf]; omega
    · clear hconv
      have hk2 : k = s.size := by omega
      subst hk2
      have ht : s.data.toList.take s.size = s.data.toList := List.take_of_length_le (by rw [HL.out]; omega)
      have HT := Lib.hid ht
      clear ht
      go_wp2
      go_ret
      refine ⟨?_, HB.out⟩
      refine congrArg (fun v => Ending.returned (Value.int .u32 v)) ?_
      show bits .xor .u32 4294967295 _ = _
      rw [HT.out, not_V]
      rfl

theorem sub_V (r : BitVec 32) : 4294967295 - V r = V (ones ^^^ r) := by
  have h : ones ^^^ r = ~~~ r := by
    have : ones = BitVec.allOnes 32 := by decide
    rw [this, BitVec.allOnes_xor]
  rw [h]
  unfold V
  rw [BitVec.toNat_not]
  have := r.isLt
  omega
theorem getElem_list (s : ByteArray) (k : Nat) (h : k < s.size) : s.data.toList.getD k 0 = s[k] := by
  have hd : k < s.data.size := h
  simp [List.getD, Array.getElem?_eq_getElem hd]
  rfl

set_option maxRecDepth 100000 in
/-- The document's Sum. -/
theorem refSum_any (s : ByteArray) (hs : s.size ≤ maxLen) (w : World) :
    Calls Try.prog 11 #[.string s] w fun e w' => e = .returned (.int .u32 (V (sum s.data.toList))) ∧ w = w' := by
  unfold maxLen at hs
  have hlen : s.data.toList.length = s.size := by simp
  have HL := Lib.hid hlen
  clear hlen
  go_enter Try.func11, Try.ntmps11
  go_wp2
  go_loop [3, 4, 5] (fun r i z => ∃ k : Nat, k ≤ s.size ∧ i = .int .i64 k ∧ r = .int .u32 (V (go ones (s.data.toList.take k)))) (fun _ i _ => s.size - (intOf i).toNat)
  case atStart => exact ⟨0, by omega, rfl, rfl⟩
  case round =>
    obtain ⟨k, hk, rfl, rfl⟩ := hrel
    by_cases hlt : k < s.size
    · have hg := go_take ones s.data.toList k (by rw [HL.out]; exact hlt)
      rw [getElem_list s k hlt] at hg
      have HG := Lib.hid hg
      clear hg
      have hb := byte_lt s[k]
      go_wp2
      go_loop [3, 5] (fun r j => ∃ m : Nat, m ≤ 8 ∧ j = .int .i64 m ∧ r = .int .u32 (V (it m (go ones (s.data.toList.take k) ^^^ wide s[k])))) (fun _ j => 8 - (intOf j).toNat)
      case atStart => exact ⟨0, by omega, rfl, by rw [xor_V, B_V, byte_V, B_V]; rfl⟩
      case round =>
        obtain ⟨m, hm, rfl, rfl⟩ := hrel
        by_cases hlt8 : m < 8
        · go_wp2_with (go_at_call 15; refine (move_any _ (V_w _) _).mono ?_; rintro e w' ⟨rfl, rfl⟩)
          go_round
          case rel => exact ⟨m + 1, by omega, by go_num, by rw [B_V]; rfl⟩
          case measure => simp [intOf]; omega
        · go_wp2
          go_round
          case rel =>
            obtain rfl : m = 8 := by omega
            exact ⟨k + 1, by omega, by go_num, by rw [HG.out]; rfl⟩
          case measure => simp [intOf]; omega
    · have hk2 : k = s.size := by omega
      subst hk2
      have ht : s.data.toList.take s.size = s.data.toList := List.take_of_length_le (by rw [HL.out]; omega)
      have HT := Lib.hid ht
      clear ht
      have hw := V_w (go ones (s.data.toList.take s.size))
      go_wp2
      go_ret
      refine ⟨?_, rfl⟩
      refine congrArg (fun v => Ending.returned (Value.int .u32 v)) ?_
      show (4294967295 - V (go ones (s.data.toList.take s.size))) % 4294967296 = _
      rw [sub_V, HT.out, Int.emod_eq_of_lt (V_ge _) (V_lt _)]
      rfl

/-- The sum of a constant. -/
theorem sum_const (l : List UInt8) (n : Int) (h : V (sum l) = n) (hl : l.length ≤ 100) (w : World) :
    Calls Try.prog 10 #[.string ⟨l.toArray⟩] w fun e w' => e = .returned (.int .u32 n) ∧ Below w.heap.size w w' := by
  have hz : (ByteArray.mk l.toArray).size ≤ maxLen := by
    unfold maxLen
    have : (ByteArray.mk l.toArray).size = l.length := by show l.toArray.size = _; simp
    omega
  refine (sum_any ⟨l.toArray⟩ hz w).mono ?_
  rintro e w' ⟨rfl, hb⟩
  exact ⟨by rw [← h], hb⟩

theorem join_const (x y n : Int) (r : Int) (h : V (joinV (B x) (B y) n) = r) (hx : 0 ≤ x) (hx2 : x < 4294967296) (hn : n < 9223372036854775808) (w : World) :
    Calls Try.prog 12 #[.int .u32 x, .int .u32 y, .int .i64 n] w fun e w' => e = .returned (.int .u32 r) ∧ w = w' := by
  refine (join_any x y n ⟨hx, hx2⟩ hn w).mono ?_
  rintro e w' ⟨rfl, rfl⟩
  exact ⟨by rw [h], rfl⟩

/-- The chapter's examples. -/
theorem awake_any (w : World) :
    Calls Try.prog 9 #[] w fun e w' => e = .returned (.bool true) ∧ Below w.heap.size w w' := by
  go_enter Try.func9, Try.ntmps9
  go_wp2_with fail
  refine (sum_const [49, 50, 51, 52, 53, 54, 55, 56, 57] 3808858755 (by decide +kernel) (by decide) _).mono ?_
  rintro e w1 ⟨rfl, b1⟩
  have B1 := Lib.hid b1
  clear b1
  go_wp2_with fail
  refine (sum_const [49, 50, 51, 52] 4131058926 (by decide +kernel) (by decide) _).mono ?_
  rintro e w2 ⟨rfl, b2⟩
  have B2 := Lib.hid b2
  clear b2
  go_wp2_with fail
  refine (sum_const [53, 54, 55, 56, 57] 2209703384 (by decide +kernel) (by decide) _).mono ?_
  rintro e w3 ⟨rfl, b3⟩
  have B3 := Lib.hid b3
  clear b3
  go_wp2_with fail
  refine (join_const _ _ _ 3808858755 (by decide +kernel) (by omega) (by omega) (by omega) _).mono ?_
  rintro e w4 ⟨rfl, rfl⟩
  go_wp2_with fail
  go_ret
  exact ⟨rfl, B1.out.trans ((B2.out.trans (B3.out.mono B2.out.size)).mono B1.out.size)⟩

end Go.Proofs.Ytjakahpjdjebkaa.Crc
