/-
  The walks over crc.Sum, what it calls, and the document's own: each function by its contract, for every argument.
-/
import Derived.Test.YtndnfalkpkbpjaaDoorRows
import Derived.Test.YtndnfalkpkbpjaaDoorCrcPure
import Derived.WalkKit
import Derived.WalkSpells
import Derived.WalkLawsBesides
import Derived.Lib.Hide
namespace Go.Proofs.YtndnfalkpkbpjaaDoor.Crc
open Go.RowKit

/-- A word as the walk has it. -/
def V (r : BitVec 32) : Int := (r.toNat : Int)
/-- A number as a word. -/
def B (x : Int) : BitVec 32 := BitVec.ofInt 32 x

theorem B_V (r : BitVec 32) : B (V r) = r := by
  unfold B V
  apply BitVec.eq_of_toNat_eq
  rw [BitVec.ofInt_natCast]
  simp
theorem V_ge (r : BitVec 32) : 0 ≤ V r := by unfold V; omega
theorem V_lt (r : BitVec 32) : V r < 4294967296 := by
  unfold V; have := r.isLt; omega
theorem B_nat (x : Int) (h0 : 0 ≤ x) (h1 : x < 4294967296) : (B x).toNat = x.toNat := by
  obtain ⟨n, rfl⟩ := Int.eq_ofNat_of_zero_le h0
  unfold B
  rw [BitVec.ofInt_natCast]
  simp
  omega
theorem V_B (x : Int) (h0 : 0 ≤ x) (h1 : x < 4294967296) : V (B x) = x := by
  unfold V; rw [B_nat x h0 h1]; omega
/-- It fits 32 bits. (Closed, so that the walk doesn't meet the numeral.) -/
def W32 (x : Int) : Prop := 0 ≤ x ∧ x < 4294967296
theorem V_w (r : BitVec 32) : W32 (V r) := ⟨V_ge r, V_lt r⟩
theorem V_inj (a b : BitVec 32) (h : V a = V b) : a = b := by
  rw [← B_V a, ← B_V b, h]
theorem beq_V (a b : BitVec 32) : (V a == V b) = (a == b) := by
  rw [Bool.eq_iff_iff, beq_iff_eq, beq_iff_eq]
  exact ⟨V_inj a b, fun h => by rw [h]⟩
theorem xor_V (x y : Int) : bits .xor .u32 x y = V (B x ^^^ B y) := by
  unfold bits V B
  have h : (BitVec.ofInt 32 x ^^^ BitVec.ofInt 32 y).toNat < 2 ^ 32 := (BitVec.ofInt 32 x ^^^ BitVec.ofInt 32 y).isLt
  show IntKind.u32.wrap ((BitVec.ofInt 32 x ^^^ BitVec.ofInt 32 y).toNat : Int) = _
  rw [IntKind.wrap_u32]
  omega
theorem W32_xor (x y : Int) : W32 (bits .xor .u32 x y) := by rw [xor_V]; exact V_w _
theorem odd_B (x : Int) (h0 : 0 ≤ x) (h1 : x < 4294967296) : (B x).getLsbD 0 = decide (x % 2 = 1) := by
  show (B x).toNat.testBit 0 = _
  rw [B_nat x h0 h1, Nat.testBit_zero]
  rw [Bool.eq_iff_iff]; simp; omega
theorem half_B (x : Int) (h0 : 0 ≤ x) (h1 : x < 4294967296) : B (x / 2) = B x >>> 1 := by
  apply BitVec.eq_of_toNat_eq
  rw [B_nat _ (by omega) (by omega), BitVec.toNat_ushiftRight, B_nat x h0 h1, Nat.shiftRight_eq_div_pow]
  omega
theorem and_one (x : Int) (h0 : 0 ≤ x) (h1 : x < 4294967296) : bits .and .u32 x 1 = x % 2 := by
  rw [u32_and x 1 h0 h1 (by omega) (by omega)]
  simp [Nat.and_one_is_mod]
  omega

/-- crc.shift: one step. -/
theorem shift_any (x : Int) (hx32 : W32 x) (w : World) :
    Calls Tryd.prog 28 #[.int .u32 x] w fun e w' => e = .returned (.int .u32 (V (stp (B x)))) ∧ w = w' := by
  obtain ⟨h0, h1⟩ := hx32
  have ha := and_one x h0 h1
  have hb := odd_B x h0 h1
  have hh := half_B x h0 h1
  by_cases ho : x % 2 = 1
  · have hs : V (stp (B x)) = bits .xor .u32 (x / 2) 2197175160 := by
      rw [xor_V]; unfold stp; rw [hb, hh]; simp [ho, poly, B]
    have ht : (bits .and .u32 x 1 == 1) = true := by rw [ha]; simp [ho]
    have HS := Lib.hid hs
    clear hs ha hb hh h1
    go_enter Tryd.func28, Tryd.ntmps28
    go_wp2
    go_ret
    rw [HS.out]
    exact ⟨rfl, rfl⟩
  · have hs : V (stp (B x)) = x / 2 := by
      unfold stp; rw [hb, ← hh]; simp [ho]; exact V_B _ (by omega) (by omega)
    have ht : (bits .and .u32 x 1 == 1) = false := by rw [ha]; simp [ho]
    have HS := Lib.hid hs
    clear hs ha hb hh h1
    go_enter Tryd.func28, Tryd.ntmps28
    go_wp2
    go_ret
    rw [HS.out]
    exact ⟨rfl, rfl⟩

/-- crc.shiftByte: eight steps. -/
theorem shiftByte_any (x : Int) (hx32 : W32 x) (w : World) :
    Calls Tryd.prog 23 #[.int .u32 x] w fun e w' => e = .returned (.int .u32 (V (it 8 (B x)))) ∧ w = w' := by
  have hx : x = V (it 0 (B x)) := (V_B x hx32.1 hx32.2).symm
  have HX := Lib.hid hx
  clear hx
  go_enter Tryd.func23, Tryd.ntmps23
  go_wp2
  go_loop [0, 3] (fun r i => ∃ k : Nat, k ≤ 8 ∧ i = .int .i64 k ∧ r = .int .u32 (V (it k (B x)))) (fun _ i => 8 - (intOf i).toNat)
  case atStart => exact ⟨0, by omega, rfl, by rw [← HX.out]⟩
  case round =>
    obtain ⟨k, hk, rfl, rfl⟩ := hrel
    have g0 := V_w (it k (B x))
    by_cases hlt : k < 8
    · go_wp2_with (go_at_call 28; refine (shift_any _ g0 _).mono ?_; rintro e w' ⟨rfl, rfl⟩)
      go_round
      case rel => exact ⟨k + 1, by omega, by go_num, by rw [B_V]; rfl⟩
      case measure => simp [intOf]; omega
    · go_wp2
      go_ret
      obtain rfl : k = 8 := by omega
      exact ⟨rfl, rfl⟩

set_option maxRecDepth 100000 in
/-- The document's move: one step. -/
theorem move_any (x : Int) (hx32 : W32 x) (w : World) :
    Calls Tryd.prog 20 #[.int .u32 x] w fun e w' => e = .returned (.int .u32 (V (stp (B x)))) ∧ w = w' := by
  obtain ⟨h0, h1⟩ := hx32
  have hb := odd_B x h0 h1
  have hh := half_B x h0 h1
  by_cases ho : x % 2 = 1
  · have hs : V (stp (B x)) = bits .xor .u32 (x / 2) 2197175160 := by
      rw [xor_V]; unfold stp; rw [hb, hh]; simp [ho, poly, B]
    have ht : (x % 2 == 1) = true := by simp [ho]
    have HS := Lib.hid hs
    clear hs hb hh ho
    go_enter Tryd.func20, Tryd.ntmps20
    go_wp2
    go_ret
    rw [HS.out]
    exact ⟨rfl, rfl⟩
  · have hs : V (stp (B x)) = x / 2 := by
      unfold stp; rw [hb, ← hh]; simp [ho]; exact V_B _ (by omega) (by omega)
    have ht : (x % 2 == 1) = false := by simp [ho]
    have HS := Lib.hid hs
    clear hs hb hh ho
    go_enter Tryd.func20, Tryd.ntmps20
    go_wp2
    go_ret
    rw [HS.out]
    exact ⟨rfl, rfl⟩

/-- What '[]byte(s)' makes: one new row that holds the bytes. -/
theorem conv_bytes (w : World) (s : ByteArray) : ∃ (cap : Nat) (w2 : World),
    (convert 9 43 (.string s)).run Tryd.prog w = .ok (.slice (some ⟨w.heap.size, 0, none⟩) s.size cap) w2 ∧
    (∀ j, j < s.size → w2.cell? ⟨w.heap.size, j, none⟩ = some (.int .u8 ((s.data.toList.getD j 0).toNat : Int))) ∧ Below w.heap.size w w2 := by
  refine ⟨_, _, run_bytes_of_string w 9 43 5 s Tryd.underlying9 Tryd.underlying43 Tryd.underlying5, ?_, ((Below.refl _ _).drew).alloc (Nat.le_refl _) _⟩
  intro j hj
  generalize grownCap w s.size 0 5 = cap
  have h := bytesRow_at s cap j (by exact hj)
  have e : (w.drew.alloc (.cells (bytesRow s cap) 5 ((bytesRow s cap).size, (bytesRow s cap).size + 1))).heap[w.heap.size]? = some (.cells (bytesRow s cap) 5 ((bytesRow s cap).size, (bytesRow s cap).size + 1)) := by
    show (w.heap.push _)[w.heap.size]? = _
    simp
  simp only [World.cell?, e]
  rw [h]
  have hjd : j < s.data.size := hj
  simp [List.getD, Array.getElem?_eq_getElem hjd]

theorem byte_V (c : UInt8) : ((c.toNat : Nat) : Int) = V (wide c) := by
  unfold V wide
  have : c.toNat < 256 := c.toNat_lt
  simp
theorem byte_lt (c : UInt8) : ((c.toNat : Nat) : Int) < 256 := by
  have : c.toNat < 256 := c.toNat_lt
  omega
theorem go_take (r : BitVec 32) (l : List UInt8) (k : Nat) (h : k < l.length) : go r (l.take (k + 1)) = upd (go r (l.take k)) (l.getD k 0) := by
  rw [take_succ' l k h, go_snoc]
theorem not_V (r : BitVec 32) : bits .xor .u32 4294967295 (V r) = V (ones ^^^ r) := by
  rw [xor_V, B_V]; rfl

/-- crc.Sum. -/
theorem sum_any (s : ByteArray) (hs : s.size ≤ maxLen) (w : World) :
    Calls Tryd.prog 19 #[.string s] w fun e w' => e = .returned (.int .u32 (V (sum s.data.toList))) ∧ Below w.heap.size w w' := by
  obtain ⟨cap, w2, hconv, hcell, hbel⟩ := conv_bytes w s
  unfold maxLen at hs
  have hlen : s.data.toList.length = s.size := by simp
  have HL := Lib.hid hlen
  have HB := Lib.hid hbel
  have HC := Lib.hid hcell
  clear hlen hbel hcell
  go_enter Tryd.func19, Tryd.ntmps19
  go_wp2
  go_loop [3, 5, 9] (fun r c i => ∃ k : Nat, k ≤ s.size ∧ i = .int .i64 k ∧ r = .int .u32 (V (go ones (s.data.toList.take k)))) (fun _ _ i => s.size - (intOf i).toNat)
  case atStart => exact ⟨0, by omega, rfl, rfl⟩
  case round =>
    obtain ⟨k, hk, rfl, rfl⟩ := hrel
    by_cases hlt : k < s.size
    · have hc := HC.out k hlt
      have hb := byte_lt (s.data.toList.getD k 0)
      have hb0 : (0 : Int) ≤ ((s.data.toList.getD k 0).toNat : Int) := by omega
      have hg := go_take ones s.data.toList k (by rw [HL.out]; exact hlt)
      have HG := Lib.hid hg
      clear hg
      generalize hcv : s.data.toList.getD k 0 = c at *
      have HCV := Lib.hid hcv
      clear hcv
      clear hconv
      go_wp2_with (go_at_call 23; refine (shiftByte_any _ (W32_xor _ _) _).mono ?_; rintro e w' ⟨rfl, rfl⟩)
      go_round
      case rel => exact ⟨k + 1, by omega, by go_num, by rw [HG.out, xor_V, B_V, B_V, byte_V, B_V]; rfl⟩
      case measure => simp [intOf]; omega
    · clear hconv
      have hk2 : k = s.size := by omega
      subst hk2
      have ht : s.data.toList.take s.size = s.data.toList := List.take_of_length_le (by rw [HL.out]; omega)
      have HT := Lib.hid ht
      clear ht
      go_wp2
      go_ret
      refine ⟨?_, HB.out⟩
      refine congrArg (fun v => Ending.returned (Value.int .u32 v)) ?_
      show bits .xor .u32 4294967295 _ = _
      rw [HT.out, not_V]
      rfl

theorem sub_V (r : BitVec 32) : 4294967295 - V r = V (ones ^^^ r) := by
  have h : ones ^^^ r = ~~~ r := by
    have : ones = BitVec.allOnes 32 := by decide
    rw [this, BitVec.allOnes_xor]
  rw [h]
  unfold V
  rw [BitVec.toNat_not]
  have := r.isLt
  omega
theorem getElem_list (s : ByteArray) (k : Nat) (h : k < s.size) : s.data.toList.getD k 0 = s[k] := by
  have hd : k < s.data.size := h
  simp [List.getD, Array.getElem?_eq_getElem hd]
  rfl

set_option maxRecDepth 100000 in
/-- The document's Sum. -/
theorem refSum_any (s : ByteArray) (hs : s.size ≤ maxLen) (w : World) :
    Calls Tryd.prog 15 #[.string s] w fun e w' => e = .returned (.int .u32 (V (sum s.data.toList))) ∧ w = w' := by
  unfold maxLen at hs
  have hlen : s.data.toList.length = s.size := by simp
  have HL := Lib.hid hlen
  clear hlen
  go_enter Tryd.func15, Tryd.ntmps15
  go_wp2
  go_loop [3, 4, 5] (fun r i z => ∃ k : Nat, k ≤ s.size ∧ i = .int .i64 k ∧ r = .int .u32 (V (go ones (s.data.toList.take k)))) (fun _ i _ => s.size - (intOf i).toNat)
  case atStart => exact ⟨0, by omega, rfl, rfl⟩
  case round =>
    obtain ⟨k, hk, rfl, rfl⟩ := hrel
    by_cases hlt : k < s.size
    · have hg := go_take ones s.data.toList k (by rw [HL.out]; exact hlt)
      rw [getElem_list s k hlt] at hg
      have HG := Lib.hid hg
      clear hg
      have hb := byte_lt s[k]
      go_wp2
      go_loop [3, 5] (fun r j => ∃ m : Nat, m ≤ 8 ∧ j = .int .i64 m ∧ r = .int .u32 (V (it m (go ones (s.data.toList.take k) ^^^ wide s[k])))) (fun _ j => 8 - (intOf j).toNat)
      case atStart => exact ⟨0, by omega, rfl, by rw [xor_V, B_V, byte_V, B_V]; rfl⟩
      case round =>
        obtain ⟨m, hm, rfl, rfl⟩ := hrel
        by_cases hlt8 : m < 8
        · go_wp2_with (go_at_call 20; refine (move_any _ (V_w _) _).mono ?_; rintro e w' ⟨rfl, rfl⟩)
          go_round
          case rel => exact ⟨m + 1, by omega, by go_num, by rw [B_V]; rfl⟩
          case measure => simp [intOf]; omega
        · go_wp2
          go_round
          case rel =>
            obtain rfl : m = 8 := by omega
            exact ⟨k + 1, by omega, by go_num, by rw [HG.out]; rfl⟩
          case measure => simp [intOf]; omega
    · have hk2 : k = s.size := by omega
      subst hk2
      have ht : s.data.toList.take s.size = s.data.toList := List.take_of_length_le (by rw [HL.out]; omega)
      have HT := Lib.hid ht
      clear ht
      have hw := V_w (go ones (s.data.toList.take s.size))
      go_wp2
      go_ret
      refine ⟨?_, rfl⟩
      refine congrArg (fun v => Ending.returned (Value.int .u32 v)) ?_
      show (4294967295 - V (go ones (s.data.toList.take s.size))) % 4294967296 = _
      rw [sub_V, HT.out, Int.emod_eq_of_lt (V_ge _) (V_lt _)]
      rfl

/-- The sum of a constant. -/
theorem sum_const (l : List UInt8) (n : Int) (h : V (sum l) = n) (hl : l.length ≤ 100) (w : World) :
    Calls Tryd.prog 19 #[.string ⟨l.toArray⟩] w fun e w' => e = .returned (.int .u32 n) ∧ Below w.heap.size w w' := by
  have hz : (ByteArray.mk l.toArray).size ≤ maxLen := by
    unfold maxLen
    have : (ByteArray.mk l.toArray).size = l.length := by show l.toArray.size = _; simp
    omega
  refine (sum_any ⟨l.toArray⟩ hz w).mono ?_
  rintro e w' ⟨rfl, hb⟩
  exact ⟨by rw [← h], hb⟩

end Go.Proofs.YtndnfalkpkbpjaaDoor.Crc
