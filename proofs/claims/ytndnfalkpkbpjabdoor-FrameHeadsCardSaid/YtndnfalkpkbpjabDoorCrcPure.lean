/-
  CRC-32C as plain mathematics over 32-bit words: one step of the register, many steps, sums of lists of bytes, products; no Go in sight.
-/
import Derived.KernelRfl
namespace Go.Proofs.YtndnfalkpkbpjabDoor.Crc

def poly : BitVec 32 := 0x82F63B78#32
def one : BitVec 32 := 0x80000000#32
/-- The register moved by one bit. -/
def stp (r : BitVec 32) : BitVec 32 := (r >>> 1) ^^^ (if r.getLsbD 0 then poly else 0#32)
/-- Moved by n bits. -/
def it : Nat → BitVec 32 → BitVec 32
  | 0, r => r
  | n + 1, r => stp (it n r)

theorem stp_xor (a b : BitVec 32) : stp (a ^^^ b) = stp a ^^^ stp b := by
  unfold stp
  rw [BitVec.ushiftRight_xor_distrib, BitVec.getLsbD_xor]
  generalize a >>> 1 = x
  generalize b >>> 1 = y
  cases a.getLsbD 0 <;> cases b.getLsbD 0 <;> simp [BitVec.xor_assoc]
  · exact BitVec.xor_comm _ _
  · rw [BitVec.xor_comm y, ← BitVec.xor_assoc poly, BitVec.xor_self, BitVec.zero_xor]

theorem it_xor (n : Nat) (a b : BitVec 32) : it n (a ^^^ b) = it n a ^^^ it n b := by
  induction n with
  | zero => rfl
  | succ n ih => show stp (it n _) = stp _ ^^^ stp _; rw [ih, stp_xor]

theorem it_zero (n : Nat) : it n 0#32 = 0#32 := by
  induction n with
  | zero => rfl
  | succ n ih => show stp (it n _) = _; rw [ih]; decide

theorem it_add (m n : Nat) (r : BitVec 32) : it (m + n) r = it m (it n r) := by
  induction m with
  | zero => simp [it]
  | succ m ih => rw [Nat.succ_add]; show stp _ = stp _; rw [ih]

theorem it_comm (m n : Nat) (r : BitVec 32) : it m (it n r) = it n (it m r) := by
  rw [← it_add, ← it_add, Nat.add_comm]

/-! ### nothing but nought moves to nought -/
theorem stp_ne (r : BitVec 32) (h : r ≠ 0#32) : stp r ≠ 0#32 := by
  intro e
  have h31 : (stp r).getLsbD 31 = false := by rw [e]; simp
  have h0 : r.getLsbD 0 = false := by
    cases hb : r.getLsbD 0 with
    | false => rfl
    | true =>
      exfalso
      unfold stp at h31
      rw [hb] at h31
      simp [poly] at h31
  apply h
  have e2 : r >>> 1 = 0#32 := by
    unfold stp at e; rw [h0] at e; simpa using e
  have hn : r.toNat >>> 1 = 0 := by
    have := congrArg BitVec.toNat e2
    simpa using this
  have hl : r.toNat % 2 = 0 := by
    have : r.getLsbD 0 = r.toNat.testBit 0 := rfl
    rw [this, Nat.testBit_zero] at h0
    simp at h0
    omega
  apply BitVec.eq_of_toNat_eq
  rw [Nat.shiftRight_eq_div_pow] at hn
  simp
  omega

theorem it_ne (n : Nat) (r : BitVec 32) (h : r ≠ 0#32) : it n r ≠ 0#32 := by
  induction n with
  | zero => exact h
  | succ n ih => exact stp_ne _ ih

/-! ### products -/
/-- What a product is after n of its rounds. -/
def tm (a b : BitVec 32) : Nat → BitVec 32
  | 0 => 0#32
  | n + 1 => tm a b n ^^^ (if a.getLsbD (31 - n) then it n b else 0#32)
def times (a b : BitVec 32) : BitVec 32 := tm a b 32

theorem tm_it (k : Nat) (a b : BitVec 32) (n : Nat) : tm a (it k b) n = it k (tm a b n) := by
  induction n with
  | zero => exact (it_zero k).symm
  | succ n ih =>
    show tm a (it k b) n ^^^ _ = it k (tm a b n ^^^ _)
    rw [it_xor, ih]
    cases a.getLsbD (31 - n)
    · simp [it_zero]
    · simp [it_comm]

theorem it_one (n : Nat) (h : n < 32) : it n one = 1#32 <<< (31 - n) := by
  have : ∀ i : Fin 32, it i.val one = 1#32 <<< (31 - i.val) := by decide +kernel
  exact this ⟨n, h⟩

theorem tm_one (a : BitVec 32) (n : Nat) (h : n ≤ 32) (i : Nat) (hi : i < 32) : (tm a one n).getLsbD i = (decide (32 ≤ i + n) && a.getLsbD i) := by
  induction n with
  | zero => simp [tm]; intro; omega
  | succ n ih =>
    show (tm a one n ^^^ _).getLsbD i = _
    rw [BitVec.getLsbD_xor, ih (by omega), it_one n (by omega)]
    by_cases e : i = 31 - n
    · subst e
      have h1 : ¬ 32 ≤ 31 - n + n := by omega
      have h2 : 32 ≤ 31 - n + (n + 1) := by omega
      cases hb : a.getLsbD (31 - n) <;> simp [h1, h2, hi]
    · have h3 : (if a.getLsbD (31 - n) then 1#32 <<< (31 - n) else 0#32).getLsbD i = false := by
        cases a.getLsbD (31 - n)
        · simp
        · simp only [if_true, BitVec.getLsbD_shiftLeft]
          by_cases hlt : i < 31 - n
          · simp [hlt]
          · have : i - (31 - n) ≠ 0 := by omega
            simp [hi, hlt]
            omega
      rw [h3]
      by_cases h4 : 32 ≤ i + n
      · simp [h4]; have : 32 ≤ i + (n + 1) := by omega
        simp [this]
      · have : ¬ 32 ≤ i + (n + 1) := by omega
        simp [h4, this]

theorem times_one (a : BitVec 32) : times a one = a := by
  apply BitVec.eq_of_getLsbD_eq
  intro i hi
  unfold times
  rw [tm_one a 32 (by omega) i hi]
  simp

/-- The product with what the factor of 1 moves to is the other factor, moved. -/
theorem times_it (k : Nat) (a : BitVec 32) : times a (it k one) = it k a := by
  unfold times
  rw [tm_it]
  have := times_one a
  unfold times at this
  rw [this]

/-! ### sums -/
def ones : BitVec 32 := 0xFFFFFFFF#32
def wide (b : UInt8) : BitVec 32 := BitVec.ofNat 32 b.toNat
def upd (r : BitVec 32) (b : UInt8) : BitVec 32 := it 8 (r ^^^ wide b)
/-- The register behind the bytes l, which began as r. -/
def go (r : BitVec 32) (l : List UInt8) : BitVec 32 := l.foldl upd r
def sum (l : List UInt8) : BitVec 32 := ones ^^^ go ones l

theorem go_snoc (r : BitVec 32) (l : List UInt8) (b : UInt8) : go r (l ++ [b]) = upd (go r l) b := by
  simp [go, List.foldl_append]
theorem go_append (r : BitVec 32) (l m : List UInt8) : go r (l ++ m) = go (go r l) m := by
  simp [go, List.foldl_append]
theorem go_cons (r : BitVec 32) (b : UInt8) (l : List UInt8) : go r (b :: l) = go (upd r b) l := rfl

theorem upd_xor (a b : BitVec 32) (c : UInt8) : upd (a ^^^ b) c = upd a c ^^^ it 8 b := by
  unfold upd
  rw [← it_xor]
  congr 1
  rw [BitVec.xor_assoc, BitVec.xor_comm b, ← BitVec.xor_assoc]

theorem go_xor (l : List UInt8) : ∀ a b : BitVec 32, go (a ^^^ b) l = go a l ^^^ it (8 * l.length) b := by
  induction l with
  | nil => intro a b; rfl
  | cons c l ih =>
    intro a b
    rw [go_cons, go_cons, upd_xor, ih, ← it_add]
    rw [show 8 * (c :: l).length = 8 * l.length + 8 from by simp; omega]

theorem xor_left_cancel (a b c : BitVec 32) (h : a ^^^ b = a ^^^ c) : b = c := by
  have : a ^^^ (a ^^^ b) = a ^^^ (a ^^^ c) := by rw [h]
  simpa [← BitVec.xor_assoc] using this

theorem xor4 (a b c d : BitVec 32) : (a ^^^ b) ^^^ (c ^^^ d) = (a ^^^ c) ^^^ (b ^^^ d) := by
  rw [BitVec.xor_assoc, BitVec.xor_assoc, ← BitVec.xor_assoc b, BitVec.xor_comm b c, BitVec.xor_assoc c]

/-- P1.3: the sum of two texts out of theirs. -/
theorem sum_append (s t : List UInt8) : it (8 * t.length) (sum s) ^^^ sum t = sum (s ++ t) := by
  unfold sum
  have h := go_xor t ones (go ones s ^^^ ones)
  rw [show ones ^^^ (go ones s ^^^ ones) = go ones s by rw [BitVec.xor_comm (go ones s), ← BitVec.xor_assoc, BitVec.xor_self, BitVec.zero_xor]] at h
  rw [go_append, h, BitVec.xor_comm ones (go ones s), ← BitVec.xor_assoc, BitVec.xor_comm _ ones, BitVec.xor_assoc]
  congr 1
  exact BitVec.xor_comm _ _

/-! ### whatever is turned within four bytes is seen -/
theorem it8_shift (x : BitVec 32) (h : x.toNat < 2 ^ 24) : it 8 (x <<< 8) = x := by
  have key : ∀ k : Nat, k ≤ 8 → it k (x <<< 8) = x <<< (8 - k) := by
    intro k
    induction k with
    | zero => intro _; rfl
    | succ k ih =>
      intro hk
      show stp (it k _) = _
      rw [ih (by omega)]
      unfold stp
      have e0 : (x <<< (8 - k)).getLsbD 0 = false := by
        rw [BitVec.getLsbD_shiftLeft]
        have : (0 : Nat) < 8 - k := by omega
        simp [this]
      rw [e0]
      simp only [Bool.false_eq_true, if_false, BitVec.xor_zero]
      apply BitVec.eq_of_toNat_eq
      have p1 : 2 ^ (8 - k) = 2 * 2 ^ (8 - (k + 1)) := by
        rw [show 8 - k = (8 - (k + 1)) + 1 by omega, Nat.pow_succ]; omega
      have p2 : 2 ^ (8 - (k + 1)) ≤ 2 ^ 7 := Nat.pow_le_pow_right (by omega) (by omega)
      have q2 : x.toNat * 2 ^ (8 - (k + 1)) ≤ x.toNat * 2 ^ 7 := Nat.mul_le_mul_left _ p2
      simp only [BitVec.toNat_ushiftRight, BitVec.toNat_shiftLeft, Nat.shiftLeft_eq, Nat.shiftRight_eq_div_pow]
      rw [p1]
      generalize 2 ^ (8 - (k + 1)) = q at *
      have e1 : x.toNat * (2 * q) = 2 * (x.toNat * q) := by rw [← Nat.mul_assoc, Nat.mul_comm x.toNat 2, Nat.mul_assoc]
      rw [e1]
      generalize x.toNat * q = y at *
      omega
  simpa using key 8 (by omega)

/-- Byte number i of a word, the lowest first. -/
def tb (t : BitVec 32) (i : Nat) : UInt8 := UInt8.ofNat (t.toNat / 2 ^ (8 * i))
/-- The bytes l, the n bytes behind the first k turned by those of t. -/
def burst (l : List UInt8) (k : Nat) (t : BitVec 32) (n : Nat) : List UInt8 :=
  l.take k ++ ((List.range n).map (fun i => l.getD (k + i) 0 ^^^ tb t i) ++ l.drop (k + n))

theorem wide_xor (a b : UInt8) : wide (a ^^^ b) = wide a ^^^ wide b := by
  unfold wide
  apply BitVec.eq_of_toNat_eq
  have ha : a.toNat < 256 := a.toNat_lt
  have hb : b.toNat < 256 := b.toNat_lt
  have hx : a.toNat ^^^ b.toNat < 2 ^ 8 := Nat.xor_lt_two_pow (by omega) (by omega)
  simp only [BitVec.toNat_ofNat, BitVec.toNat_xor, UInt8.toNat_xor]
  rw [Nat.mod_eq_of_lt (by omega), Nat.mod_eq_of_lt (by omega), Nat.mod_eq_of_lt (by omega)]

theorem low_out (t : BitVec 32) (n : Nat) : (t >>> (8 * n)) ^^^ wide (tb t n) = (t >>> (8 * (n + 1))) <<< 8 := by
  apply BitVec.eq_of_getLsbD_eq
  intro i hi
  rw [BitVec.getLsbD_xor, BitVec.getLsbD_ushiftRight, BitVec.getLsbD_shiftLeft, BitVec.getLsbD_ushiftRight]
  have hw : (wide (tb t n)).getLsbD i = (decide (i < 8) && t.getLsbD (8 * n + i)) := by
    unfold wide tb
    have e : (BitVec.ofNat 32 (UInt8.ofNat (t.toNat / 2 ^ (8 * n))).toNat).getLsbD i = ((t.toNat / 2 ^ (8 * n)) % 2 ^ 8).testBit i := by
      rw [BitVec.getLsbD_ofNat]
      simp [hi]
    rw [e, Nat.testBit_mod_two_pow, ← Nat.shiftRight_eq_div_pow, Nat.testBit_shiftRight]
    rfl
  rw [hw]
  by_cases h : i < 8
  · simp [h]
  · have : 8 * n + i = 8 * (n + 1) + (i - 8) := by omega
    simp [h, hi, this]

theorem shr_small (t : BitVec 32) (n : Nat) : (t >>> (8 * (n + 1))).toNat < 2 ^ 24 := by
  rw [BitVec.toNat_ushiftRight, Nat.shiftRight_eq_div_pow]
  have h : t.toNat < 2 ^ 32 := t.isLt
  have hp : 2 ^ 8 ≤ 2 ^ (8 * (n + 1)) := Nat.pow_le_pow_right (by omega) (by omega)
  apply Nat.div_lt_of_lt_mul
  have : 2 ^ 8 * 2 ^ 24 ≤ 2 ^ (8 * (n + 1)) * 2 ^ 24 := Nat.mul_le_mul_right _ hp
  omega

theorem take_succ' (l : List UInt8) (j : Nat) (h : j < l.length) : l.take (j + 1) = l.take j ++ [l.getD j 0] := by
  rw [List.take_succ_eq_append_getElem h]
  simp [List.getD, h]

theorem go_head (r : BitVec 32) (l : List UInt8) (k : Nat) (t : BitVec 32) (n : Nat) (h : k + n ≤ l.length) :
    go r (l.take k ++ (List.range n).map (fun i => l.getD (k + i) 0 ^^^ tb t i)) = go r (l.take (k + n)) ^^^ (it (8 * n) t ^^^ (t >>> (8 * n))) := by
  induction n with
  | zero => simp [it]
  | succ n ih =>
    have ih := ih (by omega)
    rw [List.range_succ, List.map_append, ← List.append_assoc]
    simp only [List.map_cons, List.map_nil]
    rw [go_snoc, ih, show k + (n + 1) = (k + n) + 1 by omega, take_succ' l (k + n) (by omega), go_snoc]
    generalize go r (l.take (k + n)) = R
    generalize l.getD (k + n) 0 = c
    have key : it 8 ((t >>> (8 * n)) ^^^ wide (tb t n)) = t >>> (8 * (n + 1)) := by
      rw [low_out, it8_shift _ (shr_small t n)]
    have e8 : it (8 * (n + 1)) t = it 8 (it (8 * n) t) := by
      rw [← it_add]; congr 1; omega
    rw [← key, e8]
    unfold upd
    rw [← it_xor, ← it_xor, wide_xor]
    congr 1
    generalize it (8 * n) t = A
    generalize t >>> (8 * n) = B
    generalize wide c = C
    generalize wide (tb t n) = D
    rw [xor4 R, BitVec.xor_assoc A B D]

/-- P1.3: whatever is turned within four bytes in a row is seen. -/
theorem sum_burst (l : List UInt8) (k : Nat) (t : BitVec 32) (h : k + 4 ≤ l.length) (ht : t ≠ 0#32) : sum (burst l k t 4) ≠ sum l := by
  unfold sum burst
  intro e
  have e := xor_left_cancel _ _ _ e
  rw [← List.append_assoc, go_append, go_head ones l k t 4 h] at e
  have e0 : t >>> (8 * 4) = 0#32 := by
    apply BitVec.eq_of_toNat_eq
    rw [BitVec.toNat_ushiftRight, Nat.shiftRight_eq_div_pow]
    have h : t.toNat < 2 ^ 32 := t.isLt
    simp
    omega
  rw [e0, BitVec.xor_zero, go_xor, ← go_append, List.take_append_drop] at e
  have e2 : it (8 * (l.drop (k + 4)).length) (it (8 * 4) t) = 0#32 := by
    apply xor_left_cancel (go ones l)
    rw [BitVec.xor_zero]
    exact e
  exact it_ne _ _ (it_ne _ _ ht) e2

theorem burst_length (l : List UInt8) (k : Nat) (t : BitVec 32) (n : Nat) (h : k + n ≤ l.length) : (burst l k t n).length = l.length := by
  unfold burst
  simp
  omega

theorem burst_get (l : List UInt8) (k : Nat) (t : BitVec 32) (n : Nat) (h : k + n ≤ l.length) (j : Nat) :
    (burst l k t n).getD j 0 = if k ≤ j ∧ j < k + n then l.getD j 0 ^^^ tb t (j - k) else l.getD j 0 := by
  unfold burst
  simp only [List.getD_eq_getElem?_getD]
  have hk : (l.take k).length = k := by simp; omega
  by_cases h1 : j < k
  · rw [List.getElem?_append_left (by omega), if_neg (by omega), List.getElem?_take_of_lt h1]
  · rw [List.getElem?_append_right (by omega), hk]
    by_cases h2 : j < k + n
    · rw [List.getElem?_append_left (by simp; omega), if_pos ⟨by omega, h2⟩]
      rw [List.getElem?_map, List.getElem?_range (by omega)]
      simp only [Option.map_some, Option.getD_some]
      rw [show k + (j - k) = j by omega]
    · rw [List.getElem?_append_right (by simp; omega), if_neg (by omega)]
      simp only [List.length_map, List.length_range, List.getElem?_drop]
      rw [show k + n + (j - k - n) = j by omega]

theorem burst_zero (l : List UInt8) (k : Nat) (t : BitVec 32) : burst l k t 0 = l := by
  unfold burst; simp

end Go.Proofs.YtndnfalkpkbpjabDoor.Crc
