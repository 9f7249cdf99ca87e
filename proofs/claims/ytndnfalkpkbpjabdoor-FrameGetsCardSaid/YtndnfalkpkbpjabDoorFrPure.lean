/-
  Units and heads of a log as plain mathematics: numbers in bytes, there and back; what is put is got; what is turned is seen; no Go in sight.
-/
import Derived.Test.YtndnfalkpkbpjabDoorCrcPure
namespace Go.Proofs.YtndnfalkpkbpjabDoor.Fr
open Crc (sum burst)

/-- A number in k bytes, the greatest first. -/
def be : Nat → Nat → List UInt8
  | 0, _ => []
  | k + 1, n => be k (n / 256) ++ [UInt8.ofNat n]
/-- The number of bytes. -/
def val (l : List UInt8) : Nat := l.foldl (fun n c => 256 * n + c.toNat) 0

theorem be_length (k : Nat) : ∀ n, (be k n).length = k := by
  induction k with
  | zero => intro n; rfl
  | succ k ih => intro n; simp [be, ih]
theorem val_snoc (l : List UInt8) (c : UInt8) : val (l ++ [c]) = 256 * val l + c.toNat := by simp [val, List.foldl_append]
theorem val_be (k : Nat) : ∀ n, n < 256 ^ k → val (be k n) = n := by
  induction k with
  | zero => intro n h; simp at h; subst h; rfl
  | succ k ih =>
    intro n h
    rw [Nat.pow_succ] at h
    simp only [be]
    rw [val_snoc, ih (n / 256) (by omega)]
    simp
    omega
theorem be_val_aux (n : Nat) : ∀ l : List UInt8, l.length = n → be n (val l) = l ∧ val l < 256 ^ n := by
  induction n with
  | zero => intro l h; have : l = [] := List.length_eq_zero_iff.1 h; subst this; exact ⟨rfl, by simp [val]⟩
  | succ n ih =>
    intro l h
    rcases List.eq_nil_or_concat l with rfl | ⟨m, c, rfl⟩
    · simp at h
    · simp only [List.concat_eq_append] at h ⊢
      have hm : m.length = n := by simpa using h
      obtain ⟨h1, h2⟩ := ih m hm
      have hc : c.toNat < 256 := c.toNat_lt
      rw [val_snoc]
      refine ⟨?_, ?_⟩
      · simp only [be]
        rw [show (256 * val m + c.toNat) / 256 = val m by omega, h1]
        congr 2
        apply UInt8.toNat_inj.1
        simp
      · rw [Nat.pow_succ]; omega
theorem be_val (l : List UInt8) (n : Nat) (h : l.length = n) : be n (val l) = l := (be_val_aux n l h).1
theorem val_lt (l : List UInt8) (n : Nat) (h : l.length = n) : val l < 256 ^ n := (be_val_aux n l h).2

theorem be_mod (k : Nat) : ∀ n, be k (n % 256 ^ k) = be k n := by
  induction k with
  | zero => intro n; rfl
  | succ k ih =>
    intro n
    simp only [be]
    have e1 : n % 256 ^ (k + 1) / 256 = n / 256 % 256 ^ k := by
      rw [Nat.pow_succ, Nat.mul_comm, Nat.mod_mul_right_div_self]
    have e2 : UInt8.ofNat (n % 256 ^ (k + 1)) = UInt8.ofNat n := by
      apply UInt8.toNat_inj.1
      have : 256 ∣ 256 ^ (k + 1) := ⟨256 ^ k, by rw [Nat.pow_succ, Nat.mul_comm]⟩
      simp [Nat.mod_mod_of_dvd _ this]
    rw [e1, ih, e2]

/-! ### units -/
/-- The sum's four bytes. -/
def sumB (l : List UInt8) : List UInt8 := be 4 (sum l).toNat
theorem sumB_length (l : List UInt8) : (sumB l).length = 4 := be_length 4 _
theorem sumB_inj {a b : List UInt8} (h : sumB a = sumB b) : sum a = sum b := by
  have := congrArg val h
  unfold sumB at this
  have ha : (sum a).toNat < 256 ^ 4 := (sum a).isLt
  have hb : (sum b).toNat < 256 ^ 4 := (sum b).isLt
  rw [val_be 4 _ ha, val_be 4 _ hb] at this
  exact BitVec.eq_of_toNat_eq this

/-- What stands behind the sum. -/
def bodyL (serial seq kind : Nat) (b : List UInt8) : List UInt8 := be 4 serial ++ (be 8 seq ++ (be 1 kind ++ (be 4 b.length ++ b)))
theorem bodyL_length (serial seq kind : Nat) (b : List UInt8) : (bodyL serial seq kind b).length = 17 + b.length := by
  simp [bodyL, be_length]; omega
/-- How many bytes a unit's sectors have. -/
def room (n : Nat) : Nat := (n + 84) / 64 * 64
def unitL (serial seq kind : Nat) (b : List UInt8) : List UInt8 :=
  sumB (bodyL serial seq kind b) ++ (bodyL serial seq kind b ++ List.replicate (room b.length - (21 + b.length)) 0)
theorem room_ge (n : Nat) : 21 + n ≤ room n := by unfold room; omega
theorem unitL_length (serial seq kind : Nat) (b : List UInt8) : (unitL serial seq kind b).length = room b.length := by
  have := room_ge b.length
  simp [unitL, sumB_length, bodyL_length]; omega

/-- A piece. -/
def cut (l : List UInt8) (a b : Nat) : List UInt8 := (l.drop a).take (b - a)
theorem cut_length (l : List UInt8) (a b : Nat) (h : b ≤ l.length) : (cut l a b).length = b - a := by simp [cut]; omega

/-- What a unit's bytes are cut into. -/
theorem unitL_cuts (serial seq kind : Nat) (b rest : List UInt8) :
    cut (unitL serial seq kind b ++ rest) 4 8 = be 4 serial ∧ cut (unitL serial seq kind b ++ rest) 8 16 = be 8 seq ∧ cut (unitL serial seq kind b ++ rest) 16 17 = be 1 kind ∧
    cut (unitL serial seq kind b ++ rest) 17 21 = be 4 b.length ∧ cut (unitL serial seq kind b ++ rest) 21 (21 + b.length) = b := by
  have hs := sumB_length (bodyL serial seq kind b)
  obtain ⟨z, hz⟩ : ∃ z, sumB (bodyL serial seq kind b) = z := ⟨_, rfl⟩
  have e : unitL serial seq kind b ++ rest = z ++ (be 4 serial ++ (be 8 seq ++ (be 1 kind ++ (be 4 b.length ++ (b ++ (List.replicate (room b.length - (21 + b.length)) 0 ++ rest)))))) := by
    unfold unitL
    rw [hz]
    simp [bodyL]
  rw [hz] at hs
  rw [e]
  generalize List.replicate (room b.length - (21 + b.length)) (0 : UInt8) ++ rest = r
  have l1 := be_length 4 serial
  have l2 := be_length 8 seq
  have l3 := be_length 1 kind
  have l4 := be_length 4 b.length
  generalize be 4 serial = a1 at *
  generalize be 8 seq = a2 at *
  generalize be 1 kind = a3 at *
  generalize be 4 b.length = a4 at *
  have d : ∀ (x y : List UInt8) (n : Nat), x.length = n → (x ++ y).drop n = y := fun x y n h => by rw [← h]; simp
  have t : ∀ (x y : List UInt8) (n : Nat), x.length = n → (x ++ y).take n = x := fun x y n h => by rw [← h]; simp
  unfold cut
  refine ⟨?_, ?_, ?_, ?_, ?_⟩
  · rw [d z _ 4 hs, t a1 _ _ (by omega)]
  · rw [show (8 : Nat) = 4 + 4 from rfl, ← List.drop_drop, d z _ 4 hs, d a1 _ 4 l1, t a2 _ _ (by omega)]
  · rw [show (16 : Nat) = 4 + (4 + 8) from rfl, ← List.drop_drop, d z _ 4 hs, ← List.drop_drop, d a1 _ 4 l1, d a2 _ 8 l2, t a3 _ _ (by omega)]
  · rw [show (17 : Nat) = 4 + (4 + (8 + 1)) from rfl, ← List.drop_drop, d z _ 4 hs, ← List.drop_drop, d a1 _ 4 l1, ← List.drop_drop, d a2 _ 8 l2, d a3 _ 1 l3, t a4 _ _ (by omega)]
  · rw [show (21 : Nat) = 4 + (4 + (8 + (1 + 4))) from rfl, ← List.drop_drop, d z _ 4 hs, ← List.drop_drop, d a1 _ 4 l1, ← List.drop_drop, d a2 _ 8 l2, ← List.drop_drop, d a3 _ 1 l3, d a4 _ 4 l4, t b _ _ (by omega)]

/-- The count that bytes tell. -/
def cnt (l : List UInt8) : Nat := val (cut l 17 21)
/-- The unit that bytes tell. -/
def told (l : List UInt8) : List UInt8 := unitL (val (cut l 4 8)) (val (cut l 8 16)) (val (cut l 16 17)) (cut l 21 (21 + cnt l))
/-- Why bytes begin with no unit, or 0. -/
def getE (l : List UInt8) : Nat :=
  if l.length < 21 then 3 else if 1048576 < cnt l then 4 else if l.length < room (cnt l) then 3 else if told l = l.take (room (cnt l)) then 0 else 4

/-- What is put is got. -/
theorem get_put (serial seq kind : Nat) (b rest : List UInt8) (h1 : serial < 2 ^ 32) (h2 : seq < 2 ^ 64) (h3 : kind < 256) (h4 : b.length ≤ 1048576) :
    getE (unitL serial seq kind b ++ rest) = 0 ∧ val (cut (unitL serial seq kind b ++ rest) 4 8) = serial ∧ val (cut (unitL serial seq kind b ++ rest) 8 16) = seq ∧
    val (cut (unitL serial seq kind b ++ rest) 16 17) = kind ∧ cnt (unitL serial seq kind b ++ rest) = b.length ∧ cut (unitL serial seq kind b ++ rest) 21 (21 + b.length) = b := by
  obtain ⟨c1, c2, c3, c4, c5⟩ := unitL_cuts serial seq kind b rest
  have v1 := val_be 4 serial (by simpa using h1)
  have v2 := val_be 8 seq (by simpa using h2)
  have v3 := val_be 1 kind (by simpa using h3)
  have v4 := val_be 4 b.length (by omega)
  have hc : cnt (unitL serial seq kind b ++ rest) = b.length := by unfold cnt; rw [c4, v4]
  have hlen : (unitL serial seq kind b ++ rest).length = room b.length + rest.length := by rw [List.length_append, unitL_length]
  have hr := room_ge b.length
  refine ⟨?_, by rw [c1, v1], by rw [c2, v2], by rw [c3, v3], hc, c5⟩
  unfold getE
  rw [hc, hlen, if_neg (by omega), if_neg (by omega), if_neg (by omega), if_pos]
  unfold told
  rw [hc, c1, c2, c3, c5, v1, v2, v3]
  have := unitL_length serial seq kind b
  rw [← this]
  simp

/-- With a sector too few it is too short. -/
theorem get_short (serial seq kind : Nat) (b : List UInt8) (h4 : b.length ≤ 1048576) : getE ((unitL serial seq kind b).take (room b.length - 64)) = 3 := by
  have hl := unitL_length serial seq kind b
  have hr : 21 + b.length ≤ room b.length := room_ge _
  have hr64 : 64 ≤ room b.length := by unfold room; omega
  have hlen : ((unitL serial seq kind b).take (room b.length - 64)).length = room b.length - 64 := by rw [List.length_take, hl]; omega
  unfold getE
  rw [hlen]
  by_cases hs : room b.length - 64 < 21
  · rw [if_pos hs]
  · have hbig : 128 ≤ room b.length := by unfold room at hs ⊢; omega
    obtain ⟨_, _, _, c4, _⟩ := unitL_cuts serial seq kind b []
    rw [List.append_nil] at c4
    have hc : cnt ((unitL serial seq kind b).take (room b.length - 64)) = b.length := by
      unfold cnt
      have : cut ((unitL serial seq kind b).take (room b.length - 64)) 17 21 = cut (unitL serial seq kind b) 17 21 := by
        unfold cut
        rw [List.drop_take, List.take_take]
        congr 1
        omega
      rw [this, c4, val_be 4 _ (by omega)]
    rw [hc, if_neg hs, if_neg (by omega), if_pos (by omega)]

/-- Turning bytes behind the first four leaves those four, and is turning behind them. -/
theorem burst_behind (l : List UInt8) (k : Nat) (t : BitVec 32) (hk : 4 ≤ k) (hl : k + 4 ≤ l.length) :
    (burst l k t 4).take 4 = l.take 4 ∧ (burst l k t 4).drop 4 = burst (l.drop 4) (k - 4) t 4 := by
  have hlen := Crc.burst_length l k t 4 hl
  have hlen2 := Crc.burst_length (l.drop 4) (k - 4) t 4 (by simp; omega)
  have hg := Crc.burst_get l k t 4 hl
  have hg2 := Crc.burst_get (l.drop 4) (k - 4) t 4 (by simp; omega)
  have hgd : ∀ (m : List UInt8) (i : Nat), i < m.length → m[i]? = some (m.getD i 0) := fun m i h => by simp [List.getD, h]
  constructor
  · apply List.ext_getElem?
    intro i
    by_cases hi : i < 4
    · rw [List.getElem?_take_of_lt hi, List.getElem?_take_of_lt hi, hgd _ i (by omega), hgd l i (by omega), hg, if_neg (by omega)]
    · rw [List.getElem?_take_eq_none (by omega), List.getElem?_take_eq_none (by omega)]
  · apply List.ext_getElem?
    intro i
    rw [List.getElem?_drop]
    by_cases hi : 4 + i < l.length
    · rw [hgd _ (4 + i) (by omega), hgd _ i (by rw [hlen2]; simp; omega), hg, hg2]
      have e : (l.drop 4).getD i 0 = l.getD (4 + i) 0 := by simp [List.getD]
      rw [e]
      by_cases hr : k ≤ 4 + i ∧ 4 + i < k + 4
      · rw [if_pos hr, if_pos (by omega), show 4 + i - k = i - (k - 4) by omega]
      · rw [if_neg hr, if_neg (by omega)]
    · rw [List.getElem?_eq_none (by omega), List.getElem?_eq_none (by rw [hlen2]; simp; omega)]

/-- A piece that isn't turned. -/
theorem burst_cut (l : List UInt8) (k : Nat) (t : BitVec 32) (hl : k + 4 ≤ l.length) (a b : Nat) (hab : b ≤ k ∨ k + 4 ≤ a) : cut (burst l k t 4) a b = cut l a b := by
  have hlen := Crc.burst_length l k t 4 hl
  have hg := Crc.burst_get l k t 4 hl
  have hgd : ∀ (m : List UInt8) (i : Nat), i < m.length → m[i]? = some (m.getD i 0) := fun m i h => by simp [List.getD, h]
  unfold cut
  apply List.ext_getElem?
  intro i
  by_cases hi : i < b - a
  · rw [List.getElem?_take_of_lt hi, List.getElem?_take_of_lt hi, List.getElem?_drop, List.getElem?_drop]
    by_cases h2 : a + i < l.length
    · rw [hgd _ _ (by omega), hgd l _ h2, hg, if_neg (by omega)]
    · rw [List.getElem?_eq_none (by omega), List.getElem?_eq_none (by omega)]
  · rw [List.getElem?_take_eq_none (by omega), List.getElem?_take_eq_none (by omega)]

/-- Bytes that are a unit: their sum stands ahead, and noughts behind the body. -/
theorem told_parts (l : List UInt8) (hl : l.length = room (cnt l)) (h : told l = l) :
    ∃ body : List UInt8, l = sumB body ++ (body ++ List.replicate (room (cnt l) - (21 + cnt l)) 0) ∧ body.length = 17 + cnt l := by
  have hr := room_ge (cnt l)
  have hb : (cut l 21 (21 + cnt l)).length = cnt l := by rw [cut_length _ _ _ (by omega)]; omega
  refine ⟨bodyL (val (cut l 4 8)) (val (cut l 8 16)) (val (cut l 16 17)) (cut l 21 (21 + cnt l)), ?_, ?_⟩
  · have h2 := h
    unfold told unitL at h2
    rw [hb] at h2
    exact h2.symm
  · rw [bodyL_length, hb]

/-- Whatever is turned within four bytes in a row behind the sum and ahead of the count, or behind it, is seen. -/
theorem get_turned (serial seq kind : Nat) (b : List UInt8) (h4 : b.length ≤ 1048576) (k : Nat) (t : BitVec 32) (ht : t ≠ 0#32) (hk : (4 ≤ k ∧ k + 4 ≤ 17) ∨ 21 ≤ k) (hl : k + 4 ≤ room b.length) :
    getE (burst (unitL serial seq kind b) k t 4) = 4 := by
  have hul := unitL_length serial seq kind b
  have hblen := Crc.burst_length (unitL serial seq kind b) k t 4 (by omega)
  have hr := room_ge b.length
  obtain ⟨_, _, _, c4, _⟩ := unitL_cuts serial seq kind b []
  rw [List.append_nil] at c4
  have hc : cnt (burst (unitL serial seq kind b) k t 4) = b.length := by
    unfold cnt
    rw [burst_cut _ _ _ (by omega) _ _ (by omega), c4, val_be 4 _ (by omega)]
  unfold getE
  rw [hc, hblen, hul, if_neg (by omega), if_neg (by omega), if_neg (by omega), if_neg]
  intro h
  rw [List.take_of_length_le (by omega)] at h
  obtain ⟨body, e1, e2⟩ := told_parts (burst (unitL serial seq kind b) k t 4) (by rw [hc, hblen, hul]) h
  rw [hc] at e1 e2
  obtain ⟨b1, b2⟩ := burst_behind (unitL serial seq kind b) k t (by omega) (by omega)
  have hs0 := sumB_length (bodyL serial seq kind b)
  have hs1 := sumB_length body
  have t1 : (unitL serial seq kind b).take 4 = sumB (bodyL serial seq kind b) := by unfold unitL; rw [← hs0]; simp
  have t2 : (unitL serial seq kind b).drop 4 = bodyL serial seq kind b ++ List.replicate (room b.length - (21 + b.length)) 0 := by unfold unitL; rw [← hs0]; simp
  have t3 : (burst (unitL serial seq kind b) k t 4).take 4 = sumB body := by rw [e1, ← hs1]; simp
  have t4 : (burst (unitL serial seq kind b) k t 4).drop 4 = body ++ List.replicate (room b.length - (21 + b.length)) 0 := by rw [e1, ← hs1]; simp
  rw [t3, t1] at b1
  rw [t4, t2] at b2
  have hsum := sumB_inj b1
  have hgo : Crc.go Crc.ones body = Crc.go Crc.ones (bodyL serial seq kind b) := by
    unfold Crc.sum at hsum
    exact Crc.xor_left_cancel _ _ _ hsum
  have hsum2 : sum (body ++ List.replicate (room b.length - (21 + b.length)) 0) = sum (bodyL serial seq kind b ++ List.replicate (room b.length - (21 + b.length)) 0) := by
    unfold Crc.sum
    rw [Crc.go_append, Crc.go_append, hgo]
  rw [b2] at hsum2
  refine Crc.sum_burst _ (k - 4) t ?_ ht hsum2
  rw [List.length_append, bodyL_length, List.length_replicate]
  omega

/-! ### heads -/
/-- A head's bytes behind the sum. -/
def hbodyL (serial base prev seq : Nat) : List UInt8 := 72 :: (be 4 serial ++ (be 4 base ++ (be 4 prev ++ (be 8 seq ++ List.replicate 39 0))))
def headL (serial base prev seq : Nat) : List UInt8 := sumB (hbodyL serial base prev seq) ++ hbodyL serial base prev seq
theorem hbodyL_length (serial base prev seq : Nat) : (hbodyL serial base prev seq).length = 60 := by simp [hbodyL, be_length]
theorem headL_length (serial base prev seq : Nat) : (headL serial base prev seq).length = 64 := by simp [headL, sumB_length, hbodyL_length]
/-- It is a head. -/
def isHead (serial base prev : Nat) : Bool := decide (1 ≤ serial ∧ 1 ≤ base ∧ base ≤ serial ∧ prev < serial)
/-- Are these bytes a head's? -/
def gotH (l : List UInt8) : Bool :=
  decide (l.length = 64) && (isHead (val (cut l 5 9)) (val (cut l 9 13)) (val (cut l 13 17)) && decide (headL (val (cut l 5 9)) (val (cut l 9 13)) (val (cut l 13 17)) (val (cut l 17 25)) = l))

theorem headL_cuts (serial base prev seq : Nat) :
    cut (headL serial base prev seq) 5 9 = be 4 serial ∧ cut (headL serial base prev seq) 9 13 = be 4 base ∧ cut (headL serial base prev seq) 13 17 = be 4 prev ∧ cut (headL serial base prev seq) 17 25 = be 8 seq := by
  have hs := sumB_length (hbodyL serial base prev seq)
  obtain ⟨z, hz⟩ : ∃ z, sumB (hbodyL serial base prev seq) = z := ⟨_, rfl⟩
  have e : headL serial base prev seq = z ++ ([72] ++ (be 4 serial ++ (be 4 base ++ (be 4 prev ++ (be 8 seq ++ List.replicate 39 0))))) := by
    unfold headL
    rw [hz]
    rfl
  rw [hz] at hs
  rw [e]
  have l1 := be_length 4 serial
  have l2 := be_length 4 base
  have l3 := be_length 4 prev
  have l4 := be_length 8 seq
  generalize be 4 serial = a1 at *
  generalize be 4 base = a2 at *
  generalize be 4 prev = a3 at *
  generalize be 8 seq = a4 at *
  have d : ∀ (x y : List UInt8) (n : Nat), x.length = n → (x ++ y).drop n = y := fun x y n h => by rw [← h]; simp
  have t : ∀ (x y : List UInt8) (n : Nat), x.length = n → (x ++ y).take n = x := fun x y n h => by rw [← h]; simp
  unfold cut
  refine ⟨?_, ?_, ?_, ?_⟩
  · rw [show (5 : Nat) = 4 + 1 from rfl, ← List.drop_drop, d z _ 4 hs, d [72] _ 1 rfl, t a1 _ _ (by omega)]
  · rw [show (9 : Nat) = 4 + (1 + 4) from rfl, ← List.drop_drop, d z _ 4 hs, ← List.drop_drop, d [72] _ 1 rfl, d a1 _ 4 l1, t a2 _ _ (by omega)]
  · rw [show (13 : Nat) = 4 + (1 + (4 + 4)) from rfl, ← List.drop_drop, d z _ 4 hs, ← List.drop_drop, d [72] _ 1 rfl, ← List.drop_drop, d a1 _ 4 l1, d a2 _ 4 l2, t a3 _ _ (by omega)]
  · rw [show (17 : Nat) = 4 + (1 + (4 + (4 + 4))) from rfl, ← List.drop_drop, d z _ 4 hs, ← List.drop_drop, d [72] _ 1 rfl, ← List.drop_drop, d a1 _ 4 l1, ← List.drop_drop, d a2 _ 4 l2, d a3 _ 4 l3, t a4 _ _ (by omega)]

theorem gotH_put (serial base prev seq : Nat) (h1 : serial < 2 ^ 32) (h2 : base < 2 ^ 32) (h3 : prev < 2 ^ 32) (h4 : seq < 2 ^ 64) (h : isHead serial base prev = true) :
    gotH (headL serial base prev seq) = true ∧ val (cut (headL serial base prev seq) 5 9) = serial ∧ val (cut (headL serial base prev seq) 9 13) = base ∧ val (cut (headL serial base prev seq) 13 17) = prev ∧ val (cut (headL serial base prev seq) 17 25) = seq := by
  obtain ⟨c1, c2, c3, c4⟩ := headL_cuts serial base prev seq
  have v1 := val_be 4 serial (by simpa using h1)
  have v2 := val_be 4 base (by simpa using h2)
  have v3 := val_be 4 prev (by simpa using h3)
  have v4 := val_be 8 seq (by simpa using h4)
  refine ⟨?_, by rw [c1, v1], by rw [c2, v2], by rw [c3, v3], by rw [c4, v4]⟩
  unfold gotH
  rw [c1, c2, c3, c4, v1, v2, v3, v4, headL_length, h]
  simp

/-- A head's sector in which anything is turned within four bytes in a row behind the sum is no head. -/
theorem gotH_turned (serial base prev seq : Nat) (k : Nat) (t : BitVec 32) (ht : t ≠ 0#32) (hk : 4 ≤ k) (hl : k + 4 ≤ 64) : gotH (burst (headL serial base prev seq) k t 4) = false := by
  have hlen := headL_length serial base prev seq
  obtain ⟨b1, b2⟩ := burst_behind (headL serial base prev seq) k t hk (by omega)
  cases hg : gotH (burst (headL serial base prev seq) k t 4) with
  | false => rfl
  | true =>
    exfalso
    unfold gotH at hg
    simp only [Bool.and_eq_true, decide_eq_true_eq] at hg
    obtain ⟨_, _, h⟩ := hg
    generalize burst (headL serial base prev seq) k t 4 = l at *
    obtain ⟨body, hb⟩ : ∃ body, l = sumB body ++ body := ⟨_, h.symm⟩
    have hs0 := sumB_length (hbodyL serial base prev seq)
    have hs1 := sumB_length body
    have t1 : (headL serial base prev seq).take 4 = sumB (hbodyL serial base prev seq) := by unfold headL; rw [← hs0]; simp
    have t2 : (headL serial base prev seq).drop 4 = hbodyL serial base prev seq := by unfold headL; rw [← hs0]; simp
    have t3 : l.take 4 = sumB body := by rw [hb, ← hs1]; simp
    have t4 : l.drop 4 = body := by rw [hb, ← hs1]; simp
    rw [t3, t1] at b1
    rw [t4, t2] at b2
    have hsum := sumB_inj b1
    rw [b2] at hsum
    exact Crc.sum_burst _ (k - 4) t (by rw [hbodyL_length]; omega) ht hsum

end Go.Proofs.YtndnfalkpkbpjabDoor.Fr
