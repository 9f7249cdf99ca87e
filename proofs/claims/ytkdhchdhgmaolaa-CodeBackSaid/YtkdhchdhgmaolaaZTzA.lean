/-
  Several texts in one: PkBack, CdInj, CdRdP, CdBack.
-/
import Derived.Test.YtkdhchdhgmaolaaZPkDec
import Derived.Test.YtkdhchdhgmaolaaZCdVal
import Derived.Test.YtkdhchdhgmaolaaZCdPure
namespace Go.Proofs.Ytkdhchdhgmaolaa.Pk

theorem or_add (acc x i : Nat) (h : acc < 128 ^ i) : acc ||| x * 128 ^ i = acc + x * 128 ^ i := by
  have e : 128 ^ i = 2 ^ (7 * i) := by rw [Nat.pow_mul]
  rw [e] at h ⊢
  have := Nat.two_pow_add_eq_or_of_lt h x
  rw [Nat.mul_comm x, Nat.or_comm, ← this]
  omega

theorem addB_eq (acc i : Nat) (b : UInt8) (h : acc < 128 ^ i) (hx : b.toNat % 128 * 128 ^ i < 2 ^ 64) : addB acc b i = acc + b.toNat % 128 * 128 ^ i := by
  unfold addB
  rw [Nat.mod_eq_of_lt hx, or_add acc _ i h]

theorem getD_mid (pre l rest : List UInt8) (b : UInt8) (i : Nat) (h : pre.length = i) : (pre ++ (b :: l ++ rest)).getD i 0 = b := by
  subst h
  simp [List.getD]

theorem pow_split (i : Nat) (h : i ≤ 9) : 128 ^ i * 128 ^ (9 - i) = 2 ^ 63 := by
  rw [← Nat.pow_add]
  rw [show i + (9 - i) = 9 by omega]

/-- What is written is read. -/
theorem dec_enc_aux (f : Nat) : ∀ (i m acc : Nat) (pre rest : List UInt8), pre.length = i → i + f = 10 → acc < 128 ^ i → acc + m * 128 ^ i < 2 ^ 64 → (i = 0 ∨ m ≠ 0) → 1 ≤ f →
    dec (pre ++ (encF f m ++ rest)) f i acc = (acc + m * 128 ^ i, i + (encF f m).length, 0) := by
  induction f with
  | zero => intro i m acc pre rest _ _ _ _ _ h; omega
  | succ f ih =>
    intro i m acc pre rest hp hif hacc hn hm _
    have hpos : 0 < 128 ^ i := Nat.pow_pos (by omega)
    by_cases hlt : m < 128
    · have e : encF (f + 1) m = [UInt8.ofNat m] := by simp [encF, hlt]
      rw [e]
      have hg : (pre ++ ([UInt8.ofNat m] ++ rest)).getD i 0 = UInt8.ofNat m := getD_mid pre [] rest _ i hp
      have hto : (UInt8.ofNat m).toNat = m := by simp; omega
      have hmod : m % 128 = m := by omega
      rw [dec_end _ _ _ _ (by simp; omega) (by rw [hg, hto]; exact hlt), hg, addB_eq _ _ _ hacc (by rw [hto, hmod]; omega), hto, hmod]
      have hl : lastErr i (UInt8.ofNat m) = 0 := by
        unfold lastErr
        rw [hto, if_neg]
        intro h
        rcases h with ⟨h1, h2⟩ | ⟨h1, h2⟩
        · omega
        · subst h1
          have : 2 * 128 ^ 9 ≤ m * 128 ^ 9 := Nat.mul_le_mul_right _ h2
          omega
      rw [hl]
      simp
    · have e : encF (f + 1) m = UInt8.ofNat (128 + m % 128) :: encF f (m / 128) := by simp [encF, hlt]
      rw [e]
      have hg : (pre ++ (UInt8.ofNat (128 + m % 128) :: encF f (m / 128) ++ rest)).getD i 0 = UInt8.ofNat (128 + m % 128) := getD_mid pre _ rest _ i hp
      have hto : (UInt8.ofNat (128 + m % 128)).toNat = 128 + m % 128 := by simp; omega
      have hsum : m * 128 ^ i = m % 128 * 128 ^ i + m / 128 * 128 ^ (i + 1) := by
        rw [Nat.pow_succ, Nat.mul_comm (128 ^ i) 128, ← Nat.mul_assoc, ← Nat.add_mul]
        congr 1
        omega
      have hi8 : i ≤ 8 := by
        apply Nat.le_of_not_lt
        intro h
        have : i = 9 := by omega
        subst this
        have : 128 * 128 ^ 9 ≤ m * 128 ^ 9 := Nat.mul_le_mul_right _ (by omega)
        omega
      have hx : (128 + m % 128) % 128 * 128 ^ i < 2 ^ 64 := by
        rw [show (128 + m % 128) % 128 = m % 128 by omega]
        omega
      rw [dec_more _ _ _ _ (by simp; omega) (by rw [hg, hto]; omega), hg, addB_eq _ _ _ hacc (by rw [hto]; exact hx), hto, show (128 + m % 128) % 128 = m % 128 by omega]
      have hacc2 : acc + m % 128 * 128 ^ i < 128 ^ (i + 1) := by
        rw [Nat.pow_succ]
        have : m % 128 * 128 ^ i ≤ 127 * 128 ^ i := Nat.mul_le_mul_right _ (by omega)
        omega
      have ih2 := ih (i + 1) (m / 128) (acc + m % 128 * 128 ^ i) (pre ++ [UInt8.ofNat (128 + m % 128)]) rest (by simp; omega) (by omega) hacc2 (by omega) (Or.inr (by omega)) (by omega)
      have el : pre ++ [UInt8.ofNat (128 + m % 128)] ++ (encF f (m / 128) ++ rest) = pre ++ (UInt8.ofNat (128 + m % 128) :: encF f (m / 128) ++ rest) := by simp
      rw [el] at ih2
      rw [ih2]
      simp only [Prod.mk.injEq, List.length_cons, and_true]
      constructor
      · omega
      · omega

theorem dec_enc (n : Nat) (hn : n < 2 ^ 64) (rest : List UInt8) : decC (enc n ++ rest) = (n, (enc n).length, 0) := by
  have := dec_enc_aux 10 0 n 0 [] rest rfl (by omega) (by simp) (by simpa using hn) (Or.inl rfl) (by omega)
  simpa [decC, enc] using this

/-- What is read is what it is written in. -/
theorem enc_dec_aux (f : Nat) : ∀ (l : List UInt8) (i acc v size : Nat), i + f = 10 → acc < 128 ^ i → dec l f i acc = (v, size, 0) →
    ∃ m, v = acc + m * 128 ^ i ∧ v < 2 ^ 64 ∧ (i = 0 ∨ m ≠ 0) ∧ i ≤ size ∧ size ≤ l.length ∧ encF f m = (l.take size).drop i := by
  induction f with
  | zero => intro l i acc v size _ _ h; simp [dec] at h
  | succ f ih =>
    intro l i acc v size hif hacc h
    have hpos : 0 < 128 ^ i := Nat.pow_pos (by omega)
    by_cases hl : i < l.length
    · obtain ⟨b, hb⟩ : ∃ b, l.getD i 0 = b := ⟨_, rfl⟩
      have hb256 : b.toNat < 256 := b.toNat_lt
      have hget : l[i]? = some b := by
        rw [← hb]; simp [List.getD, hl]
      by_cases hlt : b.toNat < 128
      · rw [dec_end l f i acc hl (by rw [hb]; exact hlt), hb] at h
        simp only [Prod.mk.injEq] at h
        obtain ⟨h1, h2, h3⟩ := h
        have hmod : b.toNat % 128 = b.toNat := by omega
        have h3' : ¬ ((0 < i ∧ b.toNat = 0) ∨ (i = 9 ∧ 1 < b.toNat)) := by
          intro hc
          unfold lastErr at h3
          rw [if_pos hc] at h3
          omega
        have hx : b.toNat * 128 ^ i + 128 ^ i ≤ 2 ^ 64 := by
          have hps := pow_split i (by omega)
          by_cases h9 : i = 9
          · subst h9
            rcases (show b.toNat = 0 ∨ b.toNat = 1 by omega) with h0 | h0
            · rw [h0]; decide
            · rw [h0]; decide
          · have h8 : 128 ^ i ≤ 128 ^ 8 := Nat.pow_le_pow_right (by omega) (by omega)
            have : b.toNat * 128 ^ i ≤ 127 * 128 ^ i := Nat.mul_le_mul_right _ (by omega)
            omega
        rw [addB_eq _ _ _ hacc (by rw [hmod]; omega), hmod] at h1
        refine ⟨b.toNat, h1.symm, by omega, by omega, by omega, by omega, ?_⟩
        rw [← h2]
        have e : encF (f + 1) b.toNat = [UInt8.ofNat b.toNat] := by simp [encF, hlt]
        have hti : (l.take i).length = i := by simp; omega
        rw [e, List.take_add_one, hget, List.drop_append, hti, List.drop_of_length_le (by omega)]
        simp
      · rw [dec_more l f i acc hl (by rw [hb]; exact hlt), hb] at h
        have hi8 : i ≤ 8 := by
          apply Nat.le_of_not_lt
          intro hc
          obtain rfl : f = 0 := by omega
          simp [dec] at h
        have h8 : 128 ^ i ≤ 128 ^ 8 := Nat.pow_le_pow_right (by omega) (by omega)
        have hmx : b.toNat % 128 * 128 ^ i ≤ 127 * 128 ^ i := Nat.mul_le_mul_right _ (by omega)
        rw [addB_eq _ _ _ hacc (by omega)] at h
        have hacc2 : acc + b.toNat % 128 * 128 ^ i < 128 ^ (i + 1) := by rw [Nat.pow_succ]; omega
        obtain ⟨m, m1, m2, m3, m4, m5, m6⟩ := ih l (i + 1) _ v size (by omega) hacc2 h
        have hsum : (b.toNat % 128 + 128 * m) * 128 ^ i = b.toNat % 128 * 128 ^ i + m * 128 ^ (i + 1) := by
          rw [Nat.add_mul, Nat.pow_succ, Nat.mul_comm 128 m, Nat.mul_assoc, Nat.mul_comm 128]
        refine ⟨b.toNat % 128 + 128 * m, by omega, m2, Or.inr (by omega), by omega, m5, ?_⟩
        have hge : ¬ (b.toNat % 128 + 128 * m) < 128 := by omega
        have e : encF (f + 1) (b.toNat % 128 + 128 * m) = UInt8.ofNat (128 + b.toNat % 128) :: encF f m := by
          simp only [encF, hge, if_false]
          rw [show (b.toNat % 128 + 128 * m) % 128 = b.toNat % 128 by omega, show (b.toNat % 128 + 128 * m) / 128 = m by omega]
        rw [e, m6]
        have hbb : UInt8.ofNat (128 + b.toNat % 128) = b := by
          rw [show 128 + b.toNat % 128 = b.toNat by omega]
          simp
        rw [hbb]
        have hts : i < (l.take size).length := by simp; omega
        rw [List.drop_eq_getElem_cons hts]
        congr 1
        rw [List.getElem_take]
        have := List.getElem?_eq_some_iff.1 hget
        exact this.2.symm
    · rw [dec_short l f i acc (by omega)] at h
      simp at h

theorem enc_dec (l : List UInt8) (v size : Nat) (h : decC l = (v, size, 0)) : v < 2 ^ 64 ∧ size ≤ l.length ∧ enc v = l.take size := by
  obtain ⟨m, m1, m2, _, _, m5, m6⟩ := enc_dec_aux 10 l 0 0 v size (by omega) (by simp) h
  have e : v = m := by simpa using m1
  subst e
  exact ⟨m2, m5, by simpa [enc] using m6⟩

/-- A beginning is too short. -/
theorem dec_cut_aux (f : Nat) : ∀ (i m acc j : Nat) (pre : List UInt8), pre.length = i → 1 ≤ f → j < (encF f m).length → dec (pre ++ (encF f m).take j) f i acc = (0, 0, 3) := by
  induction f with
  | zero => intro i m acc j pre _ h; omega
  | succ f ih =>
    intro i m acc j pre hp _ hj
    cases j with
    | zero => rw [List.take_zero, List.append_nil, dec_short _ _ _ _ (by omega)]
    | succ j =>
      by_cases hlt : m < 128
      · have e : encF (f + 1) m = [UInt8.ofNat m] := by simp [encF, hlt]
        rw [e] at hj
        simp at hj
      · have e : encF (f + 1) m = UInt8.ofNat (128 + m % 128) :: encF f (m / 128) := by simp [encF, hlt]
        rw [e] at hj ⊢
        have hf : 1 ≤ f := by
          cases f with
          | zero => simp [encF] at hj
          | succ f => omega
        rw [List.take_succ_cons]
        have hg : (pre ++ (UInt8.ofNat (128 + m % 128) :: (encF f (m / 128)).take j)).getD i 0 = UInt8.ofNat (128 + m % 128) := by
          have := getD_mid pre ((encF f (m / 128)).take j) [] (UInt8.ofNat (128 + m % 128)) i hp
          simpa using this
        have hto : (UInt8.ofNat (128 + m % 128)).toNat = 128 + m % 128 := by simp; omega
        rw [dec_more _ _ _ _ (by simp; omega) (by rw [hg, hto]; omega), hg]
        have ih2 := ih (i + 1) (m / 128) (addB acc (UInt8.ofNat (128 + m % 128)) i) j (pre ++ [UInt8.ofNat (128 + m % 128)]) (by simp; omega) hf (by simpa using hj)
        simpa using ih2

theorem dec_cut (n j : Nat) (h : j < (enc n).length) : decC ((enc n).take j) = (0, 0, 3) := by
  have := dec_cut_aux 10 0 n 0 j [] rfl (by omega) h
  simpa [decC, enc] using this

/-! ### texts -/
/-- A text's bytes. -/
def encX (t : List UInt8) : List UInt8 := enc t.length ++ t

theorem decS_enc (n : Nat) (hn : n < 2 ^ 64) (rest : List UInt8) (most : Int) (hm : (n : Int) ≤ most) : decS (enc n ++ rest) most = (n, (enc n).length, 0) := by
  unfold decS
  rw [dec_enc n hn rest]
  simp
  omega

theorem decX_enc (t rest : List UInt8) (ht : t.length < 2 ^ 64) (most : Int) (hm : (t.length : Int) ≤ most) : decX (encX t ++ rest) most = (t, (encX t).length, 0) := by
  have h := decS_enc t.length ht (t ++ rest) most hm
  unfold encX decX
  rw [List.append_assoc, h]
  simp

theorem encX_dec (l : List UInt8) (most : Int) (t : List UInt8) (size : Nat) (h : decX l most = (t, size, 0)) : t.length < 2 ^ 64 ∧ size ≤ l.length ∧ encX t = l.take size := by
  unfold decX at h
  obtain ⟨d, hd⟩ : ∃ d, decS l most = d := ⟨_, rfl⟩
  obtain ⟨v, s, e⟩ := d
  rw [hd] at h
  simp only at h
  by_cases he : e = 0
  · subst he
    rw [if_neg (by omega)] at h
    by_cases hc : l.length - s < v
    · rw [if_pos hc] at h
      simp at h
    · rw [if_neg hc] at h
      simp only [Prod.mk.injEq, and_true] at h
      obtain ⟨h1, h2⟩ := h
      have hC : decC l = (v, s, 0) := by
        unfold decS at hd
        by_cases a : (decC l).2.2 = 0
        · rw [if_neg (by omega)] at hd
          split at hd
          · simp at hd
          · simp only [Prod.mk.injEq, and_true] at hd
            obtain ⟨x, y⟩ := hd
            rw [← x, ← y, ← a]
        · rw [if_pos a] at hd
          simp only [Prod.mk.injEq] at hd
          omega
      obtain ⟨a, b, c⟩ := enc_dec l v s hC
      have hlen : t.length = v := by rw [← h1]; simp; omega
      refine ⟨by omega, by omega, ?_⟩
      unfold encX
      rw [hlen, c, ← h1, ← h2]
      rw [List.take_add]
  · rw [if_pos he] at h
    simp only [Prod.mk.injEq] at h
    omega

theorem decX_cut (t : List UInt8) (ht : t.length < 2 ^ 64) (j : Nat) (hj : j < (encX t).length) (most : Int) (hm : (t.length : Int) ≤ most) : (decX ((encX t).take j) most).2.2 = 3 := by
  unfold encX at hj ⊢
  by_cases h : j < (enc t.length).length
  · have e : (enc t.length ++ t).take j = (enc t.length).take j := List.take_append_of_le_length (by omega)
    rw [e]
    have hC := dec_cut t.length j h
    unfold decX decS
    rw [hC]
    simp
  · have e : (enc t.length ++ t).take j = enc t.length ++ t.take (j - (enc t.length).length) := by
      rw [List.take_append, List.take_of_length_le (by omega)]
    rw [e]
    have hS := decS_enc t.length ht (t.take (j - (enc t.length).length)) most hm
    unfold decX
    rw [hS]
    simp at hj ⊢
    rw [if_pos (by omega)]

end Go.Proofs.Ytkdhchdhgmaolaa.Pk

namespace Go.Proofs.Ytkdhchdhgmaolaa.Cd
open Go.RowKit
open Pk Va

theorem enc_cut {n m : Nat} (hn : n < 2 ^ 64) (hm : m < 2 ^ 64) {r s : List UInt8} (h : enc n ++ r = enc m ++ s) : n = m ∧ r = s := by
  have h1 := dec_enc n hn r
  rw [h, dec_enc m hm s] at h1
  have h2 : m = n := by injection h1
  subst h2
  exact ⟨rfl, List.append_cancel_left h⟩
theorem zz_one {n m : Int} (h : zz n = zz m) : n = m := by
  unfold zz at h
  split at h <;> split at h <;> omega
theorem zz_lt {n : Int} (h : Num64 n) : zz n < 2 ^ 64 := by
  obtain ⟨h1, h2⟩ := h
  unfold zz
  split <;> omega
theorem numB_cut {n m : Int} (hn : Num64 n) (hm : Num64 m) {r s : List UInt8} (h : numB n ++ r = numB m ++ s) : n = m ∧ r = s := by
  obtain ⟨h1, h2⟩ := enc_cut (zz_lt hn) (zz_lt hm) h
  exact ⟨zz_one h1, h2⟩
theorem txtB_cut {t u : List UInt8} (ht : t.length < 2 ^ 64) (hu : u.length < 2 ^ 64) {r s : List UInt8} (h : txtB t ++ r = txtB u ++ s) : t = u ∧ r = s := by
  unfold txtB at h
  rw [List.append_assoc, List.append_assoc] at h
  obtain ⟨h1, h2⟩ := enc_cut ht hu h
  exact List.append_inj h2 h1
theorem cntB_cut {n m : Nat} (hn : n < 2 ^ 64) (hm : m < 2 ^ 64) {r s : List UInt8} (h : cntB n ++ r = cntB m ++ s) : n = m ∧ r = s := enc_cut hn hm h
theorem byteB_one {k j : Int} (hk : 0 ≤ k ∧ k ≤ 5) (hj : 0 ≤ j ∧ j ≤ 5) (h : byteB k = byteB j) : k = j := by
  unfold byteB at h
  have h2 := congrArg UInt8.toNat h
  simp only [UInt8.toNat_ofNat'] at h2
  omega
theorem numsB_cut : ∀ {l k : List Int}, (∀ n ∈ l, Num64 n) → (∀ n ∈ k, Num64 n) → l.length = k.length → ∀ {r s : List UInt8}, numsB l ++ r = numsB k ++ s → l = k ∧ r = s
  | [], [], _, _, _, r, s, h => ⟨rfl, h⟩
  | n :: l, m :: k, hl, hk, hlen, r, s, h => by
    simp only [numsB, List.append_assoc] at h
    obtain ⟨rfl, h2⟩ := numB_cut (hl n (by simp)) (hk m (by simp)) h
    obtain ⟨rfl, h3⟩ := numsB_cut (fun x hx => hl x (by simp [hx])) (fun x hx => hk x (by simp [hx])) (by simpa using hlen) h2
    exact ⟨rfl, h3⟩
  | [], _ :: _, _, _, hlen, _, _, _ => by simp at hlen
  | _ :: _, [], _, _, hlen, _, _, _ => by simp at hlen

/-- What a right value of a kind is. -/
theorem right_is {k n : Int} {t : List UInt8} {l : List Int} (h : rightB ⟨k, n, t, l⟩ = true) :
    (0 ≤ k ∧ k ≤ 5) ∧ (k = 1 ∨ (k = 2 ∧ (n = 0 ∨ n = 1)) ∨ n = 0) ∧ ((k = 3 ∧ t.length ≤ 64) ∨ (k = 4 ∧ t.length ≤ 64) ∨ t = []) ∧ ((k = 5 ∧ l.length ≤ 16) ∨ l = []) := by
  have hp := right_parts h
  simp only [rightB, Bool.and_eq_true, Bool.or_eq_true, decide_eq_true_eq, beq_iff_eq, bne_iff_ne, ne_eq, List.isEmpty_iff] at h
  obtain ⟨⟨⟨hk, hn⟩, ht⟩, hl⟩ := h
  refine ⟨hk, ?_, ?_, ?_⟩
  · rcases hn with (h1 | h1) | h1
    · exact .inl h1
    · exact .inr (.inl h1)
    · exact .inr (.inr h1)
  · rcases hp with ⟨_, _, h3, _⟩ | ⟨_, h3, _⟩ | ⟨_, _, h3, _⟩ | ⟨h1, h2, _⟩ | ⟨h1, h2, _⟩ | ⟨h1, _⟩
    · exact .inr (.inr h3)
    · exact .inr (.inr h3)
    · exact .inr (.inr h3)
    · exact .inl ⟨h1, h2⟩
    · exact .inr (.inl ⟨h1, by omega⟩)
    · subst h1
      simp at ht
      exact .inr (.inr ht)
  · rcases hl with h1 | h1
    · exact .inl h1
    · exact .inr h1.2

theorem valB_cut : ∀ {v u : V}, (∀ n ∈ v.list, Num64 n) → (∀ n ∈ u.list, Num64 n) → Num64 v.num → Num64 u.num → rightB v = true → rightB u = true → ∀ {r s : List UInt8}, valB v ++ r = valB u ++ s → v = u ∧ r = s
  | ⟨k, n, t, l⟩, ⟨j, m, u, q⟩, hl, hq, hn, hm, hv, hu, r, s, h => by
    obtain ⟨k1, n1, t1, l1⟩ := right_is hv
    obtain ⟨j1, m1, u1, q1⟩ := right_is hu
    simp only [valB, List.cons_append] at h
    injection h with h1 h2
    have hkj := byteB_one k1 j1 h1
    subst hkj
    simp only [tailB] at h2
    obtain rfl | rfl | rfl | rfl | rfl | rfl : k = 0 ∨ k = 1 ∨ k = 2 ∨ k = 3 ∨ k = 4 ∨ k = 5 := by omega
    · simp at n1 m1 t1 u1 l1 q1 h2
      simp_all
    · simp at t1 u1 l1 q1 h2
      obtain ⟨h3, h4⟩ := numB_cut hn hm h2
      simp_all
    · simp at n1 m1 t1 u1 l1 q1 h2
      obtain ⟨h3, h4⟩ := h2
      have h5 := byteB_one (by omega) (by omega) h3
      simp_all
    · simp at n1 m1 t1 u1 l1 q1 h2
      obtain ⟨h3, h4⟩ := txtB_cut (by rcases t1 with h | h <;> simp_all <;> omega) (by rcases u1 with h | h <;> simp_all <;> omega) h2
      simp_all
    · simp at n1 m1 t1 u1 l1 q1 h2
      obtain ⟨h3, h4⟩ := txtB_cut (by rcases t1 with h | h <;> simp_all <;> omega) (by rcases u1 with h | h <;> simp_all <;> omega) h2
      simp_all
    · simp at n1 m1 t1 u1 l1 q1 h2
      obtain ⟨h3, h4⟩ := cntB_cut (by rcases l1 with h | h <;> simp_all <;> omega) (by rcases q1 with h | h <;> simp_all <;> omega) h2
      obtain ⟨h5, h6⟩ := numsB_cut hl hq h3 h4
      simp_all
theorem valsB_cut : ∀ {l k : List V}, (∀ v ∈ l, VIn64 v) → (∀ v ∈ k, VIn64 v) → l.all rightB = true → k.all rightB = true → l.length = k.length → ∀ {r s : List UInt8}, valsB l ++ r = valsB k ++ s → l = k ∧ r = s
  | [], [], _, _, _, _, _, r, s, h => ⟨rfl, h⟩
  | n :: l, m :: k, hl, hk, al, ak, hlen, r, s, h => by
    simp only [valsB, List.append_assoc] at h
    simp only [List.all_cons, Bool.and_eq_true] at al ak
    obtain ⟨rfl, h2⟩ := valB_cut (hl n (by simp)).nums (hk m (by simp)).nums (hl n (by simp)).num (hk m (by simp)).num al.1 ak.1 h
    obtain ⟨rfl, h3⟩ := valsB_cut (fun x hx => hl x (by simp [hx])) (fun x hx => hk x (by simp [hx])) al.2 ak.2 (by simpa using hlen) h2
    exact ⟨rfl, h3⟩
  | [], _ :: _, _, _, _, _, hlen, _, _, _ => by simp at hlen
  | _ :: _, [], _, _, _, _, hlen, _, _, _ => by simp at hlen
theorem rowB_cut {l k : List V} (hl : ∀ v ∈ l, VIn64 v) (hk : ∀ v ∈ k, VIn64 v) (ol : rowOk l = true) (ok : rowOk k = true) {r s : List UInt8} (h : rowB l ++ r = rowB k ++ s) : l = k ∧ r = s := by
  unfold rowOk at ol ok
  simp only [Bool.and_eq_true, decide_eq_true_eq] at ol ok
  unfold rowB at h
  rw [List.append_assoc, List.append_assoc] at h
  obtain ⟨h1, h2⟩ := cntB_cut (by omega) (by omega) h
  exact valsB_cut hl hk ol.2 ok.2 h1 h2
theorem mailB_cut {x y : MailP} (hx : ∀ v ∈ x.key, VIn64 v) (hx2 : ∀ v ∈ x.fields, VIn64 v) (hy : ∀ v ∈ y.key, VIn64 v) (hy2 : ∀ v ∈ y.fields, VIn64 v) (ix : Num64 x.id) (iy : Num64 y.id) (ox : mailOk x = true) (oy : mailOk y = true) {r s : List UInt8} (h : mailB x ++ r = mailB y ++ s) : x = y ∧ r = s := by
  obtain ⟨xi, xc, xk, xf⟩ := x
  obtain ⟨yi, yc, yk, yf⟩ := y
  unfold mailOk nameOk at ox oy
  simp only [Bool.and_eq_true, decide_eq_true_eq] at ox oy
  unfold mailB at h
  simp only [List.append_assoc] at h
  obtain ⟨rfl, h1⟩ := numB_cut ix iy h
  obtain ⟨rfl, h2⟩ := txtB_cut (by omega) (by omega) h1
  obtain ⟨rfl, h3⟩ := rowB_cut hx hy ox.1.2 oy.1.2 h2
  obtain ⟨rfl, h4⟩ := rowB_cut hx2 hy2 ox.2 oy.2 h3
  exact ⟨rfl, h4⟩

/-- Is one of two texts the beginning of the other one? -/
def aheadB (a b : List UInt8) : Bool := a.take (min a.length b.length) == b.take (min a.length b.length)
theorem ahead_no {α : Type} {f : α → List UInt8} {x y : α} (h : ∀ r s, f x ++ r = f y ++ s → x = y ∧ r = s) (hne : f x ≠ f y) : aheadB (f x) (f y) = false := by
  cases e : aheadB (f x) (f y) with
  | false => rfl
  | true =>
    unfold aheadB at e
    have e1 : (f x).take (min (f x).length (f y).length) = (f y).take (min (f x).length (f y).length) := by simpa using e
    exfalso
    apply hne
    rcases Nat.le_total (f x).length (f y).length with hle | hle
    · rw [Nat.min_eq_left hle, List.take_length] at e1
      have := h ((f y).drop (f x).length) [] (by rw [List.append_nil]; conv => lhs; lhs; rw [e1]; 
                                                 exact List.take_append_drop _ _)
      rw [this.1]
    · rw [Nat.min_eq_right hle, List.take_length] at e1
      have := h [] ((f x).drop (f y).length) (by rw [List.append_nil]; conv => rhs; lhs; rw [← e1]
                                                 exact (List.take_append_drop _ _).symm)
      rw [this.1]
end Go.Proofs.Ytkdhchdhgmaolaa.Cd

namespace Go.Proofs.Ytkdhchdhgmaolaa.Cd
open Pk Va

abbrev Rs (α : Type) := α × List UInt8 × Nat
def pByte (l : List UInt8) (b : Nat) : Rs Nat := rdG 0 (decB l) l b
def pNum (l : List UInt8) (b : Nat) : Rs Int := rdG 0 (decN l) l b
def pTruth (l : List UInt8) (b : Nat) : Rs Bool := rdG false (decT l) l b
def pText (most : Int) (l : List UInt8) (b : Nat) : Rs (List UInt8) := rdG [] (decX l most) l b
def pSmall (most : Int) (l : List UInt8) (b : Nat) : Rs Nat := rdG 0 (decS l most) l b
/-- What reject leaves. -/
def pRej (l : List UInt8) (b : Nat) : List UInt8 × Nat := if b ≠ 0 then (l, b) else ([2], 4)
def pSym (l : List UInt8) (b : Nat) : Rs (List UInt8) :=
  let x := pText 24 l b
  if nameB x.1 = true then x else (x.1, pRej x.2.1 x.2.2)
/-- So many more elements, behind those that were read. -/
def pLoop {α : Type} (f : List UInt8 → Nat → Rs α) : Nat → List α → List UInt8 → Nat → Rs (List α)
  | 0, acc, l, b => (acc, l, b)
  | n + 1, acc, l, b => if (f l b).2.2 ≠ 0 then ([], (f l b).2) else pLoop f n (acc ++ [(f l b).1]) (f l b).2.1 (f l b).2.2
def pAll {α : Type} (f : List UInt8 → Nat → Rs α) (most : Int) (l : List UInt8) (b : Nat) : Rs (List α) :=
  pLoop f (pSmall most l b).1 [] (pSmall most l b).2.1 (pSmall most l b).2.2
def pVal (l : List UInt8) (b : Nat) : Rs V :=
  let k := pByte l b
  if k.1 = 0 then (⟨0, 0, [], []⟩, k.2)
  else if k.1 = 1 then let x := pNum k.2.1 k.2.2; (⟨1, x.1, [], []⟩, x.2)
  else if k.1 = 2 then let x := pTruth k.2.1 k.2.2; (⟨2, if x.1 = true then 1 else 0, [], []⟩, x.2)
  else if k.1 = 3 then let x := pText 64 k.2.1 k.2.2; (⟨3, 0, x.1, []⟩, x.2)
  else if k.1 = 4 then let x := pSym k.2.1 k.2.2; (⟨4, 0, x.1, []⟩, x.2)
  else if k.1 = 5 then let x := pAll pNum 16 k.2.1 k.2.2; (⟨5, 0, [], x.1⟩, x.2)
  else (⟨(k.1 : Int), 0, [], []⟩, pRej k.2.1 k.2.2)

/-- What is left is never longer. -/
def Short (n : Nat) (l : List UInt8) : Prop := l.length ≤ n
theorem rdG_short {α : Type} (z : α) (d : α × Nat × Nat) (l : List UInt8) (b : Nat) : (rdG z d l b).2.1.length ≤ l.length := by
  unfold rdG
  split
  · exact Nat.le_refl _
  · split
    · exact Nat.le_refl _
    · simp
theorem pRej_short (l : List UInt8) (b n : Nat) (h : l.length ≤ n) (hn : 1 ≤ n) : (pRej l b).1.length ≤ n := by
  unfold pRej
  split
  · exact h
  · simpa using hn
theorem pSym_short (l : List UInt8) (b n : Nat) (h : l.length ≤ n) (hn : 1 ≤ n) : (pSym l b).2.1.length ≤ n := by
  have h1 : (pText 24 l b).2.1.length ≤ n := Nat.le_trans (rdG_short _ _ _ _) h
  unfold pSym
  simp only
  split
  · exact h1
  · exact pRej_short _ _ _ h1 hn
theorem pLoop_short {α : Type} (f : List UInt8 → Nat → Rs α) (N : Nat) (hf : ∀ l b, l.length ≤ N → (f l b).2.1.length ≤ N) : ∀ (n : Nat) (acc : List α) (l : List UInt8) (b : Nat), l.length ≤ N → (pLoop f n acc l b).2.1.length ≤ N
  | 0, acc, l, b, h => h
  | n + 1, acc, l, b, h => by
    unfold pLoop
    split
    · exact hf l b h
    · exact pLoop_short f N hf n _ _ _ (hf l b h)
theorem pAll_short {α : Type} (f : List UInt8 → Nat → Rs α) (N : Nat) (hf : ∀ l b, l.length ≤ N → (f l b).2.1.length ≤ N) (most : Int) (l : List UInt8) (b : Nat) (h : l.length ≤ N) : (pAll f most l b).2.1.length ≤ N :=
  pLoop_short f N hf _ _ _ _ (Nat.le_trans (rdG_short _ _ _ _) h)
theorem pVal_short (l : List UInt8) (b n : Nat) (h : l.length ≤ n) (hn : 1 ≤ n) : (pVal l b).2.1.length ≤ n := by
  have h1 : (pByte l b).2.1.length ≤ n := Nat.le_trans (rdG_short _ _ _ _) h
  unfold pVal
  simp only
  split
  · exact h1
  · split
    · exact Nat.le_trans (rdG_short _ _ _ _) h1
    · split
      · exact Nat.le_trans (rdG_short _ _ _ _) h1
      · split
        · exact Nat.le_trans (rdG_short _ _ _ _) h1
        · split
          · exact pSym_short _ _ _ h1 hn
          · split
            · exact pAll_short pNum n (fun l b h => Nat.le_trans (rdG_short _ _ _ _) h) _ _ _ h1
            · exact pRej_short _ _ _ h1 hn
/-- At most so many elements. -/
theorem pSmall_le (most : Int) (hm : 0 ≤ most) (l : List UInt8) (b : Nat) : ((pSmall most l b).1 : Int) ≤ most := by
  unfold pSmall rdG
  split
  · simpa using hm
  · split
    · simpa using hm
    · rename_i h1 h2
      unfold decS at h2 ⊢
      split
      · simpa using hm
      · split
        · simpa using hm
        · simp only; omega
theorem pLoop_len {α : Type} (f : List UInt8 → Nat → Rs α) : ∀ (n : Nat) (acc : List α) (l : List UInt8) (b : Nat), (pLoop f n acc l b).1.length ≤ acc.length + n
  | 0, acc, l, b => by simp [pLoop]
  | n + 1, acc, l, b => by
    unfold pLoop
    split
    · simp
    · have := pLoop_len f n (acc ++ [(f l b).1]) (f l b).2.1 (f l b).2.2
      simp at this ⊢
      omega
theorem pAll_len {α : Type} (f : List UInt8 → Nat → Rs α) (most : Nat) (l : List UInt8) (b : Nat) : (pAll f most l b).1.length ≤ most := by
  have h1 := pLoop_len f (pSmall most l b).1 [] (pSmall most l b).2.1 (pSmall most l b).2.2
  have h2 := pSmall_le most (by omega) l b
  unfold pAll
  simp at h1
  omega

end Go.Proofs.Ytkdhchdhgmaolaa.Cd

namespace Go.Proofs.Ytkdhchdhgmaolaa.Cd
open Go.RowKit
open Pk Va

theorem rdG_put {α : Type} (z x : α) (c r : List UInt8) : rdG z (x, c.length, 0) (c ++ r) 0 = (x, r, 0) := by
  simp [rdG]
theorem unz_back (n : Int) : unz (zz n) = n := by
  unfold unz zz
  by_cases h : n < 0
  · rw [if_pos h, if_pos (by omega)]; omega
  · rw [if_neg h, if_neg (by omega)]; omega
theorem pNum_put {n : Int} (h : Num64 n) (r : List UInt8) : pNum (numB n ++ r) 0 = (n, r, 0) := by
  unfold pNum decN numB
  rw [dec_enc _ (zz_lt h)]
  simp only
  rw [unz_back, rdG_put]
theorem pText_put {t : List UInt8} {most : Int} (h : (t.length : Int) ≤ most) (hm : most < 18446744073709551616) (r : List UInt8) : pText most (txtB t ++ r) 0 = (t, r, 0) := by
  unfold pText
  rw [show txtB t = encX t from rfl, decX_enc t r (by omega) most h, rdG_put]
theorem pSmall_put {n : Nat} {most : Int} (h : (n : Int) ≤ most) (hm : most < 18446744073709551616) (r : List UInt8) : pSmall most (enc n ++ r) 0 = (n, r, 0) := by
  unfold pSmall
  rw [decS_enc n (by omega) r most h, rdG_put]
theorem pByte_put (b : UInt8) (r : List UInt8) : pByte (b :: r) 0 = (b.toNat, r, 0) := by
  simp [pByte, decB, rdG]
theorem pLoop_put {α : Type} (f : List UInt8 → Nat → Rs α) (g : α → List UInt8) : ∀ (xs acc : List α) (r : List UInt8), (∀ x ∈ xs, ∀ r, f (g x ++ r) 0 = (x, r, 0)) → pLoop f xs.length acc (xs.flatMap g ++ r) 0 = (acc ++ xs, r, 0)
  | [], acc, r, _ => by simp [pLoop]
  | x :: xs, acc, r, h => by
    rw [List.length_cons, List.flatMap_cons, List.append_assoc]
    unfold pLoop
    rw [h x (by simp)]
    simp only [ne_eq, not_true_eq_false, if_false]
    rw [pLoop_put f g xs (acc ++ [x]) r (fun y hy => h y (by simp [hy]))]
    simp
theorem pAll_put {α : Type} (f : List UInt8 → Nat → Rs α) (g : α → List UInt8) (xs : List α) (most : Int) (hl : (xs.length : Int) ≤ most) (hm : most < 18446744073709551616) (r : List UInt8) (h : ∀ x ∈ xs, ∀ r, f (g x ++ r) 0 = (x, r, 0)) : pAll f most (cntB xs.length ++ (xs.flatMap g ++ r)) 0 = (xs, r, 0) := by
  unfold pAll cntB
  rw [pSmall_put hl hm]
  simp only
  rw [pLoop_put f g xs [] r h]
  simp
theorem numsB_flat : ∀ l : List Int, numsB l = l.flatMap numB
  | [] => rfl
  | n :: l => by simp [numsB, numsB_flat l]
theorem valsB_flat : ∀ l : List V, valsB l = l.flatMap valB
  | [] => rfl
  | n :: l => by simp [valsB, valsB_flat l]
theorem byteB_small (k : Int) (h : 0 ≤ k ∧ k ≤ 5) : (byteB k).toNat = k.toNat := by
  unfold byteB
  simp
  omega
theorem pVal_put {v : V} (hn : Num64 v.num) (hl : ∀ n ∈ v.list, Num64 n) (h : rightB v = true) (r : List UInt8) : pVal (valB v ++ r) 0 = (v, r, 0) := by
  obtain ⟨k, n, t, l⟩ := v
  obtain ⟨hk, _⟩ := right_is h
  have hp := right_parts h
  unfold pVal valB
  rw [List.cons_append, pByte_put]
  simp only
  rw [byteB_small k hk]
  rcases hp with ⟨rfl, rfl, rfl, rfl⟩ | ⟨rfl, rfl, rfl⟩ | ⟨rfl, hn2, rfl, rfl⟩ | ⟨rfl, h2, rfl⟩ | ⟨rfl, h2, rfl⟩ | ⟨rfl, h2⟩
  · simp [tailB]
  · simp only [tailB, if_true]
    rw [pNum_put hn]
    simp
  · simp only [tailB]
    rcases hn2 with rfl | rfl
    · simp [pTruth, decT, decB, rdG, byteB]
    · simp [pTruth, decT, decB, rdG, byteB]
  · have hn0 : n = 0 := by simp [rightB] at h; exact h.1
    subst hn0
    simp only [tailB]
    simp
    rw [pText_put (by omega) (by omega)]
    exact ⟨rfl, rfl⟩
  · have hn0 : n = 0 := by simp [rightB] at h; exact h.1
    have hnm : nameB t = true := by simp [rightB] at h; exact h.2
    subst hn0
    simp [tailB]
    unfold pSym
    rw [pText_put (by omega) (by omega)]
    simp [hnm]
  · have hn0 : n = 0 := by simp [rightB] at h; exact h.1.1
    have ht : t = [] := by simp [rightB] at h; exact h.1.2
    subst hn0 ht
    simp [tailB]
    rw [numsB_flat, pAll_put pNum numB l 16 (by omega) (by omega) r (fun x hx r => pNum_put (hl x hx) r)]
    exact ⟨rfl, rfl⟩
theorem pRow_put {l : List V} (h : ∀ v ∈ l, VIn64 v) (hr : rowOk l = true) (r : List UInt8) : pAll pVal 16 (rowB l ++ r) 0 = (l, r, 0) := by
  unfold rowOk at hr
  simp only [Bool.and_eq_true, decide_eq_true_eq, List.all_eq_true] at hr
  unfold rowB
  rw [List.append_assoc, valsB_flat]
  exact pAll_put pVal valB l 16 (by omega) (by omega) r (fun v hv r => pVal_put (h v hv).num (h v hv).nums (hr.2 v hv) r)
end Go.Proofs.Ytkdhchdhgmaolaa.Cd
