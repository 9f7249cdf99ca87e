/-
  What is kept, as bytes: unlike things have unlike bytes, and none are the beginning of another's.
-/
import Derived.Test.YtgfgafpaokefhaaZCdVal
import Derived.Test.YtgfgafpaokefhaaZPkBack
namespace Go.Proofs.Ytgfgafpaokefhaa.Cd
open Go.RowKit
open Pk Va

theorem enc_cut {n m : Nat} (hn : n < 2 ^ 64) (hm : m < 2 ^ 64) {r s : List UInt8} (h : enc n ++ r = enc m ++ s) : n = m ∧ r = s := by
  have h1 := dec_enc n hn r
  rw [h, dec_enc m hm s] at h1
  have h2 : m = n := by injection h1
  subst h2
  exact ⟨rfl, List.append_cancel_left h⟩
theorem zz_one {n m : Int} (h : zz n = zz m) : n = m := by
  unfold zz at h
  split at h <;> split at h <;> omega
theorem zz_lt {n : Int} (h : Num64 n) : zz n < 2 ^ 64 := by
  obtain ⟨h1, h2⟩ := h
  unfold zz
  split <;> omega
theorem numB_cut {n m : Int} (hn : Num64 n) (hm : Num64 m) {r s : List UInt8} (h : numB n ++ r = numB m ++ s) : n = m ∧ r = s := by
  obtain ⟨h1, h2⟩ := enc_cut (zz_lt hn) (zz_lt hm) h
  exact ⟨zz_one h1, h2⟩
theorem txtB_cut {t u : List UInt8} (ht : t.length < 2 ^ 64) (hu : u.length < 2 ^ 64) {r s : List UInt8} (h : txtB t ++ r = txtB u ++ s) : t = u ∧ r = s := by
  unfold txtB at h
  rw [List.append_assoc, List.append_assoc] at h
  obtain ⟨h1, h2⟩ := enc_cut ht hu h
  exact List.append_inj h2 h1
theorem cntB_cut {n m : Nat} (hn : n < 2 ^ 64) (hm : m < 2 ^ 64) {r s : List UInt8} (h : cntB n ++ r = cntB m ++ s) : n = m ∧ r = s := enc_cut hn hm h
theorem byteB_one {k j : Int} (hk : 0 ≤ k ∧ k ≤ 5) (hj : 0 ≤ j ∧ j ≤ 5) (h : byteB k = byteB j) : k = j := by
  unfold byteB at h
  have h2 := congrArg UInt8.toNat h
  simp only [UInt8.toNat_ofNat'] at h2
  omega
theorem numsB_cut : ∀ {l k : List Int}, (∀ n ∈ l, Num64 n) → (∀ n ∈ k, Num64 n) → l.length = k.length → ∀ {r s : List UInt8}, numsB l ++ r = numsB k ++ s → l = k ∧ r = s
  | [], [], _, _, _, r, s, h => ⟨rfl, h⟩
  | n :: l, m :: k, hl, hk, hlen, r, s, h => by
    simp only [numsB, List.append_assoc] at h
    obtain ⟨rfl, h2⟩ := numB_cut (hl n (by simp)) (hk m (by simp)) h
    obtain ⟨rfl, h3⟩ := numsB_cut (fun x hx => hl x (by simp [hx])) (fun x hx => hk x (by simp [hx])) (by simpa using hlen) h2
    exact ⟨rfl, h3⟩
  | [], _ :: _, _, _, hlen, _, _, _ => by simp at hlen
  | _ :: _, [], _, _, hlen, _, _, _ => by simp at hlen

/-- What a right value of a kind is. -/
theorem right_is {k n : Int} {t : List UInt8} {l : List Int} (h : rightB ⟨k, n, t, l⟩ = true) :
    (0 ≤ k ∧ k ≤ 5) ∧ (k = 1 ∨ (k = 2 ∧ (n = 0 ∨ n = 1)) ∨ n = 0) ∧ ((k = 3 ∧ t.length ≤ 64) ∨ (k = 4 ∧ t.length ≤ 64) ∨ t = []) ∧ ((k = 5 ∧ l.length ≤ 16) ∨ l = []) := by
  have hp := right_parts h
  simp only [rightB, Bool.and_eq_true, Bool.or_eq_true, decide_eq_true_eq, beq_iff_eq, bne_iff_ne, ne_eq, List.isEmpty_iff] at h
  obtain ⟨⟨⟨hk, hn⟩, ht⟩, hl⟩ := h
  refine ⟨hk, ?_, ?_, ?_⟩
  · rcases hn with (h1 | h1) | h1
    · exact .inl h1
    · exact .inr (.inl h1)
    · exact .inr (.inr h1)
  · rcases hp with ⟨_, _, h3, _⟩ | ⟨_, h3, _⟩ | ⟨_, _, h3, _⟩ | ⟨h1, h2, _⟩ | ⟨h1, h2, _⟩ | ⟨h1, _⟩
    · exact .inr (.inr h3)
    · exact .inr (.inr h3)
    · exact .inr (.inr h3)
    · exact .inl ⟨h1, h2⟩
    · exact .inr (.inl ⟨h1, by omega⟩)
    · subst h1
      simp at ht
      exact .inr (.inr ht)
  · rcases hl with h1 | h1
    · exact .inl h1
    · exact .inr h1.2

theorem valB_cut : ∀ {v u : V}, (∀ n ∈ v.list, Num64 n) → (∀ n ∈ u.list, Num64 n) → Num64 v.num → Num64 u.num → rightB v = true → rightB u = true → ∀ {r s : List UInt8}, valB v ++ r = valB u ++ s → v = u ∧ r = s
  | ⟨k, n, t, l⟩, ⟨j, m, u, q⟩, hl, hq, hn, hm, hv, hu, r, s, h => by
    obtain ⟨k1, n1, t1, l1⟩ := right_is hv
    obtain ⟨j1, m1, u1, q1⟩ := right_is hu
    simp only [valB, List.cons_append] at h
    injection h with h1 h2
    have hkj := byteB_one k1 j1 h1
    subst hkj
    simp only [tailB] at h2
    obtain rfl | rfl | rfl | rfl | rfl | rfl : k = 0 ∨ k = 1 ∨ k = 2 ∨ k = 3 ∨ k = 4 ∨ k = 5 := by omega
    · simp at n1 m1 t1 u1 l1 q1 h2
      simp_all
    · simp at t1 u1 l1 q1 h2
      obtain ⟨h3, h4⟩ := numB_cut hn hm h2
      simp_all
    · simp at n1 m1 t1 u1 l1 q1 h2
      obtain ⟨h3, h4⟩ := h2
      have h5 := byteB_one (by omega) (by omega) h3
      simp_all
    · simp at n1 m1 t1 u1 l1 q1 h2
      obtain ⟨h3, h4⟩ := txtB_cut (by rcases t1 with h | h <;> simp_all <;> omega) (by rcases u1 with h | h <;> simp_all <;> omega) h2
      simp_all
    · simp at n1 m1 t1 u1 l1 q1 h2
      obtain ⟨h3, h4⟩ := txtB_cut (by rcases t1 with h | h <;> simp_all <;> omega) (by rcases u1 with h | h <;> simp_all <;> omega) h2
      simp_all
    · simp at n1 m1 t1 u1 l1 q1 h2
      obtain ⟨h3, h4⟩ := cntB_cut (by rcases l1 with h | h <;> simp_all <;> omega) (by rcases q1 with h | h <;> simp_all <;> omega) h2
      obtain ⟨h5, h6⟩ := numsB_cut hl hq h3 h4
      simp_all
theorem valsB_cut : ∀ {l k : List V}, (∀ v ∈ l, VIn64 v) → (∀ v ∈ k, VIn64 v) → l.all rightB = true → k.all rightB = true → l.length = k.length → ∀ {r s : List UInt8}, valsB l ++ r = valsB k ++ s → l = k ∧ r = s
  | [], [], _, _, _, _, _, r, s, h => ⟨rfl, h⟩
  | n :: l, m :: k, hl, hk, al, ak, hlen, r, s, h => by
    simp only [valsB, List.append_assoc] at h
    simp only [List.all_cons, Bool.and_eq_true] at al ak
    obtain ⟨rfl, h2⟩ := valB_cut (hl n (by simp)).nums (hk m (by simp)).nums (hl n (by simp)).num (hk m (by simp)).num al.1 ak.1 h
    obtain ⟨rfl, h3⟩ := valsB_cut (fun x hx => hl x (by simp [hx])) (fun x hx => hk x (by simp [hx])) al.2 ak.2 (by simpa using hlen) h2
    exact ⟨rfl, h3⟩
  | [], _ :: _, _, _, _, _, hlen, _, _, _ => by simp at hlen
  | _ :: _, [], _, _, _, _, hlen, _, _, _ => by simp at hlen
theorem rowB_cut {l k : List V} (hl : ∀ v ∈ l, VIn64 v) (hk : ∀ v ∈ k, VIn64 v) (ol : rowOk l = true) (ok : rowOk k = true) {r s : List UInt8} (h : rowB l ++ r = rowB k ++ s) : l = k ∧ r = s := by
  unfold rowOk at ol ok
  simp only [Bool.and_eq_true, decide_eq_true_eq] at ol ok
  unfold rowB at h
  rw [List.append_assoc, List.append_assoc] at h
  obtain ⟨h1, h2⟩ := cntB_cut (by omega) (by omega) h
  exact valsB_cut hl hk ol.2 ok.2 h1 h2
theorem mailB_cut {x y : MailP} (hx : ∀ v ∈ x.key, VIn64 v) (hx2 : ∀ v ∈ x.fields, VIn64 v) (hy : ∀ v ∈ y.key, VIn64 v) (hy2 : ∀ v ∈ y.fields, VIn64 v) (ix : Num64 x.id) (iy : Num64 y.id) (ox : mailOk x = true) (oy : mailOk y = true) {r s : List UInt8} (h : mailB x ++ r = mailB y ++ s) : x = y ∧ r = s := by
  obtain ⟨xi, xc, xk, xf⟩ := x
  obtain ⟨yi, yc, yk, yf⟩ := y
  unfold mailOk nameOk at ox oy
  simp only [Bool.and_eq_true, decide_eq_true_eq] at ox oy
  unfold mailB at h
  simp only [List.append_assoc] at h
  obtain ⟨rfl, h1⟩ := numB_cut ix iy h
  obtain ⟨rfl, h2⟩ := txtB_cut (by omega) (by omega) h1
  obtain ⟨rfl, h3⟩ := rowB_cut hx hy ox.1.2 oy.1.2 h2
  obtain ⟨rfl, h4⟩ := rowB_cut hx2 hy2 ox.2 oy.2 h3
  exact ⟨rfl, h4⟩

/-- Is one of two texts the beginning of the other one? -/
def aheadB (a b : List UInt8) : Bool := a.take (min a.length b.length) == b.take (min a.length b.length)
theorem ahead_no {α : Type} {f : α → List UInt8} {x y : α} (h : ∀ r s, f x ++ r = f y ++ s → x = y ∧ r = s) (hne : f x ≠ f y) : aheadB (f x) (f y) = false := by
  cases e : aheadB (f x) (f y) with
  | false => rfl
  | true =>
    unfold aheadB at e
    have e1 : (f x).take (min (f x).length (f y).length) = (f y).take (min (f x).length (f y).length) := by simpa using e
    exfalso
    apply hne
    rcases Nat.le_total (f x).length (f y).length with hle | hle
    · rw [Nat.min_eq_left hle, List.take_length] at e1
      have := h ((f y).drop (f x).length) [] (by rw [List.append_nil]; conv => lhs; lhs; rw [e1]; 
                                                 exact List.take_append_drop _ _)
      rw [this.1]
    · rw [Nat.min_eq_right hle, List.take_length] at e1
      have := h [] ((f x).drop (f y).length) (by rw [List.append_nil]; conv => rhs; lhs; rw [← e1]
                                                 exact (List.take_append_drop _ _).symm)
      rw [this.1]
end Go.Proofs.Ytgfgafpaokefhaa.Cd
