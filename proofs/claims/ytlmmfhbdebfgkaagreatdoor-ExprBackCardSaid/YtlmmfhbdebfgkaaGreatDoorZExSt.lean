/-
  ExSt.
-/
import Derived.Test.YtlmmfhbdebfgkaaGreatDoorZExPureQ
namespace Go.Proofs.YtlmmfhbdebfgkaaGreatDoor.Ex
open Lx
structure Ends (ts : List TA) : Prop where
  pos : 0 < ts.length
  mid : ∀ i, i + 1 < ts.length → (tk ts i).kind ≠ 0
  last : (tk ts (ts.length - 1)).kind = 0
theorem Ends.next {ts : List TA} (h : Ends ts) {i : Nat} (hi : i < ts.length) (hk : (tk ts i).kind ≠ 0) : i + 1 < ts.length := by
  by_cases e : i + 1 < ts.length
  · exact e
  · obtain rfl : i = ts.length - 1 := by omega
    exact absurd h.last hk
structure StOk (ts : List TA) (s : St) : Prop where
  at_ : s.at_ < ts.length
  n : s.n ≤ 200
  op : s.open_ ≤ 20
structure Adv (ts : List TA) (s s' : St) (o : Nat) : Prop where
  at_ : s.at_ ≤ s'.at_
  lt : s'.at_ < ts.length
  n : s.n ≤ s'.n
  le : s'.n ≤ 200
  op : s'.open_ = o
theorem Adv.ok {ts : List TA} {s s' : St} {o : Nat} (h : Adv ts s s' o) (ho : o ≤ 20) : StOk ts s' := ⟨h.lt, h.le, by rw [h.op]; exact ho⟩
theorem Adv.from {ts : List TA} {s s1 s' : St} {o p : Nat} (h : Adv ts s s1 p) (k : Adv ts s1 s' o) : Adv ts s s' o := ⟨Nat.le_trans h.at_ k.at_, k.lt, Nat.le_trans h.n k.n, k.le, k.op⟩
theorem isS_kind {l : List TA} {i : Nat} {s : List UInt8} (h : isS l i s = true) : (tk l i).kind = 5 ∧ (tk l i).text = s := by
  simpa [isS] using h
theorem isS_ne {l : List TA} {i : Nat} {s : List UInt8} (h : isS l i s = true) : (tk l i).kind ≠ 0 := by rw [(isS_kind h).1]; decide
theorem opAt_kind {n : Nat} {t : TA} {x : Int × Bool} (h : opAt n t = some x) : t.kind = 5 := by
  unfold opAt at h
  split at h
  · assumption
  · cases h
theorem unAt_kind {t : TA} {x : Int} (h : unAt t = some x) : t.kind = 5 := by
  unfold unAt at h
  split at h
  · assumption
  · cases h
def RecOk (ts : List TA) (rec : St → R) : Prop := ∀ s t s', StOk ts s → rec s = .ok t s' → Adv ts s s' s.open_
theorem then_ok {r : R} {k : T → St → R} {t : T} {s : St} (h : r.then k = .ok t s) : ∃ x s1, r = .ok x s1 ∧ k x s1 = .ok t s := by
  cases r with
  | ok x s1 => exact ⟨x, s1, rfl, h⟩
  | bad e a => cases h
theorem leaf_st {ts : List TA} (he : Ends ts) {op num : Int} {text : List UInt8} {s s' : St} {t : T} (hs : StOk ts s) (hk : (tk ts s.at_).kind ≠ 0) (h : leafR op num text s = .ok t s') : Adv ts s s' s.open_ := by
  unfold leafR at h
  split at h
  · cases h
  · cases h
    have := he.next hs.at_ hk
    have := hs.n
    exact ⟨by simp, by simpa using by omega, by simp, by simp; omega, rfl⟩
theorem leave_st {ts : List TA} (he : Ends ts) {sign : List UInt8} {x t : T} {s s' : St} (hs : StOk ts s) (h : leaveR ts sign x s = .ok t s') : Adv ts s s' (s.open_ - 1) := by
  unfold leaveR at h
  split at h
  · rename_i hi
    cases h
    have := he.next hs.at_ (isS_ne hi)
    exact ⟨by simp, by simpa using this, Nat.le_refl _, hs.n, rfl⟩
  · cases h
theorem enter_st {ts : List TA} (he : Ends ts) {k : St → R} {t : T} {s s' : St} (hs : StOk ts s) (hk : (tk ts s.at_).kind ≠ 0) (h : enterR s k = .ok t s') :
    ∃ s1, s1 = ⟨s.at_ + 1, s.n + 1, s.open_ + 1⟩ ∧ StOk ts s1 ∧ k s1 = .ok t s' := by
  unfold enterR at h
  split at h
  · cases h
  · split at h
    · cases h
    · have := he.next hs.at_ hk
      have := hs.n
      have := hs.op
      exact ⟨_, rfl, ⟨by simpa using by omega, by simp; omega, by simp; omega⟩, h⟩
theorem loop_st {ts : List TA} (he : Ends ts) {rec : St → R} (hr : RecOk ts rec) {n : Nat} : ∀ (k : Nat) (x : T) (s : St) (t : T) (s' : St), StOk ts s → loopR rec ts n k x s = .ok t s' → Adv ts s s' s.open_
  | 0, x, s, t, s', hs, h => by
    unfold loopR at h
    cases h
    exact ⟨Nat.le_refl _, hs.at_, Nat.le_refl _, hs.n, rfl⟩
  | k + 1, x, s, t, s', hs, h => by
    unfold loopR at h
    split at h
    · cases h
      exact ⟨Nat.le_refl _, hs.at_, Nat.le_refl _, hs.n, rfl⟩
    · rename_i op turned ho
      split at h
      · cases h
      · obtain ⟨y, s2, h1, h2⟩ := then_ok h
        have hn := he.next hs.at_ (by rw [opAt_kind ho]; decide)
        have h3 := hs.n
        have ha : StOk ts ⟨s.at_ + 1, s.n + 1, s.open_⟩ := ⟨hn, by simp; omega, hs.op⟩
        have hb := hr _ _ _ ha h1
        have hb2 : Adv ts s s2 s.open_ := ⟨Nat.le_trans (Nat.le_succ _) hb.at_, hb.lt, Nat.le_trans (Nat.le_succ _) hb.n, hb.le, hb.op⟩
        split at h2
        · cases h2
          exact hb2
        · have hc := loop_st he hr k _ s2 t s' (hb2.ok hs.op) h2
          rw [hb2.op] at hc
          exact hb2.from hc
theorem args_st {ts : List TA} (he : Ends ts) {rec : St → R} (hr : RecOk ts rec) {op : Int} : ∀ (k : Nat) (acc : F) (s : St) (t : T) (s' : St), StOk ts s → argsR rec ts op k acc s = .ok t s' → Adv ts s s' (s.open_ - 1)
  | 0, acc, s, t, s', hs, h => leave_st he hs h
  | k + 1, acc, s, t, s', hs, h => by
    unfold argsR at h
    split at h
    · rename_i hi
      obtain ⟨y, s2, h1, h2⟩ := then_ok h
      have hn := he.next hs.at_ (isS_ne hi)
      have hb := hr _ _ _ (⟨hn, hs.n, hs.op⟩ : StOk ts ⟨s.at_ + 1, s.n, s.open_⟩) h1
      have hb2 : Adv ts s s2 s.open_ := ⟨Nat.le_trans (Nat.le_succ _) hb.at_, hb.lt, hb.n, hb.le, hb.op⟩
      have hc := args_st he hr k _ s2 t s' (hb2.ok hs.op) h2
      rw [hb2.op] at hc
      exact hb2.from hc
    · cases h
theorem call_st {ts : List TA} (he : Ends ts) {rec : St → R} (hr : RecOk ts rec) {op : Int} {n : Nat} {s s' : St} {t : T} (hs : StOk ts s) (hk : (tk ts s.at_).kind ≠ 0) (h : callR rec ts op n s = .ok t s') : Adv ts s s' s.open_ := by
  unfold callR at h
  split at h
  · rename_i hi
    have hn := he.next hs.at_ hk
    obtain ⟨s1, e1, ho1, h1⟩ := enter_st he (⟨hn, hs.n, hs.op⟩ : StOk ts ⟨s.at_ + 1, s.n, s.open_⟩) (isS_ne hi) h
    obtain ⟨y, s2, h2, h3⟩ := then_ok h1
    have hb := hr _ _ _ ho1 h2
    have hc := args_st he hr _ _ s2 t s' (hb.ok ho1.op) h3
    rw [hb.op] at hc
    have hd := hb.from hc
    subst e1
    exact ⟨Nat.le_trans (by simp; omega) hd.at_, hd.lt, Nat.le_trans (by simp) hd.n, hd.le, by simpa using hd.op⟩
  · cases h
theorem elems_st {ts : List TA} (he : Ends ts) {rec : St → R} (hr : RecOk ts rec) : ∀ (k : Nat) (acc : F) (s : St) (t : T) (s' : St), StOk ts s → elemsR rec ts k acc s = .ok t s' → Adv ts s s' (s.open_ - 1)
  | 0, acc, s, t, s', hs, h => by cases h
  | k + 1, acc, s, t, s', hs, h => by
    unfold elemsR at h
    split at h
    · rename_i hi
      cases h
      have := he.next hs.at_ (isS_ne hi)
      exact ⟨by simp, by simpa using this, Nat.le_refl _, hs.n, rfl⟩
    · split at h
      · obtain ⟨y, s2, h1, h2⟩ := then_ok h
        have hb := hr _ _ _ hs h1
        have hc := elems_st he hr k _ s2 t s' (hb.ok hs.op) h2
        rw [hb.op] at hc
        exact hb.from hc
      · split at h
        · rename_i hi
          split at h
          · split at h <;> cases h
          · obtain ⟨y, s2, h1, h2⟩ := then_ok h
            have hn := he.next hs.at_ (isS_ne hi)
            have hb := hr _ _ _ (⟨hn, hs.n, hs.op⟩ : StOk ts ⟨s.at_ + 1, s.n, s.open_⟩) h1
            have hb2 : Adv ts s s2 s.open_ := ⟨Nat.le_trans (Nat.le_succ _) hb.at_, hb.lt, hb.n, hb.le, hb.op⟩
            have hc := elems_st he hr k _ s2 t s' (hb2.ok hs.op) h2
            rw [hb2.op] at hc
            exact hb2.from hc
        · cases h
theorem field_st {ts : List TA} (he : Ends ts) {s s' : St} {t : T} (hs : StOk ts s) (hk : (tk ts s.at_).kind ≠ 0) (h : fieldR ts s = .ok t s') : Adv ts s s' s.open_ := by
  unfold fieldR at h
  split at h
  · rename_i hi
    have hn := he.next hs.at_ hk
    have hn2 := he.next hn (isS_ne hi)
    split at h
    · rename_i hf
      have := leaf_st he (⟨hn2, hs.n, hs.op⟩ : StOk ts ⟨s.at_ + 2, s.n, s.open_⟩) (by simp only; rw [hf]; decide) h
      exact ⟨Nat.le_trans (by simp) this.at_, this.lt, this.n, this.le, this.op⟩
    · cases h
  · cases h
theorem group_st {ts : List TA} (he : Ends ts) {rec : St → R} (hr : RecOk ts rec) {s s' : St} {t : T} (hs : StOk ts s) (hk : (tk ts s.at_).kind ≠ 0) (h : groupR rec ts s = .ok t s') : Adv ts s s' s.open_ := by
  unfold groupR at h
  split at h
  · cases h
  · rename_i ho
    obtain ⟨y, s2, h1, h2⟩ := then_ok h
    have hn := he.next hs.at_ hk
    have hop := hs.op
    have hb := hr _ _ _ (⟨hn, hs.n, by simp; omega⟩ : StOk ts ⟨s.at_ + 1, s.n, s.open_ + 1⟩) h1
    have hc := leave_st he (hb.ok (by simp; omega)) h2
    rw [hb.op] at hc
    have hd := hb.from hc
    exact ⟨Nat.le_trans (by simp) hd.at_, hd.lt, hd.n, hd.le, by simpa using hd.op⟩
theorem word_st {ts : List TA} (he : Ends ts) {rec : St → R} (hr : RecOk ts rec) {w : List UInt8} {s s' : St} {t : T} (hs : StOk ts s) (hk : (tk ts s.at_).kind ≠ 0) (h : wordR rec ts w s = .ok t s') : Adv ts s s' s.open_ := by
  unfold wordR at h
  repeat' split at h
  all_goals first | exact call_st he hr hs hk h | exact field_st he hs hk h | exact leaf_st he hs hk h
theorem prim_st {ts : List TA} (he : Ends ts) {rec : St → R} (hr : RecOk ts rec) {s s' : St} {t : T} (hs : StOk ts s) (h : primR rec ts s = .ok t s') : Adv ts s s' s.open_ := by
  unfold primR at h
  split at h
  · rename_i hk; exact word_st he hr hs (by rw [hk]; decide) h
  · split at h
    · rename_i hk; exact leaf_st he hs (by rw [hk]; decide) h
    · split at h
      · rename_i hk; exact leaf_st he hs (by rw [hk]; decide) h
      · split at h
        · rename_i hk; exact leaf_st he hs (by rw [hk]; decide) h
        · split at h
          · rename_i hk; exact group_st he hr hs (isS_ne hk) h
          · split at h
            · rename_i hk
              obtain ⟨s1, e1, ho1, h1⟩ := enter_st he hs (isS_ne hk) h
              have hd := elems_st he hr _ _ _ _ _ ho1 h1
              subst e1
              exact ⟨Nat.le_trans (by simp) hd.at_, hd.lt, Nat.le_trans (by simp) hd.n, hd.le, by simpa using hd.op⟩
            · cases h
theorem lv_st {ts : List TA} (he : Ends ts) : ∀ f n, RecOk ts (lv ts f n)
  | 0, n => fun s t s' hs h => by cases h
  | f + 1, n => fun s t s' hs h => by
    unfold lv at h
    split at h
    · split at h
      · rename_i op ho
        obtain ⟨s1, e1, ho1, h1⟩ := enter_st he hs (by rw [unAt_kind ho]; decide) h
        obtain ⟨x, s2, h2, h3⟩ := then_ok h1
        have hb := lv_st he f 5 _ _ _ ho1 h2
        cases h3
        subst e1
        exact ⟨Nat.le_trans (by simp) hb.at_, hb.lt, Nat.le_trans (by simp) hb.n, hb.le, by simp [hb.op]⟩
      · exact prim_st he (lv_st he f 0) hs h
    · obtain ⟨x, s1, h1, h2⟩ := then_ok h
      have hb := lv_st he f (n + 1) _ _ _ hs h1
      have hc := loop_st he (lv_st he f (n + 1)) _ _ _ _ _ (hb.ok hs.op) h2
      rw [hb.op] at hc
      exact hb.from hc
end Go.Proofs.YtlmmfhbdebfgkaaGreatDoor.Ex
