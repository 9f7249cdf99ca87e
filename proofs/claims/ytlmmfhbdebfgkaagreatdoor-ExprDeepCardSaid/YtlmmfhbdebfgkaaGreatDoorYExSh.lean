/-
  ExSh.
-/
import Derived.Test.YtlmmfhbdebfgkaaGreatDoorYExBadQ
import Derived.Test.YtlmmfhbdebfgkaaGreatDoorYLxToksQ
namespace Go.Proofs.YtlmmfhbdebfgkaaGreatDoor.Ex
open Lx
set_option linter.unusedVariables false
set_option linter.unusedSimpArgs false
structure Ag (ts ts' : List TA) (d : Nat) : Prop where
  mid : ∀ i, i + 1 < ts.length → bare (tk ts' (i + d)) = bare (tk ts i)
  last : (tk ts (ts.length - 1)).kind = 0
  close : bare (tk ts' (ts.length - 1 + d)) = sg [41]
section
variable {ts ts' : List TA} {d i : Nat}
theorem Ag.either (h : Ag ts ts' d) (hi : i < ts.length) : bare (tk ts' (i + d)) = bare (tk ts i) ∨ ((tk ts i).kind = 0 ∧ bare (tk ts' (i + d)) = sg [41]) := by
  by_cases e : i + 1 < ts.length
  · exact .inl (h.mid i e)
  · obtain rfl : i = ts.length - 1 := by omega
    exact .inr ⟨h.last, h.close⟩
theorem Ag.opAt (h : Ag ts ts' d) (hi : i < ts.length) (m : Nat) : opAt m (tk ts' (i + d)) = opAt m (tk ts i) := by
  rcases h.either hi with e | ⟨e1, e2⟩
  · unfold Ex.opAt
    rw [show (tk ts' (i + d)).kind = (tk ts i).kind from congrArg Prod.fst e, show (tk ts' (i + d)).text = (tk ts i).text from congrArg (fun p => p.2.1) e]
  · rw [opAt_sg e2, opOf_close (by simp), opAt_no (by rw [e1]; decide)]
theorem Ag.unAt (h : Ag ts ts' d) (hi : i < ts.length) : unAt (tk ts' (i + d)) = unAt (tk ts i) := by
  rcases h.either hi with e | ⟨e1, e2⟩
  · unfold Ex.unAt
    rw [show (tk ts' (i + d)).kind = (tk ts i).kind from congrArg Prod.fst e, show (tk ts' (i + d)).text = (tk ts i).text from congrArg (fun p => p.2.1) e]
  · rw [unAt_sg e2, unAt_no (by rw [e1]; decide)]; rfl
theorem Ag.kind (h : Ag ts ts' d) (hi : i < ts.length) {c : Int} (hc : c = 1 ∨ c = 2 ∨ c = 3 ∨ c = 4) : ((tk ts' (i + d)).kind = c) = ((tk ts i).kind = c) := by
  rcases h.either hi with e | ⟨e1, e2⟩
  · rw [show (tk ts' (i + d)).kind = (tk ts i).kind from congrArg Prod.fst e]
  · rw [e1, bare_kind e2]
    rcases hc with rfl | rfl | rfl | rfl <;> simp [sg]
theorem Ag.same (h : Ag ts ts' d) (hi : i < ts.length) (hk : (tk ts i).kind ≠ 0) : bare (tk ts' (i + d)) = bare (tk ts i) := by
  rcases h.either hi with e | ⟨e1, e2⟩
  · exact e
  · exact absurd e1 hk
theorem Ag.isS (h : Ag ts ts' d) (hi : i < ts.length) {g : List UInt8} (hg : g ≠ [41]) : isS ts' (i + d) g = isS ts i g := by
  rcases h.either hi with e | ⟨e1, e2⟩
  · unfold Ex.isS
    rw [show (tk ts' (i + d)).kind = (tk ts i).kind from congrArg Prod.fst e, show (tk ts' (i + d)).text = (tk ts i).text from congrArg (fun p => p.2.1) e]
  · rw [isS_sg e2]
    unfold Ex.isS
    rw [e1]
    simp [Ne.symm hg]
theorem Ag.isT (h : Ag ts ts' d) (hi : i < ts.length) {g : List UInt8} (ht : Ex.isS ts i g = true) : Ex.isS ts' (i + d) g = true := by
  have e := h.same hi (isS_ne ht)
  unfold Ex.isS at ht ⊢
  rw [show (tk ts' (i + d)).kind = (tk ts i).kind from congrArg Prod.fst e, show (tk ts' (i + d)).text = (tk ts i).text from congrArg (fun p => p.2.1) e]
  exact ht
theorem Ag.begins (h : Ag ts ts' d) (hi : i < ts.length) : begins ts' (i + d) = begins ts i := by
  unfold Ex.begins
  rw [h.isS hi (by decide), h.isS hi (by decide), h.isS hi (by decide), h.isS hi (by decide)]
  rcases h.either hi with e | ⟨e1, e2⟩
  · rw [show (tk ts' (i + d)).kind = (tk ts i).kind from congrArg Prod.fst e]
  · rw [e1, bare_kind e2]; rfl
end
def Out (d dn du : Nat) (r : R) (x : T) (s : St) : Prop :=
  (r = .ok x ⟨s.at_ + d, s.n + dn, s.open_ + du⟩ ∧ s.n + dn ≤ 200) ∨ (∃ a, r = .bad 26 a) ∨ (dn ≠ 0 ∧ ∃ a, r = .bad 27 a)
def Mov (d dn du : Nat) (s : St) : St := ⟨s.at_ + d, s.n + dn, s.open_ + du⟩
def RecH (ts : List TA) (d dn du o : Nat) (rec rec' : St → R) : Prop := ∀ s x s', StOk ts s → s.open_ = o → s.n + dn ≤ 200 → s.open_ + du ≤ 20 → rec s = .ok x s' → Out d dn du (rec' (Mov d dn du s)) x s'
section
variable {ts ts' : List TA} {d dn du : Nat}
theorem Out.then {r : R} {x t : T} {s1 s' : St} {k : T → St → R} (h : Out d dn du r x s1) (hk : s1.n + dn ≤ 200 → Out d dn du (k x (Mov d dn du s1)) t s') : Out d dn du (r.then k) t s' := by
  rcases h with ⟨rfl, h⟩ | ⟨a, rfl⟩ | ⟨h, a, rfl⟩
  · exact hk h
  · exact .inr (.inl ⟨a, rfl⟩)
  · exact .inr (.inr ⟨h, a, rfl⟩)
theorem leaf_sh {o n : Int} {t : List UInt8} {s s' : St} {x : T} (hn : s.n + dn ≤ 200) (h : leafR o n t s = .ok x s') : Out d dn du (leafR o n t (Mov d dn du s)) x s' := by
  unfold leafR at h ⊢
  split at h
  · cases h
  · rename_i h2
    cases h
    unfold Mov
    simp only
    by_cases h3 : s.n + dn = 200
    · rw [if_pos h3]; exact .inr (.inr ⟨by omega, _, rfl⟩)
    · rw [if_neg h3]
      refine .inl ⟨?_, by show s.n + 1 + dn ≤ 200; omega⟩
      simp only [R.ok.injEq, St.mk.injEq, true_and]
      exact ⟨by omega, by omega, trivial⟩
theorem leave_sh (hg : Ag ts ts' d) {g : List UInt8} {x t : T} {s s' : St} (hs : s.at_ < ts.length) (hn : s.n + dn ≤ 200) (ho : 1 ≤ s.open_) (h : leaveR ts g x s = .ok t s') : Out d dn du (leaveR ts' g x (Mov d dn du s)) t s' := by
  unfold leaveR at h ⊢
  split at h
  · rename_i hi
    cases h
    have : Ex.isS ts' (Mov d dn du s).at_ g = true := hg.isT hs hi
    rw [if_pos this]
    refine .inl ⟨?_, hn⟩
    unfold Mov
    simp only [R.ok.injEq, St.mk.injEq, true_and]
    exact ⟨by omega, by omega⟩
  · cases h
theorem enter_sh (he : Ends ts) {k k' : St → R} {x : T} {s s' : St} (hs : StOk ts s) (hk : (tk ts s.at_).kind ≠ 0) (hn : s.n + dn ≤ 200) (ho : s.open_ + du ≤ 20) (h : enterR s k = .ok x s')
    (hkk : ∀ s1, s1 = ⟨s.at_ + 1, s.n + 1, s.open_ + 1⟩ → StOk ts s1 → s1.n + dn ≤ 200 → s1.open_ + du ≤ 20 → k s1 = .ok x s' → Out d dn du (k' (Mov d dn du s1)) x s') : Out d dn du (enterR (Mov d dn du s) k') x s' := by
  obtain ⟨s1, e1, ho1, h1⟩ := enter_st he hs hk h
  unfold enterR
  by_cases h20 : (Mov d dn du s).open_ = 20
  · rw [if_pos h20]; exact .inr (.inl ⟨_, rfl⟩)
  rw [if_neg h20]
  by_cases h200 : (Mov d dn du s).n = 200
  · rw [if_pos h200]
    refine .inr (.inr ⟨?_, _, rfl⟩)
    have : s1.n ≤ 200 := ho1.n
    rw [e1] at this
    unfold Mov at h200
    simp only at this h200
    omega
  rw [if_neg h200]
  unfold Mov at h20 h200
  simp only at h20 h200
  have hx := hkk s1 e1 ho1 (by rw [e1]; simp only; omega) (by rw [e1]; simp only; omega) h1
  have em : (⟨(Mov d dn du s).at_ + 1, (Mov d dn du s).n + 1, (Mov d dn du s).open_ + 1⟩ : St) = Mov d dn du s1 := by
    rw [e1]
    unfold Mov
    simp only [St.mk.injEq]
    exact ⟨by omega, by omega, by omega⟩
  rw [em]
  exact hx
theorem loop_sh (he : Ends ts) (hg : Ag ts ts' d) {rec rec' : St → R} (hr : RecOk ts rec) {o n : Nat} (hq : RecH ts d dn du o rec rec') (hod : o + du ≤ 20) : ∀ (k : Nat) (x : T) (s : St) (t : T) (s' : St), StOk ts s → s.open_ = o → s.n + dn ≤ 200 → loopR rec ts n k x s = .ok t s' → Out d dn du (loopR rec' ts' n k x (Mov d dn du s)) t s'
  | 0, x, s, t, s', hs, ho, hn, h => by
    unfold loopR at h ⊢
    cases h
    exact .inl ⟨rfl, hn⟩
  | k + 1, x, s, t, s', hs, ho, hn, h => by
    unfold loopR at h ⊢
    have eop : opAt n (tk ts' (Mov d dn du s).at_) = opAt n (tk ts s.at_) := hg.opAt hs.at_ n
    rw [eop]
    split at h
    · rename_i hop
      cases h
      exact .inl ⟨rfl, hn⟩
    · rename_i op turned hop
      split at h
      · cases h
      · rename_i h200
        obtain ⟨y, s2, h1, h2⟩ := then_ok h
        have hnx := he.next hs.at_ (by rw [opAt_kind hop]; decide)
        have h3 := hs.n
        have ha : StOk ts ⟨s.at_ + 1, s.n + 1, s.open_⟩ := ⟨hnx, by simp; omega, hs.op⟩
        have hb := hr _ _ _ ha h1
        by_cases h4 : (Mov d dn du s).n = 200
        · rw [if_pos h4]
          unfold Mov at h4
          simp only at h4
          exact .inr (.inr ⟨by omega, _, rfl⟩)
        · rw [if_neg h4]
          unfold Mov at h4
          simp only at h4
          have hx := hq _ _ _ ha ho (by simp only; omega) (by simp only; omega) h1
          have em : (⟨(Mov d dn du s).at_ + 1, (Mov d dn du s).n + 1, (Mov d dn du s).open_⟩ : St) = Mov d dn du ⟨s.at_ + 1, s.n + 1, s.open_⟩ := by
            unfold Mov
            simp only [St.mk.injEq]
            exact ⟨by omega, by omega, trivial⟩
          rw [em]
          refine hx.then fun hn2 => ?_
          split at h2
          · rename_i e2
            rw [if_pos e2]
            cases h2
            exact .inl ⟨rfl, hn2⟩
          · rename_i e2
            rw [if_neg e2]
            exact loop_sh he hg hr hq hod k _ s2 t s' (hb.ok hs.op) (by rw [hb.op]; exact ho) hn2 h2
theorem args_sh (he : Ends ts) (hg : Ag ts ts' d) {rec rec' : St → R} (hr : RecOk ts rec) {o : Nat} (hq : RecH ts d dn du o rec rec') (ho1 : 1 ≤ o) (hod : o + du ≤ 20) {op : Int} : ∀ (k : Nat) (acc : F) (s : St) (t : T) (s' : St), StOk ts s → s.open_ = o → s.n + dn ≤ 200 → argsR rec ts op k acc s = .ok t s' → Out d dn du (argsR rec' ts' op k acc (Mov d dn du s)) t s'
  | 0, acc, s, t, s', hs, ho, hn, h => leave_sh hg hs.at_ hn (by omega) h
  | k + 1, acc, s, t, s', hs, ho, hn, h => by
    unfold argsR at h ⊢
    split at h
    · rename_i hi
      obtain ⟨y, s2, h1, h2⟩ := then_ok h
      have hnx := he.next hs.at_ (isS_ne hi)
      have ha : StOk ts ⟨s.at_ + 1, s.n, s.open_⟩ := ⟨hnx, hs.n, hs.op⟩
      have hb := hr _ _ _ ha h1
      have hi' : Ex.isS ts' (Mov d dn du s).at_ [44] = true := hg.isT hs.at_ hi
      rw [if_pos hi']
      have hx := hq _ _ _ ha ho hn (by simp only; omega) h1
      have em : (⟨(Mov d dn du s).at_ + 1, (Mov d dn du s).n, (Mov d dn du s).open_⟩ : St) = Mov d dn du ⟨s.at_ + 1, s.n, s.open_⟩ := by
        unfold Mov
        simp only [St.mk.injEq]
        exact ⟨by omega, trivial, trivial⟩
      rw [em]
      refine hx.then fun hn2 => ?_
      exact args_sh he hg hr hq ho1 hod k _ s2 t s' (hb.ok hs.op) (by rw [hb.op]; exact ho) hn2 h2
    · cases h
theorem elems_sh (he : Ends ts) (hg : Ag ts ts' d) {rec rec' : St → R} (hr : RecOk ts rec) {o : Nat} (hq : RecH ts d dn du o rec rec') (ho1 : 1 ≤ o) (hod : o + du ≤ 20) : ∀ (k : Nat) (acc : F) (s : St) (t : T) (s' : St), StOk ts s → s.open_ = o → s.n + dn ≤ 200 → elemsR rec ts k acc s = .ok t s' → Out d dn du (elemsR rec' ts' k acc (Mov d dn du s)) t s'
  | 0, acc, s, t, s', hs, ho, hn, h => by cases h
  | k + 1, acc, s, t, s', hs, ho, hn, h => by
    unfold elemsR at h ⊢
    have e93 : Ex.isS ts' (Mov d dn du s).at_ [93] = Ex.isS ts s.at_ [93] := hg.isS hs.at_ (by decide)
    have e44 : Ex.isS ts' (Mov d dn du s).at_ [44] = Ex.isS ts s.at_ [44] := hg.isS hs.at_ (by decide)
    rw [e93, e44]
    split at h
    · rename_i hi
      cases h
      rw [if_pos hi]
      refine .inl ⟨?_, hn⟩
      unfold Mov
      simp only [R.ok.injEq, St.mk.injEq, true_and]
      exact ⟨by omega, by omega⟩
    · rename_i hi
      rw [if_neg hi]
      split at h
      · rename_i h0
        rw [if_pos h0]
        obtain ⟨y, s2, h1, h2⟩ := then_ok h
        have hb := hr _ _ _ hs h1
        refine (hq _ _ _ hs ho hn (by omega) h1).then fun hn2 => ?_
        exact elems_sh he hg hr hq ho1 hod k _ s2 t s' (hb.ok hs.op) (by rw [hb.op]; exact ho) hn2 h2
      · rename_i h0
        rw [if_neg h0]
        split at h
        · rename_i hc
          rw [if_pos hc]
          split at h
          · split at h <;> cases h
          · rename_i h16
            rw [if_neg h16]
            obtain ⟨y, s2, h1, h2⟩ := then_ok h
            have hnx := he.next hs.at_ (isS_ne hc)
            have ha : StOk ts ⟨s.at_ + 1, s.n, s.open_⟩ := ⟨hnx, hs.n, hs.op⟩
            have hb := hr _ _ _ ha h1
            have hx := hq _ _ _ ha ho hn (by simp only; omega) h1
            have em : (⟨(Mov d dn du s).at_ + 1, (Mov d dn du s).n, (Mov d dn du s).open_⟩ : St) = Mov d dn du ⟨s.at_ + 1, s.n, s.open_⟩ := by
              unfold Mov
              simp only [St.mk.injEq]
              exact ⟨by omega, trivial, trivial⟩
            rw [em]
            refine hx.then fun hn2 => ?_
            exact elems_sh he hg hr hq ho1 hod k _ s2 t s' (hb.ok hs.op) (by rw [hb.op]; exact ho) hn2 h2
        · cases h
theorem call_sh (he : Ends ts) (hg : Ag ts ts' d) {rec rec' : St → R} (hr : RecOk ts rec) {op : Int} {n : Nat} {s s' : St} {t : T} (hq : RecH ts d dn du (s.open_ + 1) rec rec') (hs : StOk ts s) (hk : (tk ts s.at_).kind ≠ 0) (hn : s.n + dn ≤ 200) (ho : s.open_ + du ≤ 20) (h : callR rec ts op n s = .ok t s') :
    Out d dn du (callR rec' ts' op n (Mov d dn du s)) t s' := by
  have hnx := he.next hs.at_ hk
  unfold callR at h ⊢
  split at h
  · rename_i hi
    have hi' : Ex.isS ts' ((Mov d dn du s).at_ + 1) [40] = true := by
      have := hg.isT hnx hi
      unfold Mov
      simp only
      rw [show s.at_ + d + 1 = s.at_ + 1 + d by omega]
      exact this
    rw [if_pos hi']
    have em : (⟨(Mov d dn du s).at_ + 1, (Mov d dn du s).n, (Mov d dn du s).open_⟩ : St) = Mov d dn du ⟨s.at_ + 1, s.n, s.open_⟩ := by
      unfold Mov
      simp only [St.mk.injEq]
      exact ⟨by omega, trivial, trivial⟩
    rw [em]
    refine enter_sh he (⟨hnx, hs.n, hs.op⟩ : StOk ts ⟨s.at_ + 1, s.n, s.open_⟩) (isS_ne hi) hn ho h fun s1 e1 hs1 hn1 ho1 h1 => ?_
    obtain ⟨y, s2, h2, h3⟩ := then_ok h1
    have hb := hr _ _ _ hs1 h2
    have eo : s1.open_ = s.open_ + 1 := by rw [e1]
    refine (hq _ _ _ hs1 eo hn1 ho1 h2).then fun hn2 => ?_
    exact args_sh he hg hr hq (by omega) (by omega) _ _ s2 t s' (hb.ok hs1.op) (by rw [hb.op]; exact eo) hn2 h3
  · cases h
theorem field_sh (he : Ends ts) (hg : Ag ts ts' d) {s s' : St} {t : T} (hs : StOk ts s) (hk : (tk ts s.at_).kind ≠ 0) (hn : s.n + dn ≤ 200) (h : fieldR ts s = .ok t s') : Out d dn du (fieldR ts' (Mov d dn du s)) t s' := by
  have hnx := he.next hs.at_ hk
  unfold fieldR at h ⊢
  split at h
  · rename_i hi
    have hn2 := he.next hnx (isS_ne hi)
    have hi' : Ex.isS ts' ((Mov d dn du s).at_ + 1) [46] = true := by
      have := hg.isT hnx hi
      unfold Mov
      simp only
      rw [show s.at_ + d + 1 = s.at_ + 1 + d by omega]
      exact this
    rw [if_pos hi']
    split at h
    · rename_i hf
      have e2 := hg.same hn2 (by rw [hf]; decide)
      have ea : (Mov d dn du s).at_ + 2 = s.at_ + 1 + 1 + d := by unfold Mov; simp only; omega
      rw [ea]
      have hf' : (tk ts' (s.at_ + 1 + 1 + d)).kind = 1 := by rw [show (tk ts' (s.at_ + 1 + 1 + d)).kind = (tk ts (s.at_ + 1 + 1)).kind from congrArg Prod.fst e2]; exact hf
      rw [if_pos hf', show (tk ts' (s.at_ + 1 + 1 + d)).text = (tk ts (s.at_ + 1 + 1)).text from congrArg (fun p => p.2.1) e2]
      have em : (⟨s.at_ + 1 + 1 + d, (Mov d dn du s).n, (Mov d dn du s).open_⟩ : St) = Mov d dn du ⟨s.at_ + 2, s.n, s.open_⟩ := rfl
      rw [em]
      exact leaf_sh hn h
    · cases h
  · cases h
theorem group_sh (he : Ends ts) (hg : Ag ts ts' d) {rec rec' : St → R} (hr : RecOk ts rec) {s s' : St} {t : T} (hq : RecH ts d dn du (s.open_ + 1) rec rec') (hs : StOk ts s) (hk : (tk ts s.at_).kind ≠ 0) (hn : s.n + dn ≤ 200) (ho : s.open_ + du ≤ 20) (h : groupR rec ts s = .ok t s') :
    Out d dn du (groupR rec' ts' (Mov d dn du s)) t s' := by
  unfold groupR at h ⊢
  split at h
  · cases h
  · rename_i h20
    obtain ⟨y, s2, h1, h2⟩ := then_ok h
    have hnx := he.next hs.at_ hk
    have hop := hs.op
    have hs1 : StOk ts ⟨s.at_ + 1, s.n, s.open_ + 1⟩ := ⟨hnx, hs.n, by simp; omega⟩
    have hb := hr _ _ _ hs1 h1
    by_cases h3 : (Mov d dn du s).open_ = 20
    · rw [if_pos h3]; exact .inr (.inl ⟨_, rfl⟩)
    rw [if_neg h3]
    unfold Mov at h3
    simp only at h3
    have em : (⟨(Mov d dn du s).at_ + 1, (Mov d dn du s).n, (Mov d dn du s).open_ + 1⟩ : St) = Mov d dn du ⟨s.at_ + 1, s.n, s.open_ + 1⟩ := by
      unfold Mov
      simp only [St.mk.injEq]
      exact ⟨by omega, trivial, by omega⟩
    rw [em]
    refine (hq _ _ _ hs1 rfl hn (by simp only; omega) h1).then fun hn2 => ?_
    exact leave_sh hg hb.lt hn2 (by have : s2.open_ = s.open_ + 1 := hb.op; omega) h2
theorem word_sh (he : Ends ts) (hg : Ag ts ts' d) {rec rec' : St → R} (hr : RecOk ts rec) {w : List UInt8} {s s' : St} {t : T} (hq : RecH ts d dn du (s.open_ + 1) rec rec') (hs : StOk ts s) (hk : (tk ts s.at_).kind ≠ 0) (hn : s.n + dn ≤ 200) (ho : s.open_ + du ≤ 20) (h : wordR rec ts w s = .ok t s') :
    Out d dn du (wordR rec' ts' w (Mov d dn du s)) t s' := by
  unfold wordR at h ⊢
  repeat' split at h
  all_goals (simp only [*, if_true, if_false, ↓reduceIte])
  all_goals first | exact call_sh he hg hr hq hs hk hn ho h | exact field_sh he hg hs hk hn h | exact leaf_sh hn h
theorem prim_sh (he : Ends ts) (hg : Ag ts ts' d) {rec rec' : St → R} (hr : RecOk ts rec) {s s' : St} {t : T} (hq : RecH ts d dn du (s.open_ + 1) rec rec') (hs : StOk ts s) (hn : s.n + dn ≤ 200) (ho : s.open_ + du ≤ 20) (h : primR rec ts s = .ok t s') :
    Out d dn du (primR rec' ts' (Mov d dn du s)) t s' := by
  have k1 : ((tk ts' (Mov d dn du s).at_).kind = 1) = ((tk ts s.at_).kind = 1) := hg.kind hs.at_ (by simp)
  have k2 : ((tk ts' (Mov d dn du s).at_).kind = 2) = ((tk ts s.at_).kind = 2) := hg.kind hs.at_ (by simp)
  have k3 : ((tk ts' (Mov d dn du s).at_).kind = 3) = ((tk ts s.at_).kind = 3) := hg.kind hs.at_ (by simp)
  have k4 : ((tk ts' (Mov d dn du s).at_).kind = 4) = ((tk ts s.at_).kind = 4) := hg.kind hs.at_ (by simp)
  have hb : (tk ts s.at_).kind ≠ 0 → (tk ts' (Mov d dn du s).at_).text = (tk ts s.at_).text ∧ (tk ts' (Mov d dn du s).at_).num = (tk ts s.at_).num := fun hk => by
    have e := hg.same hs.at_ hk
    exact ⟨congrArg (fun p => p.2.1) e, congrArg (fun p => p.2.2) e⟩
  have e40 : Ex.isS ts' (Mov d dn du s).at_ [40] = Ex.isS ts s.at_ [40] := hg.isS hs.at_ (by decide)
  have e91 : Ex.isS ts' (Mov d dn du s).at_ [91] = Ex.isS ts s.at_ [91] := hg.isS hs.at_ (by decide)
  unfold primR at h ⊢
  rw [e40, e91]
  simp only [k1, k2, k3, k4]
  split at h
  · rename_i hk
    rw [if_pos hk, (hb (by rw [hk]; decide)).1]
    exact word_sh he hg hr hq hs (by rw [hk]; decide) hn ho h
  rename_i n1
  rw [if_neg n1]
  split at h
  · rename_i hk
    rw [if_pos hk, (hb (by rw [hk]; decide)).2]
    exact leaf_sh hn h
  rename_i n2
  rw [if_neg n2]
  split at h
  · rename_i hk
    rw [if_pos hk, (hb (by rw [hk]; decide)).1]
    exact leaf_sh hn h
  rename_i n3
  rw [if_neg n3]
  split at h
  · rename_i hk
    rw [if_pos hk, (hb (by rw [hk]; decide)).1]
    exact leaf_sh hn h
  rename_i n4
  rw [if_neg n4]
  split at h
  · rename_i hi
    rw [if_pos hi]
    exact group_sh he hg hr hq hs (isS_ne hi) hn ho h
  rename_i n5
  rw [if_neg n5]
  split at h
  · rename_i hi
    rw [if_pos hi]
    refine enter_sh he hs (isS_ne hi) hn ho h fun s1 e1 hs1 hn1 ho1 h1 => ?_
    have eo : s1.open_ = s.open_ + 1 := by rw [e1]
    exact elems_sh he hg hr hq (by omega) (by omega) _ _ s1 t s' hs1 eo hn1 h1
  · cases h
theorem lv_sh (he : Ends ts) (hg : Ag ts ts' d) : ∀ (f g n : Nat), n ≤ 5 → ∀ (s : St) (x : T) (s' : St), StOk ts s → s.n + dn ≤ 200 → s.open_ + du ≤ 20 → need n (Mov d dn du s) < g → lv ts f n s = .ok x s' → Out d dn du (lv ts' g n (Mov d dn du s)) x s'
  | 0, g, n, _, s, x, s', hs, hn, ho, hf, h => by cases h
  | f + 1, 0, n, _, s, x, s', hs, hn, ho, hf, h => by omega
  | f + 1, g + 1, n, hn5, s, x, s', hs, hn, ho, hf, h => by
    unfold need Mov at hf
    simp only at hf
    unfold lv at h
    split at h
    · rename_i h5
      subst h5
      have eu : unAt (tk ts' (Mov d dn du s).at_) = unAt (tk ts s.at_) := hg.unAt hs.at_
      rw [lv, if_pos rfl, eu]
      split at h
      · rename_i op hop
        refine enter_sh he hs (by rw [unAt_kind hop]; decide) hn ho h fun s1 e1 hs1 hn1 ho1 h1 => ?_
        obtain ⟨y, s2, h2, h3⟩ := then_ok h1
        have hb := lv_st he f 5 _ _ _ hs1 h2
        have eo : s1.open_ = s.open_ + 1 := by rw [e1]
        refine (lv_sh he hg f g 5 (by omega) s1 y s2 hs1 hn1 ho1 (by unfold need Mov; simp only; omega) h2).then fun hn2 => ?_
        cases h3
        refine .inl ⟨?_, hn2⟩
        unfold Mov
        simp only [R.ok.injEq, St.mk.injEq, true_and]
        have : s2.open_ = s1.open_ := hb.op
        omega
      · rename_i hop
        refine prim_sh he hg (lv_st he f 0) ?_ hs hn ho h
        intro s1 y s2 hs1 eo hn1 ho1 h1
        exact lv_sh he hg f g 0 (by omega) s1 y s2 hs1 hn1 ho1 (by unfold need Mov; simp only; omega) h1
    · rename_i h5
      rw [lv_low h5]
      obtain ⟨y, s1, h1, h2⟩ := then_ok h
      have hb := lv_st he f (n + 1) _ _ _ hs h1
      refine (lv_sh he hg f g (n + 1) (by omega) s y s1 hs hn ho (by unfold need Mov; simp only; omega) h1).then fun hn2 => ?_
      refine loop_sh he hg (lv_st he f (n + 1)) (o := s.open_) ?_ ho _ _ s1 x s' (hb.ok hs.op) hb.op hn2 h2
      intro s3 z s4 hs3 eo hn3 ho3 h3
      exact lv_sh he hg f g (n + 1) (by omega) s3 z s4 hs3 hn3 ho3 (by unfold need Mov; simp only; rw [eo]; omega) h3
end
end Go.Proofs.YtlmmfhbdebfgkaaGreatDoor.Ex
