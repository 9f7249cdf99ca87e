/-
  BlockFuses: the mathematics; two devices' calls.
-/
import Derived.Test.YtndnfalkpkbpjaaBkReadAll
import Derived.Test.YtndnfalkpkbpjaaBkLasts
namespace Go.Proofs.Ytndnfalkpkbpjaa.Bk
open Go.RowKit

/-- One call: a flush, or a write. -/
inductive Op1 where
  | flush
  | write (i : Int) (l : List UInt8)
def opE (o : Op1) (d : Dev) : Nat := match o with
  | .flush => flushE d
  | .write i l => writeE d i l.length
def opD (o : Op1) (d : Dev) : Dev := match o with
  | .flush => flushD d
  | .write i l => writeD d i l

/-- Behind so many calls that were OK. -/
def St (n keep : Nat) (torn at_ : Int) (k done : Nat) (d1 d2 : Dev) : Prop := ∃ u p, d1 = dev u p ∧ u.length = 4 ∧ p.length ≤ k ∧ d2.dur.length = 4 ∧ d2.pend.length ≤ k ∧
  ((done < n ∧ d2 = ⟨u, p, n - done, keep, torn, at_, false⟩) ∨ (n ≤ done ∧ d2.off = true))

theorem flushK_len (p : List (Nat × List UInt8)) (s : List (List UInt8)) (k : Nat) : (flushK p s k).length = s.length := flushK_length p s k

theorem step_fuse {n keep : Nat} {torn at_ : Int} {k done : Nat} {d1 d2 : Dev} (h : St n keep torn at_ k done d1 d2) (o : Op1) :
    let x := opE o d1; let y := opE o d2; let done' := if x = 0 then done + 1 else done
    St n keep torn at_ (k + 1) done' (opD o d1) (opD o d2) ∧ (done' < n → x = y ∧ (opD o d1).pend.length = (opD o d2).pend.length) ∧ (n ≤ done' → y = 10) ∧ (opD o d2).off = decide (n ≤ done') := by
  obtain ⟨u, p, rfl, hu, hp, hu2, hp2, hc⟩ := h
  intro x y done'
  rcases hc with ⟨hd, rfl⟩ | ⟨hd, hoff⟩
  · -- the power is on
    have hb1 : burnE ⟨u, p, n - done, keep, torn, at_, false⟩ = if n - done = 1 then 10 else 0 := rfl
    cases o with
    | flush =>
      have e1 := dev_flush u p
      have hx : x = 0 := e1.1
      have hdn : done' = done + 1 := if_pos hx
      by_cases hl : done + 1 = n
      · have hcl : n - done = 1 := by omega
        have hy : y = 10 := by
          show flushE _ = 10
          unfold flushE; rw [if_neg (by simp), hb1, if_pos hcl]
        have hD : opD .flush (⟨u, p, n - done, keep, torn, at_, false⟩ : Dev) = burnD ⟨u, p, n - done, keep, torn, at_, false⟩ := by
          show flushD _ = _
          unfold flushD; rw [if_neg (by simp), if_pos (by rw [hb1, if_pos hcl]; omega)]
        have hB : burnD ⟨u, p, n - done, keep, torn, at_, false⟩ = ⟨loseK keep torn at_ p u p.length, [], 0, 0, 0, 0, true⟩ := by
          unfold burnD; rw [if_neg (by simp; omega), if_neg (by simp; omega)]; rfl
        rw [hdn, hD, hB]
        refine ⟨⟨flushK p u p.length, [], e1.2, by rw [flushK_len]; exact hu, by simp, by simp [loseK_length, hu], by simp, .inr ⟨by omega, rfl⟩⟩, fun h => by omega, fun _ => hy, by simp; omega⟩
      · have hcl : n - done ≠ 1 := by omega
        have hy : y = 0 := by
          show flushE _ = 0
          unfold flushE; rw [if_neg (by simp), hb1, if_neg hcl]
        have hB : burnD ⟨u, p, n - done, keep, torn, at_, false⟩ = ⟨u, p, n - done - 1, keep, torn, at_, false⟩ := by
          unfold burnD; rw [if_neg (by simp; omega), if_pos (by simp; omega)]
        have hD : opD .flush (⟨u, p, n - done, keep, torn, at_, false⟩ : Dev) = ⟨flushK p u p.length, [], n - done - 1, keep, torn, at_, false⟩ := by
          show flushD _ = _
          unfold flushD; rw [if_neg (by simp), if_neg (by rw [hb1, if_neg hcl]; simp), hB]
        rw [hdn, hD]
        refine ⟨⟨flushK p u p.length, [], e1.2, by rw [flushK_len]; exact hu, by simp, by simp [flushK_len, hu], by simp, .inl ⟨by omega, by rw [show n - (done + 1) = n - done - 1 by omega]⟩⟩, fun _ => ⟨by rw [hx, hy], by rw [show opD .flush (dev u p) = _ from e1.2]; rfl⟩, fun h => by omega, by simp; omega⟩
    | write i l =>
      have hr : refE ⟨u, p, n - done, keep, torn, at_, false⟩ i = refE (dev u p) i := rfl
      by_cases hw : refE (dev u p) i ≠ 0 ∨ l.length ≠ 64
      · -- refused alike
        have ex : x = y := by
          show writeE _ _ _ = writeE _ _ _
          unfold writeE
          rw [hr]
          by_cases h0 : refE (dev u p) i ≠ 0
          · rw [if_pos h0, if_pos h0]
          · rw [if_neg h0, if_neg h0, if_pos (by omega), if_pos (by omega)]
        have hx0 : x ≠ 0 := by
          show writeE _ _ _ ≠ 0
          unfold writeE
          by_cases h0 : refE (dev u p) i ≠ 0
          · rw [if_pos h0]; exact h0
          · rw [if_neg h0, if_pos (by omega)]; omega
        have hdn : done' = done := if_neg hx0
        have hD1 : opD (.write i l) (dev u p) = dev u p := by
          show writeD _ _ _ = _
          unfold writeD
          by_cases h0 : refE (dev u p) i ≠ 0
          · rw [if_pos h0]
          · rw [if_neg h0, if_pos (by omega)]
        have hD2 : opD (.write i l) (⟨u, p, n - done, keep, torn, at_, false⟩ : Dev) = ⟨u, p, n - done, keep, torn, at_, false⟩ := by
          show writeD _ _ _ = _
          unfold writeD
          rw [hr]
          by_cases h0 : refE (dev u p) i ≠ 0
          · rw [if_pos h0]
          · rw [if_neg h0, if_pos (by omega)]
        rw [hdn, hD1, hD2]
        exact ⟨⟨u, p, rfl, hu, by omega, hu2, by simp only at hp2 ⊢; omega, .inl ⟨hd, rfl⟩⟩, fun _ => ⟨ex, rfl⟩, fun h => by omega, by simp; omega⟩
      · have h0 : ¬ refE (dev u p) i ≠ 0 := fun h => hw (.inl h)
        have hl : ¬ l.length ≠ 64 := fun h => hw (.inr h)
        have hx : x = 0 := by
          show writeE _ _ _ = 0
          unfold writeE; rw [if_neg h0, if_neg hl]; rfl
        have hdn : done' = done + 1 := if_pos hx
        have hD1 : opD (.write i l) (dev u p) = dev u (p ++ [(i.toNat, l)]) := by
          show writeD _ _ _ = _
          unfold writeD; rw [if_neg h0, if_neg hl]; simp [burnD, dev]
        have hbe : burnE ⟨u, p ++ [(i.toNat, l)], n - done, keep, torn, at_, false⟩ = if n - done = 1 then 10 else 0 := rfl
        have hY : y = if n - done = 1 then 10 else 0 := by
          show writeE _ _ _ = _
          unfold writeE; rw [hr, if_neg h0, if_neg hl]; rfl
        have hD2 : opD (.write i l) (⟨u, p, n - done, keep, torn, at_, false⟩ : Dev) = burnD ⟨u, p ++ [(i.toNat, l)], n - done, keep, torn, at_, false⟩ := by
          show writeD _ _ _ = _
          unfold writeD; rw [hr, if_neg h0, if_neg hl]
        by_cases hln : done + 1 = n
        · have hcl : n - done = 1 := by omega
          rw [if_pos hcl] at hY
          have hB : burnD ⟨u, p ++ [(i.toNat, l)], n - done, keep, torn, at_, false⟩ = ⟨loseK keep torn at_ (p ++ [(i.toNat, l)]) u (p ++ [(i.toNat, l)]).length, [], 0, 0, 0, 0, true⟩ := by
            unfold burnD; rw [if_neg (by simp; omega), if_neg (by simp; omega)]; rfl
          rw [hdn, hD1, hD2, hB]
          exact ⟨⟨u, _, rfl, hu, by simp; omega, by simp [loseK_length, hu], by simp, .inr ⟨by omega, rfl⟩⟩, fun h => by omega, fun _ => hY, by simp; omega⟩
        · have hcl : n - done ≠ 1 := by omega
          rw [if_neg hcl] at hY
          have hB : burnD ⟨u, p ++ [(i.toNat, l)], n - done, keep, torn, at_, false⟩ = ⟨u, p ++ [(i.toNat, l)], n - done - 1, keep, torn, at_, false⟩ := by
            unfold burnD; rw [if_neg (by simp; omega), if_pos (by simp; omega)]
          rw [hdn, hD1, hD2, hB]
          refine ⟨⟨u, _, rfl, hu, by simp; omega, hu, by simp; omega, .inl ⟨by omega, by rw [show n - (done + 1) = n - done - 1 by omega]⟩⟩, fun _ => ⟨by rw [hx, hY], rfl⟩, fun h => by omega, by simp; omega⟩
  · -- the power is off
    have hy : y = 10 := by
      cases o with
      | flush => show flushE _ = 10; unfold flushE; rw [if_pos hoff]
      | write i l =>
        have hr : refE d2 i = 10 := by unfold refE; rw [if_pos hoff]
        show writeE _ _ _ = 10; unfold writeE; rw [hr]; rfl
    have hD : opD o d2 = d2 := by
      cases o with
      | flush => show flushD _ = _; unfold flushD; rw [if_pos hoff]
      | write i l =>
        have hr : refE d2 i = 10 := by unfold refE; rw [if_pos hoff]
        show writeD _ _ _ = _; unfold writeD; rw [hr]; rfl
    have hdn : n ≤ done' := by show n ≤ if x = 0 then done + 1 else done; split <;> omega
    have hD1 : ∃ u' p', opD o (dev u p) = dev u' p' ∧ u'.length = 4 ∧ p'.length ≤ k + 1 := by
      cases o with
      | flush => exact ⟨_, _, (dev_flush u p).2, by rw [flushK_len]; exact hu, by simp⟩
      | write i l =>
        by_cases h0 : refE (dev u p) i ≠ 0
        · exact ⟨u, p, by show writeD _ _ _ = _; unfold writeD; rw [if_pos h0], hu, by omega⟩
        · by_cases hl : l.length ≠ 64
          · exact ⟨u, p, by show writeD _ _ _ = _; unfold writeD; rw [if_neg h0, if_pos hl], hu, by omega⟩
          · exact ⟨u, p ++ [(i.toNat, l)], by show writeD _ _ _ = _; unfold writeD; rw [if_neg h0, if_neg hl]; simp [burnD, dev], hu, by simp; omega⟩
    obtain ⟨u', p', e1, e2, e3⟩ := hD1
    rw [hD]
    exact ⟨⟨u', p', e1, e2, e3, hu2, by omega, .inr ⟨hdn, hoff⟩⟩, fun h => by omega, fun _ => hy, by rw [hoff]; simp [hdn]⟩
end Go.Proofs.Ytndnfalkpkbpjaa.Bk
