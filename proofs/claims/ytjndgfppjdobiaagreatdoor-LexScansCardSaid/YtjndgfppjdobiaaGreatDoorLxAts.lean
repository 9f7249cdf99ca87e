/-
  Where tokens stand, and how many there are; plain mathematics.
-/
import Derived.Test.YtjndgfppjdobiaaGreatDoorLxScanP
namespace Go.Proofs.YtjndgfppjdobiaaGreatDoor.Lx
open Va

theorem scan_at : ∀ (n : Nat) (l : List UInt8) (a : Nat), l.length ≤ n → (∀ t ∈ (scanM l a).1, t.at_ ≤ a + l.length) ∧ (scanM l a).1.length ≤ l.length + 1 := by
  intro n
  induction n with
  | zero =>
    intro l a hl
    have e : l = [] := List.eq_nil_of_length_eq_zero (by omega)
    subst e
    have : scanM [] a = ([⟨0, [], 0, a⟩], none) := rfl
    rw [this]
    exact ⟨fun t ht => by simp at ht; subst ht; simp, by simp⟩
  | succ n ih =>
    intro l a hl
    have hb := blk_le false l
    rw [scanM_eq]
    cases hm : l.drop (blk false l) with
    | nil => exact ⟨fun t ht => by simp at ht; subst ht; simp; omega, by simp⟩
    | cons c r =>
      simp only
      have hlen := congrArg List.length hm
      rw [List.length_drop] at hlen
      cases ht : tokM (c :: r) with
      | none => exact ⟨fun t ht => by simp at ht, by simp⟩
      | some t =>
        simp only
        have h1 := tok_len _ t ht
        have hd : ((c :: r).drop t.len).length = (c :: r).length - t.len := List.length_drop
        obtain ⟨i1, i2⟩ := ih ((c :: r).drop t.len) (a + blk false l + t.len) (by omega)
        rw [hd] at i1 i2
        refine ⟨fun u hu => ?_, ?_⟩
        · rcases List.mem_cons.1 hu with rfl | hu
          · simp only; omega
          · have := i1 u hu; omega
        · rw [List.length_cons]; omega
theorem size_app (s t : ByteArray) : (s ++ t).size = s.size + t.size := by simp [ByteArray.size_append]
theorem list_app (s t : ByteArray) : (s ++ t).data.toList = s.data.toList ++ t.data.toList := by simp

end Go.Proofs.YtjndgfppjdobiaaGreatDoor.Lx
