/-
  BlockLasts: the mathematics, and a device alone.
-/
import Derived.Test.YtndnfalkpkbpjaaBkAwake
import Derived.Test.YtndnfalkpkbpjaaBkLast
import Derived.Test.YtndnfalkpkbpjaaBkFlush
namespace Go.Proofs.Ytndnfalkpkbpjaa.Bk
open Go.RowKit

structure One (n0 : Nat) (w : World) (D R : Nat) (pv : Value) (d : Dev) : Prop where
  at_ : DevAt w D R pv d
  hi : ∀ k, k ∈ blocks D R pv → n0 ≤ k
theorem One.later {n0 : Nat} {w w' : World} {D R : Nat} {pv : Value} {d : Dev} (h : One n0 w D R pv d) (o : Onl [] w w') : One n0 w' D R pv d := ⟨h.at_.later o (by simp), h.hi⟩
theorem One.step {n0 : Nat} {w w' : World} {D R : Nat} {pv pv' : Value} {d d' : Dev} (h : One n0 w D R pv d) (hn : n0 ≤ w.heap.size)
    (k : DevAt w' D R pv' d') (f : Fresh w pv pv') (o : Onl (blocks D R pv) w w') : One n0 w' D R pv' d' ∧ Below n0 w w' := by
  refine ⟨⟨k, fun x hx => ?_⟩, o.below h.hi hn⟩
  rcases mem_blocks.1 hx with e | e | e
  · exact h.hi x (mem_blocks.2 (.inl e))
  · exact h.hi x (mem_blocks.2 (.inr (.inl e)))
  · rcases f x e with e | e
    · exact h.hi x (mem_blocks.2 (.inr (.inr e)))
    · omega

/-- A device whose power is on and that has no fuse. -/
def dev (dur : List (List UInt8)) (pend : List (Nat × List UInt8)) : Dev := ⟨dur, pend, 0, 0, 0, 0, false⟩
theorem dev_new (n : Nat) : newD n = dev (List.replicate n Z64) [] := rfl
theorem dev_write (dur : List (List UInt8)) (pend : List (Nat × List UInt8)) (i : Nat) (hi : i < dur.length) (l : List UInt8) (hl : l.length = 64) :
    writeE (dev dur pend) (i : Int) 64 = 0 ∧ writeD (dev dur pend) (i : Int) l = dev dur (pend ++ [(i, l)]) := by
  have hr : refE (dev dur pend) (i : Int) = 0 := by
    unfold refE
    rw [if_neg (by simp [dev]), if_neg (by simp [dev]; omega)]
  constructor
  · unfold writeE
    rw [if_neg (by omega), if_neg (by omega)]; rfl
  · unfold writeD
    rw [if_neg (by omega), if_neg (by omega)]
    simp [dev, burnD]
theorem dev_flush (dur : List (List UInt8)) (pend : List (Nat × List UInt8)) :
    flushE (dev dur pend) = 0 ∧ flushD (dev dur pend) = dev (flushK pend dur pend.length) [] := by
  constructor
  · rfl
  · unfold flushD; rw [if_neg (by simp [dev]), if_neg (by simp [dev, burnE])]; simp [dev, burnD]
theorem dev_kill (dur : List (List UInt8)) (pend : List (Nat × List UInt8)) (keep : Nat) (torn at_ : Int) :
    killD (dev dur pend) keep torn at_ = dev (loseK keep torn at_ pend dur pend.length) [] := rfl

/-- The writes of texts, one to each sector. -/
def tx (s : ByteArray) : List UInt8 := secT (s.data.toList.take 60)
theorem tx_len (s : ByteArray) : (tx s).length = 64 := secT_le _ (by rw [List.length_take]; omega)
def wl (T : Nat → ByteArray) (k : Nat) : List (Nat × List UInt8) := (List.range k).map fun i => (i, tx (T i))
theorem wl_len (T : Nat → ByteArray) (k : Nat) : (wl T k).length = k := by simp [wl]
theorem wl_succ (T : Nat → ByteArray) (k : Nat) : wl T (k + 1) = wl T k ++ [(k, tx (T k))] := by simp [wl, List.range_succ]
theorem wl_get (T : Nat → ByteArray) (n k : Nat) (h : k < n) : (wl T n).getD k (0, []) = (k, tx (T k)) := by simp [wl, List.getD, h]
theorem lose_get (keep : Nat) (torn at_ : Int) (T : Nat → ByteArray) (n : Nat) (dur : List (List UInt8)) (i : Nat) (ht : (i : Int) ≠ torn) : ∀ k, k ≤ n →
    (loseK keep torn at_ (wl T n) dur k).getD i [] = dur.getD i [] ∨ (i < k ∧ (loseK keep torn at_ (wl T n) dur k).getD i [] = tx (T i))
  | 0, _ => .inl rfl
  | k + 1, hk => by
    have ih := lose_get keep torn at_ T n dur i ht k (by omega)
    show (loseS keep torn at_ k ((wl T n).getD k (0, [])) (loseK keep torn at_ (wl T n) dur k)).getD i [] = _ ∨ _ ∧ (loseS keep torn at_ k ((wl T n).getD k (0, [])) (loseK keep torn at_ (wl T n) dur k)).getD i [] = _
    rw [wl_get T n k (by omega)]
    generalize loseK keep torn at_ (wl T n) dur k = s at *
    by_cases hi : i = k
    · subst hi
      unfold loseS
      rw [if_neg ht]
      split
      · by_cases hl : i < s.length
        · right; refine ⟨by omega, ?_⟩; simp [List.getD, hl]
        · left
          rcases ih with h | ⟨h, -⟩
          · rw [← h]; simp [List.getD, hl]
          · omega
      · rcases ih with h | ⟨h, -⟩
        · exact .inl h
        · omega
    · have key : ∀ x : List UInt8, (s.set k x).getD i [] = s.getD i [] := fun x => by simp [List.getD, Ne.symm hi]
      have e : (loseS keep torn at_ k (k, tx (T k)) s).getD i [] = s.getD i [] := by
        unfold loseS
        split
        · exact key _
        · split
          · exact key _
          · rfl
      rw [e]
      rcases ih with h | ⟨h, h2⟩
      · exact .inl h
      · exact .inr ⟨by omega, h2⟩

theorem flat_get (s : List (List UInt8)) (h : ∀ x ∈ s, x.length = 64) (i : Nat) (hi : i < s.length) : (s.flatten.drop (i * 64)).take 64 = s.getD i [] := by
  induction s generalizing i with
  | nil => simp at hi
  | cons a s ih =>
    have ha := h a (by simp)
    rw [List.flatten_cons]
    cases i with
    | zero => rw [Nat.zero_mul, List.drop_zero, ← ha, List.take_left]; rfl
    | succ i =>
      rw [show (i + 1) * 64 = a.length + i * 64 by omega, List.drop_length_add_append, ih (fun x hx => h x (by simp [hx])) i (by simpa using hi)]
      rfl
end Go.Proofs.Ytndnfalkpkbpjaa.Bk
