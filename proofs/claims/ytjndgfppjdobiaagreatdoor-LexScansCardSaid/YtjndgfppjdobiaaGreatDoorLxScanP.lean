/-
  One step of the scan, from its beginning on; plain mathematics.
-/
import Derived.Test.YtjndgfppjdobiaaGreatDoorLxHex
namespace Go.Proofs.YtjndgfppjdobiaaGreatDoor.Lx
open Va

/-- The scan stands ahead of place m, having found these. -/
structure ScanSt (l : List UInt8) (ts : List TA) (m : Nat) : Prop where
  ex : ∃ p, m = p + blk false (l.drop p) ∧ scanM l 0 = (ts ++ (scanM (l.drop p) p).1, (scanM (l.drop p) p).2)
theorem scan_start (l : List UInt8) : ScanSt l [] (blk false l) := ⟨0, by simp, by simp⟩
theorem scan_bad (l : List UInt8) (ts : List TA) (m : Nat) (h : ScanSt l ts m) (hlt : m < l.length) (ht : tokM (l.drop m) = none) : scanM l 0 = (ts, some m) := by
  obtain ⟨p, hm, hs⟩ := h.ex
  rw [hs, scanM_eq, List.drop_drop, ← hm]
  cases hd : l.drop m with
  | nil => have := congrArg List.length hd; rw [List.length_drop] at this; simp at this; omega
  | cons c r =>
    rw [hd] at ht
    simp only [ht, List.append_nil]
theorem scan_next (l : List UInt8) (ts : List TA) (m : Nat) (h : ScanSt l ts m) (hlt : m < l.length) (t : Tok) (ht : tokM (l.drop m) = some t) :
    ScanSt l (ts ++ [⟨t.kind, t.text, t.num, m⟩]) (m + t.len + blk false (l.drop (m + t.len))) := by
  obtain ⟨p, hm, hs⟩ := h.ex
  refine ⟨m + t.len, rfl, ?_⟩
  rw [hs, scanM_eq, List.drop_drop, ← hm]
  cases hd : l.drop m with
  | nil => have := congrArg List.length hd; rw [List.length_drop] at this; simp at this; omega
  | cons c r =>
    rw [hd] at ht
    simp only [ht]
    rw [← hd, List.drop_drop, List.append_assoc]
    rfl
theorem scan_end (l : List UInt8) (ts : List TA) (m : Nat) (h : ScanSt l ts m) (hge : l.length ≤ m) : scanM l 0 = (ts ++ [⟨0, [], 0, m⟩], none) := by
  obtain ⟨p, hm, hs⟩ := h.ex
  rw [hs, scanM_eq, List.drop_drop, ← hm, List.drop_eq_nil_of_le hge]
theorem tok_fits (l : List UInt8) (m : Nat) (t : Tok) (ht : tokM (l.drop m) = some t) (hlt : m < l.length) : 1 ≤ t.len ∧ m + t.len ≤ l.length := by
  have h := tok_len _ t ht
  rw [List.length_drop] at h
  omega

end Go.Proofs.YtjndgfppjdobiaaGreatDoor.Lx
