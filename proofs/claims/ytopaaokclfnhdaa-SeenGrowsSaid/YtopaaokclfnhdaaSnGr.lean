/-
  Numbers that are added, one behind the other: plain mathematics.
-/
import Derived.Test.YtopaaokclfnhdaaSnPure
namespace Go.Proofs.Ytopaaokclfnhdaa.Sn

def stepG (l : List Int) (x : Int) : List Int := if l.contains x = true then l else ins l x
def gr (ids : List Int) : List Int := ids.foldl stepG []
theorem step_up {l : List Int} (h : upB l = true) (x : Int) : upB (stepG l x) = true := by
  unfold stepG
  by_cases hc : l.contains x = true
  · rw [if_pos hc]; exact h
  · rw [if_neg hc]; exact up_ins h x
theorem step_mem {l : List Int} {x y : Int} : y ∈ stepG l x ↔ y ∈ l ∨ y = x := by
  unfold stepG
  by_cases hc : l.contains x = true
  · rw [if_pos hc]
    constructor
    · exact .inl
    · rintro (h | rfl)
      · exact h
      · exact List.contains_iff_mem.1 hc
  · rw [if_neg hc, mem_ins]
    constructor
    · rintro (h | h)
      · exact .inr h
      · exact .inl h
    · rintro (h | h)
      · exact .inr h
      · exact .inl h
theorem step_len (l : List Int) (x : Int) : (stepG l x).length ≤ l.length + 1 := by
  unfold stepG
  by_cases hc : l.contains x = true
  · rw [if_pos hc]; omega
  · rw [if_neg hc, len_ins (by simpa using hc)]; omega
theorem fold_all : ∀ (ids l : List Int), upB l = true → upB (ids.foldl stepG l) = true ∧ (∀ y, y ∈ ids.foldl stepG l ↔ y ∈ l ∨ y ∈ ids) ∧ (ids.foldl stepG l).length ≤ l.length + ids.length
  | [], l, h => ⟨h, fun y => by simp, by simp⟩
  | x :: r, l, h => by
    obtain ⟨h1, h2, h3⟩ := fold_all r (stepG l x) (step_up h x)
    refine ⟨h1, fun y => ?_, ?_⟩
    · rw [List.foldl_cons, h2 y, step_mem, List.mem_cons, or_assoc]
    · have := step_len l x
      rw [List.foldl_cons, List.length_cons]; omega
theorem gr_up (ids : List Int) : upB (gr ids) = true := (fold_all ids [] (by decide)).1
theorem gr_mem (ids : List Int) (y : Int) : y ∈ gr ids ↔ y ∈ ids := by
  have := (fold_all ids [] (by decide)).2.1 y
  simpa [gr] using this
theorem gr_len (ids : List Int) : (gr ids).length ≤ ids.length := by
  have := (fold_all ids [] (by decide)).2.2
  simpa [gr] using this
theorem gr_take (ids : List Int) (k : Nat) (h : k < ids.length) : gr (ids.take (k + 1)) = stepG (gr (ids.take k)) (ids.getD k 0) := by
  unfold gr
  rw [List.take_succ_eq_append_getElem h, List.foldl_append]
  simp [List.getD, h]
theorem gr_contains (ids : List Int) (x : Int) : (gr ids).contains x = ids.contains x := by
  cases h : ids.contains x with
  | true => exact List.contains_iff_mem.2 ((gr_mem ids x).2 (List.contains_iff_mem.1 h))
  | false =>
    cases h2 : (gr ids).contains x with
    | false => rfl
    | true => rw [List.contains_iff_mem.2 ((gr_mem ids x).1 (List.contains_iff_mem.1 h2))] at h; cases h
theorem gr_add (ids : List Int) (x most : Int) (h : ((gr ids).length : Int) < most) : addM (gr ids) x most = if ids.contains x = true then ([], 45) else (stepG (gr ids) x, 0) := by
  rw [addM_up (gr_up ids), gr_contains]
  by_cases hc : ids.contains x = true
  · rw [if_pos hc, if_pos hc]
  · rw [if_neg hc, if_neg hc, if_neg (by omega)]
    unfold stepG
    rw [gr_contains, if_neg hc]
theorem step_same {ids : List Int} {x : Int} (h : ids.contains x = true) : stepG (gr ids) x = gr ids := by
  unfold stepG
  rw [gr_contains, if_pos h]
theorem gr_end (ids : List Int) (x : Int) : addM (gr ids) x ((gr ids).length : Int) = ([], if ids.contains x = true then 45 else 42) := by
  rw [addM_up (gr_up ids), gr_contains]
  by_cases hc : ids.contains x = true
  · rw [if_pos hc, if_pos hc]
  · rw [if_neg hc, if_neg hc, if_pos (by omega)]
theorem gr_known (ids : List Int) (x : Int) : knownB (gr ids) x = ids.contains x := by
  unfold knownB
  rw [gr_up, gr_contains, Bool.and_true]
theorem take_contains (ids : List Int) (k : Nat) (h : k < ids.length) (x : Int) : (ids.take (k + 1)).contains x = ((ids.take k).contains x || ids.getD k 0 == x) := by
  rw [List.take_succ_eq_append_getElem h]
  have : ids.getD k 0 = ids[k] := by simp [List.getD, h]
  rw [this]
  rw [Bool.eq_iff_iff, Bool.or_eq_true, List.contains_iff_mem, List.contains_iff_mem, List.mem_append, List.mem_singleton, beq_iff_eq]
  constructor
  · rintro (h | h)
    · exact .inl h
    · exact .inr h.symm
  · rintro (h | h)
    · exact .inl h
    · exact .inr h.symm
theorem gr_reverse (ids : List Int) : gr ids = gr ids.reverse :=
  up_ext (gr_up _) (gr_up _) (fun y => by rw [gr_mem, gr_mem, List.mem_reverse])
theorem getD_reverse (ids : List Int) (k : Nat) (h : k < ids.length) : ids.reverse.getD k 0 = ids.getD (ids.length - 1 - k) 0 := by
  have h2 : ids.length - 1 - k < ids.length := by omega
  simp [List.getD, h, h2]

end Go.Proofs.Ytopaaokclfnhdaa.Sn
