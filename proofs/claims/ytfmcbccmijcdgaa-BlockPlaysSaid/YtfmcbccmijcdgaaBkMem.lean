/-
  A block device as plain data, and where it lies in memory; what changes and what stays: lemmas on worlds.
-/
import Derived.Test.YtfmcbccmijcdgaaMem
import Derived.Deep.MidRow
import Derived.Deep.Upon
import Derived.Deep.WholeRow
import Derived.Laws.CopyRow
import Derived.Lib.LazyBuf
import Derived.Lib.SlBuf
namespace Go.Proofs.Ytfmcbccmijcdgaa.Bk
open Go.RowKit

/-! ### what changes -/
/-- Nothing that was there changes, but in the blocks of B. -/
structure Onl (B : List Nat) (w w' : World) : Prop where
  os : w'.os = w.os
  tape : w'.tape = w.tape
  output : w'.output = w.output
  size : w.heap.size ≤ w'.heap.size
  block : ∀ k, k < w.heap.size → k ∉ B → w'.heap[k]? = w.heap[k]?

theorem Onl.refl (B : List Nat) (w : World) : Onl B w w := ⟨rfl, rfl, rfl, Nat.le_refl _, fun _ _ _ => rfl⟩
theorem Onl.trans {B : List Nat} {a b c : World} (h : Onl B a b) (k : Onl B b c) : Onl B a c :=
  ⟨k.os.trans h.os, k.tape.trans h.tape, k.output.trans h.output, Nat.le_trans h.size k.size, fun i hi hn => (k.block i (Nat.lt_of_lt_of_le hi h.size) hn).trans (h.block i hi hn)⟩
theorem Onl.mono {B B' : List Nat} {w w' : World} (h : Onl B w w') (hB : ∀ k, k ∈ B → k ∈ B') : Onl B' w w' :=
  ⟨h.os, h.tape, h.output, h.size, fun k hk hn => h.block k hk (fun e => hn (hB k e))⟩
/-- What was changed may be new: a block that was not there. -/
theorem Onl.less {B : List Nat} {w w' : World} {g : Nat} (h : Onl (g :: B) w w') (hg : w.heap.size ≤ g) : Onl B w w' :=
  ⟨h.os, h.tape, h.output, h.size, fun k hk hn => h.block k hk (by simp only [List.mem_cons, not_or]; exact ⟨by omega, hn⟩)⟩
theorem Onl.of_below {w w' : World} (h : Below w.heap.size w w') (B : List Nat) : Onl B w w' := ⟨h.os, h.tape, h.output, h.size, fun k hk _ => h.block k hk⟩
theorem Onl.below {B : List Nat} {w w' : World} {n : Nat} (h : Onl B w w') (hB : ∀ k, k ∈ B → n ≤ k) (hn : n ≤ w.heap.size) : Below n w w' :=
  ⟨h.os, h.tape, h.output, h.size, fun k hk => h.block k (by omega) (fun e => by have := hB k e; omega)⟩
theorem Onl.setCell {B : List Nat} {a w : World} (h : Onl B a w) {p : Addr} (hp : p.block ∈ B) (u : Value) : Onl B a (w.setCell p u) :=
  ⟨h.os, h.tape, h.output, by simpa [World.setCell] using h.size, fun k hk hn => by
    rw [Below.heap_setCell _ _ _ _ (fun e => hn (by rw [e]; exact hp))]; exact h.block k hk hn⟩
theorem Onl.alloc {B : List Nat} {a w : World} (h : Onl B a w) (o : Obj) : Onl B a (w.alloc o) :=
  h.trans (Onl.of_below ((Below.refl _ _).alloc (Nat.le_refl _) o) B)
theorem Onl.drew {B : List Nat} {a w : World} (h : Onl B a w) : Onl B a w.drew := ⟨h.os, h.tape, h.output, h.size, h.block⟩
theorem Onl.setCells {B : List Nat} {b : Nat} (hb : b ∈ B) : ∀ (vs : List Value) (o : Nat) {a w : World}, Onl B a w → Onl B a (w.setCells b o vs)
  | [], _, _, _, h => h
  | v :: r, o, _, _, h => by rw [World.setCells]; exact Onl.setCells hb r (o + 1) (h.setCell (p := ⟨b, o, none⟩) hb v)
theorem Onl.grown {B : List Nat} {a w w' : World} {row : Option Nat} (h : Onl B a w) (hg : w.grownBy w' row) (hr : ∀ k, row = some k → k ∈ B) : Onl B a w' :=
  ⟨hg.os.trans h.os, hg.tape.trans h.tape, hg.output.trans h.output, Nat.le_trans h.size hg.size, fun k hk hn =>
    (hg.block k (Nat.lt_of_lt_of_le hk h.size) (fun e => hn (hr k e.symm))).trans (h.block k hk hn)⟩

/-! ### cells -/
/-- A sector's bytes as cells; a write's. -/
def secC (l : List UInt8) : List Value := l.map fun c => .int .u8 (c.toNat : Int)
def wrC (i : Nat) (l : List UInt8) : List Value := .int .i64 (i : Int) :: secC l
def Z64 : List UInt8 := List.replicate 64 0
theorem secC_length (l : List UInt8) : (secC l).length = l.length := by simp [secC]
theorem wrC_length (i : Nat) (l : List UInt8) : (wrC i l).length = l.length + 1 := by simp [wrC, secC]
theorem secC_one (l : List UInt8) : ∀ v ∈ secC l, v.oneCell' = true := by
  intro v hv
  simp only [secC, List.mem_map] at hv
  obtain ⟨b, _, rfl⟩ := hv
  rfl
theorem wrC_one (i : Nat) (l : List UInt8) : ∀ v ∈ wrC i l, v.oneCell' = true := by
  intro v hv
  simp only [wrC, List.mem_cons] at hv
  rcases hv with rfl | hv
  · rfl
  · exact secC_one l v hv
theorem Z64_length : Z64.length = 64 := by simp [Z64]
theorem zero_sec (w : World) : (zeroValue 66).run Try.prog w = .ok (.agg (secC Z64).toArray) w := by kernel_rfl
theorem zero_wr (w : World) : (zeroValue 68).run Try.prog w = .ok (.agg (wrC 0 Z64).toArray) w := by kernel_rfl
theorem wr_ne (i : Nat) (l : List UInt8) : ((wrC i l).toArray = #[]) = False := by simp [wrC]
theorem wr_set (i j : Nat) (l : List UInt8) : (wrC i l).toArray.setIfInBounds 0 (.int .i64 (j : Int)) = (wrC j l).toArray := by simp [wrC]

def durC (s : List (List UInt8)) : List Value := s.flatMap secC
def pendC (p : List (Nat × List UInt8)) : List Value := p.flatMap fun x => wrC x.1 x.2
theorem durC_length (s : List (List UInt8)) (h : ∀ x ∈ s, x.length = 64) : (durC s).length = s.length * 64 := by
  induction s with
  | nil => rfl
  | cons a s ih =>
    show (secC a ++ durC s).length = _
    rw [List.length_append, secC_length, h a (by simp), ih (fun x hx => h x (by simp [hx]))]
    simp; omega
theorem pendC_length (s : List (Nat × List UInt8)) (h : ∀ x ∈ s, x.2.length = 64) : (pendC s).length = s.length * 65 := by
  induction s with
  | nil => rfl
  | cons a s ih =>
    show (wrC a.1 a.2 ++ pendC s).length = _
    rw [List.length_append, wrC_length, h a (by simp), ih (fun x hx => h x (by simp [hx]))]
    simp; omega
theorem durC_at (s : List (List UInt8)) (h : ∀ x ∈ s, x.length = 64) (i : Nat) (hi : i < s.length) : ∀ j, j < 64 → (durC s)[i * 64 + j]? = (secC (s.getD i []))[j]? := by
  induction s generalizing i with
  | nil => simp at hi
  | cons a s ih =>
    intro j hj
    have ha : (secC a).length = 64 := by rw [secC_length, h a (by simp)]
    show (secC a ++ durC s)[i * 64 + j]? = _
    cases i with
    | zero => rw [Nat.zero_mul, Nat.zero_add, List.getElem?_append_left (by omega)]; rfl
    | succ i =>
      rw [List.getElem?_append_right (by omega), ha, show (i + 1) * 64 + j - 64 = i * 64 + j by omega]
      exact ih (fun x hx => h x (by simp [hx])) i (by simpa using hi) j hj
theorem pendC_at (s : List (Nat × List UInt8)) (h : ∀ x ∈ s, x.2.length = 64) (i : Nat) (hi : i < s.length) : ∀ j, j < 65 → (pendC s)[i * 65 + j]? = (wrC (s.getD i (0, [])).1 (s.getD i (0, [])).2)[j]? := by
  induction s generalizing i with
  | nil => simp at hi
  | cons a s ih =>
    intro j hj
    have ha : (wrC a.1 a.2).length = 65 := by rw [wrC_length, h a (by simp)]
    show (wrC a.1 a.2 ++ pendC s)[i * 65 + j]? = _
    cases i with
    | zero => rw [Nat.zero_mul, Nat.zero_add, List.getElem?_append_left (by omega)]; rfl
    | succ i =>
      rw [List.getElem?_append_right (by omega), ha, show (i + 1) * 65 + j - 65 = i * 65 + j by omega]
      exact ih (fun x hx => h x (by simp [hx])) i (by simpa using hi) j hj
theorem durC_set (s : List (List UInt8)) (h : ∀ x ∈ s, x.length = 64) (i : Nat) (hi : i < s.length) (l : List UInt8) :
    durC (s.set i l) = (durC s).take (i * 64) ++ secC l ++ (durC s).drop (i * 64 + 64) := by
  induction s generalizing i with
  | nil => simp at hi
  | cons a s ih =>
    have ha : (secC a).length = 64 := by rw [secC_length, h a (by simp)]
    cases i with
    | zero =>
      show secC l ++ durC s = ((secC a ++ durC s).take (0 * 64)) ++ secC l ++ (secC a ++ durC s).drop (0 * 64 + 64)
      rw [Nat.zero_mul, List.take_zero, Nat.zero_add, List.nil_append, ← ha, List.drop_left]
    | succ i =>
      show secC a ++ durC (s.set i l) = _
      rw [ih (fun x hx => h x (by simp [hx])) i (by simpa using hi)]
      show _ = ((secC a ++ durC s).take ((i + 1) * 64)) ++ secC l ++ (secC a ++ durC s).drop ((i + 1) * 64 + 64)
      rw [show (i + 1) * 64 = 64 + i * 64 by omega]
      have e1 : (secC a ++ durC s).take (64 + i * 64) = secC a ++ (durC s).take (i * 64) := by rw [← ha, List.take_length_add_append]
      have e2 : (secC a ++ durC s).drop (64 + i * 64 + 64) = (durC s).drop (i * 64 + 64) := by
        rw [show 64 + i * 64 + 64 = (secC a).length + (i * 64 + 64) by omega, List.drop_length_add_append]
      rw [e1, e2]
      simp

/-! ### the device -/
structure Dev where
  dur : List (List UInt8)
  pend : List (Nat × List UInt8)
  calls : Nat
  keep : Nat
  torn : Int
  at_ : Int
  off : Bool

structure DevOk (d : Dev) : Prop where
  dur : ∀ x ∈ d.dur, x.length = 64
  pend : ∀ x ∈ d.pend, x.1 < d.dur.length ∧ x.2.length = 64
  most : d.dur.length ≤ 4096
  calls : d.calls ≤ 9223372036854775807
  keep : d.keep < 18446744073709551616

def devC (R : Nat) (pv : Value) (d : Dev) : Array Value :=
  #[.slice (some ⟨R, 0, none⟩) d.dur.length d.dur.length, pv, .int .i64 (d.calls : Int), .int .u64 (d.keep : Int), .int .i64 d.torn, .int .i64 d.at_, .bool d.off]

/-- Where a device lies: its own block D, its sectors' block R, its writes' row pv. -/
structure DevAt (w : World) (D R : Nat) (pv : Value) (d : Dev) : Prop where
  dev : w.heap[D]? = some (.cells (devC R pv d) 59 (0, 0))
  row : w.heap[R]? = some (.cells (durC d.dur).toArray 66 (0, 0))
  own : w.ownsRow 0 68 65 pv d.pend.length (pendC d.pend)
  DR : D ≠ R
  PD : pv.ownBlock ≠ some D
  PR : pv.ownBlock ≠ some R
  ok : DevOk d

theorem lt_of_heap {w : World} {k : Nat} {o : Obj} (h : w.heap[k]? = some o) : k < w.heap.size := by
  rw [Array.getElem?_eq_some_iff] at h
  exact h.1

/-- The blocks that a device lies in. -/
def blocks (D R : Nat) (pv : Value) : List Nat := D :: R :: pv.ownBlock.toList
theorem DevAt.lt {w : World} {D R : Nat} {pv : Value} {d : Dev} (h : DevAt w D R pv d) : ∀ k, k ∈ blocks D R pv → k < w.heap.size := by
  intro k hk
  simp only [blocks, List.mem_cons, Option.mem_toList] at hk
  rcases hk with rfl | rfl | hk
  · exact lt_of_heap h.dev
  · exact lt_of_heap h.row
  · exact (h.own.lt k (by simpa using hk)).2

/-- A device that isn't touched is as it was. -/
theorem DevAt.later {w w' : World} {D R : Nat} {pv : Value} {d : Dev} {B : List Nat} (h : DevAt w D R pv d) (o : Onl B w w') (hB : ∀ k, k ∈ blocks D R pv → k ∉ B) : DevAt w' D R pv d := by
  have hb : ∀ k, k ∈ blocks D R pv → w'.heap[k]? = w.heap[k]? := fun k hk => o.block k (h.lt k hk) (hB k hk)
  refine ⟨(hb D (by simp [blocks])).trans h.dev, (hb R (by simp [blocks])).trans h.row, ?_, h.DR, h.PD, h.PR, h.ok⟩
  refine ⟨h.own.1, ?_⟩
  rcases h.own.2 with h1 | ⟨g, cap, cur, h1, h2, h3, h4⟩
  · exact Or.inl h1
  · exact Or.inr ⟨g, cap, cur, h1, h2, (hb g (by simp [blocks, h1, Value.ownBlock])).trans h3, h4⟩

theorem DevAt.cells {w : World} {D R : Nat} {pv : Value} {d : Dev} (h : DevAt w D R pv d) :
    (w.cell? ⟨D, 0, none⟩ = some (.slice (some ⟨R, 0, none⟩) d.dur.length d.dur.length) ∧ w.cell? ⟨D, 1, none⟩ = some pv ∧ w.cell? ⟨D, 2, none⟩ = some (.int .i64 (d.calls : Int)) ∧ w.cell? ⟨D, 3, none⟩ = some (.int .u64 (d.keep : Int)) ∧
      w.cell? ⟨D, 4, none⟩ = some (.int .i64 d.torn) ∧ w.cell? ⟨D, 5, none⟩ = some (.int .i64 d.at_) ∧ w.cell? ⟨D, 6, none⟩ = some (.bool d.off)) ∧
    (w.frozen? ⟨D, 0, none⟩ = false ∧ w.frozen? ⟨D, 1, none⟩ = false ∧ w.frozen? ⟨D, 2, none⟩ = false ∧ w.frozen? ⟨D, 3, none⟩ = false ∧ w.frozen? ⟨D, 4, none⟩ = false ∧ w.frozen? ⟨D, 5, none⟩ = false ∧ w.frozen? ⟨D, 6, none⟩ = false) ∧
    D < w.heap.size := by
  have hd := h.dev
  refine ⟨⟨?_, ?_, ?_, ?_, ?_, ?_, ?_⟩, ⟨?_, ?_, ?_, ?_, ?_, ?_, ?_⟩, lt_of_heap hd⟩
  all_goals first
    | exact (cell_of_row w D _ _ _ (0, 0) hd).trans rfl
    | exact frozen_of_row w D _ _ _ hd

/-! ### stores into the device's own cells -/
theorem DevAt.setOff {w : World} {D R : Nat} {pv : Value} {d : Dev} (h : DevAt w D R pv d) (b : Bool) : DevAt (w.setCell ⟨D, 6, none⟩ (.bool b)) D R pv { d with off := b } := by
  have ho : ∀ k, k ≠ D → (w.setCell ⟨D, 6, none⟩ (.bool b)).heap[k]? = w.heap[k]? := fun k hk => heap_setCell_other w ⟨D, 6, none⟩ k _ (by simpa using hk)
  refine ⟨(heap_setCell_same w D 6 _ _ (.bool b) h.dev).trans rfl, (ho R (Ne.symm h.DR)).trans h.row, ?_, h.DR, h.PD, h.PR, ⟨h.ok.1, h.ok.2, h.ok.3, h.ok.4, h.ok.5⟩⟩
  refine ⟨h.own.1, ?_⟩
  rcases h.own.2 with h1 | ⟨g, cap, cur, h1, h2, h3, h4⟩
  · exact Or.inl h1
  · refine Or.inr ⟨g, cap, cur, h1, h2, (ho g ?_).trans h3, h4⟩
    intro e; apply h.PD; rw [h1, e]; rfl
theorem DevAt.setCalls {w : World} {D R : Nat} {pv : Value} {d : Dev} (h : DevAt w D R pv d) (n : Nat) (hn : n ≤ 9223372036854775807) : DevAt (w.setCell ⟨D, 2, none⟩ (.int .i64 (n : Int))) D R pv { d with calls := n } := by
  have ho : ∀ k, k ≠ D → (w.setCell ⟨D, 2, none⟩ (.int .i64 (n : Int))).heap[k]? = w.heap[k]? := fun k hk => heap_setCell_other w ⟨D, 2, none⟩ k _ (by simpa using hk)
  refine ⟨(heap_setCell_same w D 2 _ _ (.int .i64 (n : Int)) h.dev).trans rfl, (ho R (Ne.symm h.DR)).trans h.row, ?_, h.DR, h.PD, h.PR, ⟨h.ok.1, h.ok.2, h.ok.3, hn, h.ok.5⟩⟩
  refine ⟨h.own.1, ?_⟩
  rcases h.own.2 with h1 | ⟨g, cap, cur, h1, h2, h3, h4⟩
  · exact Or.inl h1
  · refine Or.inr ⟨g, cap, cur, h1, h2, (ho g ?_).trans h3, h4⟩
    intro e; apply h.PD; rw [h1, e]; rfl
theorem DevAt.setKeep {w : World} {D R : Nat} {pv : Value} {d : Dev} (h : DevAt w D R pv d) (n : Nat) (hn : n < 18446744073709551616) : DevAt (w.setCell ⟨D, 3, none⟩ (.int .u64 (n : Int))) D R pv { d with keep := n } := by
  have ho : ∀ k, k ≠ D → (w.setCell ⟨D, 3, none⟩ (.int .u64 (n : Int))).heap[k]? = w.heap[k]? := fun k hk => heap_setCell_other w ⟨D, 3, none⟩ k _ (by simpa using hk)
  refine ⟨(heap_setCell_same w D 3 _ _ (.int .u64 (n : Int)) h.dev).trans rfl, (ho R (Ne.symm h.DR)).trans h.row, ?_, h.DR, h.PD, h.PR, ⟨h.ok.1, h.ok.2, h.ok.3, h.ok.4, hn⟩⟩
  refine ⟨h.own.1, ?_⟩
  rcases h.own.2 with h1 | ⟨g, cap, cur, h1, h2, h3, h4⟩
  · exact Or.inl h1
  · refine Or.inr ⟨g, cap, cur, h1, h2, (ho g ?_).trans h3, h4⟩
    intro e; apply h.PD; rw [h1, e]; rfl
theorem DevAt.setTorn {w : World} {D R : Nat} {pv : Value} {d : Dev} (h : DevAt w D R pv d) (n : Int) : DevAt (w.setCell ⟨D, 4, none⟩ (.int .i64 n)) D R pv { d with torn := n } := by
  have ho : ∀ k, k ≠ D → (w.setCell ⟨D, 4, none⟩ (.int .i64 n)).heap[k]? = w.heap[k]? := fun k hk => heap_setCell_other w ⟨D, 4, none⟩ k _ (by simpa using hk)
  refine ⟨(heap_setCell_same w D 4 _ _ (.int .i64 n) h.dev).trans rfl, (ho R (Ne.symm h.DR)).trans h.row, ?_, h.DR, h.PD, h.PR, ⟨h.ok.1, h.ok.2, h.ok.3, h.ok.4, h.ok.5⟩⟩
  refine ⟨h.own.1, ?_⟩
  rcases h.own.2 with h1 | ⟨g, cap, cur, h1, h2, h3, h4⟩
  · exact Or.inl h1
  · refine Or.inr ⟨g, cap, cur, h1, h2, (ho g ?_).trans h3, h4⟩
    intro e; apply h.PD; rw [h1, e]; rfl
theorem DevAt.setAt {w : World} {D R : Nat} {pv : Value} {d : Dev} (h : DevAt w D R pv d) (n : Int) : DevAt (w.setCell ⟨D, 5, none⟩ (.int .i64 n)) D R pv { d with at_ := n } := by
  have ho : ∀ k, k ≠ D → (w.setCell ⟨D, 5, none⟩ (.int .i64 n)).heap[k]? = w.heap[k]? := fun k hk => heap_setCell_other w ⟨D, 5, none⟩ k _ (by simpa using hk)
  refine ⟨(heap_setCell_same w D 5 _ _ (.int .i64 n) h.dev).trans rfl, (ho R (Ne.symm h.DR)).trans h.row, ?_, h.DR, h.PD, h.PR, ⟨h.ok.1, h.ok.2, h.ok.3, h.ok.4, h.ok.5⟩⟩
  refine ⟨h.own.1, ?_⟩
  rcases h.own.2 with h1 | ⟨g, cap, cur, h1, h2, h3, h4⟩
  · exact Or.inl h1
  · refine Or.inr ⟨g, cap, cur, h1, h2, (ho g ?_).trans h3, h4⟩
    intro e; apply h.PD; rw [h1, e]; rfl
/-- The fuse's four cells. -/
theorem DevAt.setFuse {w : World} {D R : Nat} {pv : Value} {d : Dev} (h : DevAt w D R pv d) (n k : Nat) (t a : Int) (hn : n ≤ 9223372036854775807) (hk : k < 18446744073709551616) :
    DevAt ((((w.setCell ⟨D, 2, none⟩ (.int .i64 (n : Int))).setCell ⟨D, 3, none⟩ (.int .u64 (k : Int))).setCell ⟨D, 4, none⟩ (.int .i64 t)).setCell ⟨D, 5, none⟩ (.int .i64 a)) D R pv { d with calls := n, keep := k, torn := t, at_ := a } :=
  (((h.setCalls n hn).setKeep k hk).setTorn t).setAt a
/-- The writes' row is another one, which lies in the world already. -/
theorem DevAt.setPend {w w1 : World} {D R : Nat} {pv pv' : Value} {d : Dev} (h : DevAt w D R pv d) (p : List (Nat × List UInt8)) (hd : w1.heap[D]? = w.heap[D]?) (hr : w1.heap[R]? = w.heap[R]?)
    (own : w1.ownsRow 0 68 65 pv' p.length (pendC p)) (hPD : pv'.ownBlock ≠ some D) (hPR : pv'.ownBlock ≠ some R) (hp : ∀ x ∈ p, x.1 < d.dur.length ∧ x.2.length = 64) :
    DevAt (w1.setCell ⟨D, 1, none⟩ pv') D R pv' { d with pend := p } := by
  have ho : ∀ k, k ≠ D → (w1.setCell ⟨D, 1, none⟩ pv').heap[k]? = w1.heap[k]? := fun k hk => heap_setCell_other w1 ⟨D, 1, none⟩ k _ (by simpa using hk)
  refine ⟨(heap_setCell_same w1 D 1 _ _ pv' (hd.trans h.dev)).trans rfl, (ho R (Ne.symm h.DR)).trans (hr.trans h.row), ?_, h.DR, hPD, hPR, ⟨h.ok.1, hp, h.ok.3, h.ok.4, h.ok.5⟩⟩
  refine ⟨own.1, ?_⟩
  rcases own.2 with h1 | ⟨g, cap, cur, h1, h2, h3, h4⟩
  · exact Or.inl h1
  · refine Or.inr ⟨g, cap, cur, h1, h2, (ho g ?_).trans h3, h4⟩
    intro e; apply hPD; rw [h1, e]; rfl

/-! ### stores into a sector -/
theorem setCells_row (w : World) (g o : Nat) (t : TypeId) (vs : List Value) (cur : Array Value) (hg : w.heap[g]? = some (.cells cur t (0, 0))) (hl : o + vs.length ≤ cur.size) (h1 : ∀ v ∈ vs, v.oneCell' = true) :
    w.setCells g o vs = w.setRow g (cur.toList.take o ++ vs ++ cur.toList.drop (o + vs.length)).toArray := by
  have a := run_storeCells_at (P := Try.prog) g o t vs 0 cur w hg (by simpa using hl) h1
  have b := run_storeCells_cells (P := Try.prog) g o vs 0 w
    (fun j hj => by
      rw [Nat.add_zero, cell_of_row w g (o + j) cur t (0, 0) hg, Array.getElem?_eq_getElem (by omega)]; rfl)
    (fun j hj => by rw [Nat.add_zero]; exact frozen_of_row w g (o + j) cur t hg) h1
  rw [a] at b
  simp only [Nat.add_zero] at b
  exact (Result.ok.inj b).2.symm

theorem durC_drop (s : List (List UInt8)) (h : ∀ x ∈ s, x.length = 64) (i : Nat) (hi : i < s.length) : (durC s).drop (i * 64) = secC (s.getD i []) ++ (durC s).drop (i * 64 + 64) := by
  induction s generalizing i with
  | nil => simp at hi
  | cons a s ih =>
    have ha : (secC a).length = 64 := by rw [secC_length, h a (by simp)]
    cases i with
    | zero =>
      show (secC a ++ durC s).drop (0 * 64) = secC a ++ (secC a ++ durC s).drop (0 * 64 + 64)
      rw [Nat.zero_mul, List.drop_zero, Nat.zero_add, ← ha, List.drop_left]
    | succ i =>
      show (secC a ++ durC s).drop ((i + 1) * 64) = secC (s.getD i []) ++ (secC a ++ durC s).drop ((i + 1) * 64 + 64)
      rw [show (i + 1) * 64 = (secC a).length + i * 64 by omega, List.drop_length_add_append, show (secC a).length + i * 64 + 64 = (secC a).length + (i * 64 + 64) by omega, List.drop_length_add_append]
      exact ih (fun x hx => h x (by simp [hx])) i (by simpa using hi)
theorem secC_append (a b : List UInt8) : secC (a ++ b) = secC a ++ secC b := by simp [secC]
theorem secC_drop (a : List UInt8) (n : Nat) : secC (a.drop n) = (secC a).drop n := by simp [secC, List.map_drop]
theorem secC_take (a : List UInt8) (n : Nat) : secC (a.take n) = (secC a).take n := by simp [secC, List.map_take]

theorem dur_get {d : Dev} (ok : DevOk d) (i : Nat) (hi : i < d.dur.length) : (d.dur.getD i []).length = 64 := ok.dur _ (by simp [List.getD, hi])

/-- A sector's first bytes are written. -/
theorem DevAt.setPart {w : World} {D R : Nat} {pv : Value} {d : Dev} (h : DevAt w D R pv d) (i : Nat) (hi : i < d.dur.length) (l : List UInt8) (hl : l.length ≤ 64) :
    DevAt (w.setCells R (i * 64) (secC l)) D R pv { d with dur := d.dur.set i (l ++ (d.dur.getD i []).drop l.length) } := by
  have hlen := durC_length d.dur h.ok.dur
  have hg := dur_get h.ok i hi
  have hi2 : (i + 1) * 64 ≤ d.dur.length * 64 := Nat.mul_le_mul_right _ hi
  have hrow := setCells_row w R (i * 64) _ (secC l) _ h.row (by rw [List.size_toArray, hlen, secC_length]; omega) (secC_one l)
  have hset : (d.dur.set i (l ++ (d.dur.getD i []).drop l.length)).length = d.dur.length := by simp
  have hnew : durC (d.dur.set i (l ++ (d.dur.getD i []).drop l.length)) = (durC d.dur).take (i * 64) ++ secC l ++ (durC d.dur).drop (i * 64 + (secC l).length) := by
    have e : (durC d.dur).drop (i * 64 + l.length) = (secC (d.dur.getD i [])).drop l.length ++ (durC d.dur).drop (i * 64 + 64) := by
      rw [← List.drop_drop]
      have := durC_drop d.dur h.ok.dur i hi
      rw [this, List.drop_append_of_le_length (by rw [secC_length, hg]; exact hl)]
    rw [durC_set d.dur h.ok.dur i hi, secC_append, secC_drop, secC_length, e]
    simp
  refine ⟨?_, ?_, ?_, h.DR, h.PD, h.PR, ⟨?_, ?_, ?_, h.ok.calls, h.ok.keep⟩⟩
  · rw [World.heap_setCells_other w R (i * 64) _ (lt_of_heap h.dev) h.DR, h.dev]
    simp [devC]
  · rw [hrow, setRow_heap w R _ _ _ _ h.row, hnew]
  · refine ⟨h.own.1, ?_⟩
    rcases h.own.2 with h1 | ⟨g, cap, cur, h1, h2, h3, h4⟩
    · exact Or.inl h1
    · refine Or.inr ⟨g, cap, cur, h1, h2, ?_, h4⟩
      rw [World.heap_setCells_other w R (i * 64) _ (lt_of_heap h3) (by intro e; apply h.PR; rw [h1, e]; rfl)]
      exact h3
  · intro x hx
    rcases List.mem_or_eq_of_mem_set hx with h1 | h1
    · exact h.ok.dur x h1
    · rw [h1, List.length_append, List.length_drop, hg]; omega
  · intro x hx
    show x.1 < (d.dur.set i _).length ∧ _
    rw [hset]
    exact h.ok.pend x hx
  · show (d.dur.set i _).length ≤ _
    rw [hset]; exact h.ok.most
/-- A sector is written. -/
theorem DevAt.setSec {w : World} {D R : Nat} {pv : Value} {d : Dev} (h : DevAt w D R pv d) (i : Nat) (hi : i < d.dur.length) (l : List UInt8) (hl : l.length = 64) :
    DevAt (w.setCells R (i * 64) (secC l)) D R pv { d with dur := d.dur.set i l } := by
  have := h.setPart i hi l (by omega)
  have hg := dur_get h.ok i hi
  rw [List.drop_eq_nil_of_le (by omega), List.append_nil] at this
  exact this

theorem store_fresh (w : World) (T : TypeId) (cs ds : List Value) (hi : (Try.prog.info? T).map (·.size) = some ds.length) (h : cs.length = ds.length) (h1 : ∀ v ∈ ds, v.oneCell' = true) :
    (storeCells ⟨w.heap.size, 0, none⟩ ds).run Try.prog (w.alloc (.cells cs.toArray T)) = .ok () (w.alloc (.cells ds.toArray T)) := by
  have := run_storeCells_new (P := Try.prog) w T cs.toArray ds.toArray (by simpa using hi) (by simpa using h) (all_oneCell_toArray h1)
  simpa using this

/-- An element of the writes' row. -/
theorem DevAt.load {w : World} {D R g n cap : Nat} {d : Dev} (h : DevAt w D R (.slice (some ⟨g, 0, none⟩) n cap) d) (hn : n = d.pend.length) (k : Nat) (hk : k < d.pend.length) :
    w.rangeAt g (k * 65) (wrC (d.pend.getD k (0, [])).1 (d.pend.getD k (0, [])).2) := by
  subst hn
  intro j v hv
  have hw : ∀ x ∈ d.pend, x.2.length = 64 := fun x hx => (h.ok.pend x hx).2
  have hx : d.pend.getD k (0, []) ∈ d.pend := by simp [List.getD, hk]
  have hj : j < 65 := by
    have := (List.getElem?_eq_some_iff.1 hv).1
    rw [wrC_length, hw _ hx] at this; omega
  have hlen := pendC_length d.pend hw
  rw [h.own.cellAt (k * 65 + j) (by have : (k + 1) * 65 ≤ d.pend.length * 65 := Nat.mul_le_mul_right _ hk; omega), pendC_at d.pend hw k hk j hj, hv]
/-- A sector. -/
theorem DevAt.sec {w : World} {D R : Nat} {pv : Value} {d : Dev} (h : DevAt w D R pv d) (i : Nat) (hi : i < d.dur.length) :
    w.rangeAt R (i * 64) (secC (d.dur.getD i [])) ∧ w.there R (i * 64) 64 := by
  have hlen := durC_length d.dur h.ok.dur
  have hi2 : (i + 1) * 64 ≤ d.dur.length * 64 := Nat.mul_le_mul_right _ hi
  have hcell : ∀ j, j < 64 → w.cell? ⟨R, i * 64 + j, none⟩ = (secC (d.dur.getD i []))[j]? := fun j hj => by
    rw [cell_of_row w R _ _ _ (0, 0) h.row, List.getElem?_toArray, durC_at d.dur h.ok.dur i hi j hj]
  have hs : (secC (d.dur.getD i [])).length = 64 := by rw [secC_length, dur_get h.ok i hi]
  refine ⟨fun j v hv => ?_, fun j hj => ⟨?_, frozen_of_row w R _ _ _ h.row⟩⟩
  · have hj : j < 64 := by have := (List.getElem?_eq_some_iff.1 hv).1; omega
    rw [hcell j hj, hv]
  · rw [hcell j hj, List.getElem?_eq_getElem (by omega)]; rfl

theorem size_wr : (Try.prog.info? 68).map (·.size) = some 65 := by kernel_rfl
theorem size_sec : (Try.prog.info? 66).map (·.size) = some 64 := by kernel_rfl

end Go.Proofs.Ytfmcbccmijcdgaa.Bk
