/-
  Blank, sector; two devices in one world.
-/
import Derived.Test.YtfmcbccmijcdgaaBkNil
import Derived.Test.YtfmcbccmijcdgaaBkNew
namespace Go.Proofs.Ytfmcbccmijcdgaa.Bk
open Go.RowKit

set_option maxRecDepth 100000 in
theorem blank_any (n : Nat) (hn : n ≤ 1000) (w : World) :
    Calls Try.prog 27 #[.int .i64 (n : Int)] w fun e w' => e = .returned (.string (S (List.replicate n 0))) ∧ Below w.heap.size w w' := by
  obtain ⟨w2, hmk, hrow, hbel⟩ := make_row w n (by omega)
  have hcv := hrow.back (P := Try.prog) 69 9 5 n Try.underlying69 Try.underlying5 Try.underlying9 n (by simp)
  have HB := Lib.hid hbel
  clear hrow hbel
  go_enter Try.func27, Try.ntmps27
  go_wp2_with fail
  go_ret
  exact ⟨rfl, HB.out⟩

/-- A text as a sector's bytes. -/
def secT (l : List UInt8) : List UInt8 := if 66 < l.length then l else (l ++ Z64).take 64
theorem secT_le (l : List UInt8) (h : l.length ≤ 66) : (secT l).length = 64 := by unfold secT; rw [if_neg (by omega)]; simp [Z64]

set_option maxRecDepth 100000 in
set_option maxHeartbeats 800000 in
theorem sector_any (s : ByteArray) (hs : s.size ≤ 281474976710656) (w : World) :
    Calls Try.prog 20 #[.string s] w fun e w' => e = .returned (.string (S (secT s.data.toList))) ∧ Below w.heap.size w w' := by
  have hl := list_size s
  by_cases h : 66 < s.size
  · have hi : (66 : Int) < (s.size : Int) := by omega
    have e : S (secT s.data.toList) = s := by unfold secT; rw [if_pos (by omega)]; exact S_list s
    rw [e]
    clear e hl
    go_enter Try.func20, Try.ntmps20
    go_wp2_with fail
    go_ret
    exact ⟨rfl, Below.refl _ _⟩
  · have hi : ¬ ((66 : Int) < (s.size : Int)) := by omega
    have hb := blank_any 64 (by omega) w
    have hz : (S (List.replicate 64 0)).size = 64 := by rw [S_size]; simp
    have hle : s.size ≤ 66 := by omega
    have e : (s ++ S (List.replicate 64 0)).extract 0 64 = S (secT s.data.toList) := by
      unfold secT
      rw [if_neg (by omega), S_extract]
      congr 1
    have hsz : (s ++ S (List.replicate 64 0)).size = s.size + 64 := by rw [ByteArray.size_append, hz]
    generalize S (List.replicate 64 0) = b at *
    have hb64 : (64 : Int) ≤ (s.size : Int) + 64 := by omega
    have HB := Lib.hid hb
    clear hb
    go_enter Try.func20, Try.ntmps20
    go_wp2_with fail
    refine HB.out.mono ?_
    rintro e w1 ⟨rfl, b1⟩
    have B1 := Lib.hid b1
    clear b1
    go_wp2_with fail
    go_ret
    exact ⟨rfl, B1.out⟩

/-- Two devices that share nothing, in what is new since n0. -/
structure Two (n0 : Nat) (w : World) (D1 R1 : Nat) (pv1 : Value) (d1 : Dev) (D2 R2 : Nat) (pv2 : Value) (d2 : Dev) : Prop where
  one : DevAt w D1 R1 pv1 d1
  two : DevAt w D2 R2 pv2 d2
  apart : ∀ k, k ∈ blocks D1 R1 pv1 → k ∉ blocks D2 R2 pv2
  hi1 : ∀ k, k ∈ blocks D1 R1 pv1 → n0 ≤ k
  hi2 : ∀ k, k ∈ blocks D2 R2 pv2 → n0 ≤ k
theorem Two.swap {n0 : Nat} {w : World} {D1 R1 D2 R2 : Nat} {pv1 pv2 : Value} {d1 d2 : Dev} (h : Two n0 w D1 R1 pv1 d1 D2 R2 pv2 d2) : Two n0 w D2 R2 pv2 d2 D1 R1 pv1 d1 :=
  ⟨h.two, h.one, fun k hk hk' => h.apart k hk' hk, h.hi2, h.hi1⟩
theorem Two.later {n0 : Nat} {w w' : World} {D1 R1 D2 R2 : Nat} {pv1 pv2 : Value} {d1 d2 : Dev} (h : Two n0 w D1 R1 pv1 d1 D2 R2 pv2 d2) (o : Onl [] w w') : Two n0 w' D1 R1 pv1 d1 D2 R2 pv2 d2 :=
  ⟨h.one.later o (by simp), h.two.later o (by simp), h.apart, h.hi1, h.hi2⟩
theorem mem_blocks {D R : Nat} {pv : Value} {k : Nat} : k ∈ blocks D R pv ↔ k = D ∨ k = R ∨ pv.ownBlock = some k := by
  unfold blocks
  cases pv.ownBlock <;> simp [eq_comm]
/-- The first has changed. -/
theorem Two.first {n0 : Nat} {w w' : World} {D1 R1 D2 R2 : Nat} {pv1 pv1' pv2 : Value} {d1 d1' d2 : Dev} (h : Two n0 w D1 R1 pv1 d1 D2 R2 pv2 d2) (hn : n0 ≤ w.heap.size)
    (k1 : DevAt w' D1 R1 pv1' d1') (hf : Fresh w pv1 pv1') (o : Onl (blocks D1 R1 pv1) w w') : Two n0 w' D1 R1 pv1' d1' D2 R2 pv2 d2 := by
  refine ⟨k1, h.two.later o (fun k hk hk' => h.apart k hk' hk), ?_, ?_, h.hi2⟩
  · intro k hk hk2
    have hlt := h.two.lt k hk2
    rcases mem_blocks.1 hk with rfl | rfl | hb
    · exact h.apart _ (mem_blocks.2 (.inl rfl)) hk2
    · exact h.apart _ (mem_blocks.2 (.inr (.inl rfl))) hk2
    · rcases hf k hb with hb | hb
      · exact h.apart _ (mem_blocks.2 (.inr (.inr hb))) hk2
      · omega
  · intro k hk
    rcases mem_blocks.1 hk with rfl | rfl | hb
    · exact h.hi1 _ (mem_blocks.2 (.inl rfl))
    · exact h.hi1 _ (mem_blocks.2 (.inr (.inl rfl)))
    · rcases hf k hb with hb | hb
      · exact h.hi1 _ (mem_blocks.2 (.inr (.inr hb)))
      · omega
theorem Two.below {n0 : Nat} {w w' : World} {D1 R1 D2 R2 : Nat} {pv1 pv2 : Value} {d1 d2 : Dev} (h : Two n0 w D1 R1 pv1 d1 D2 R2 pv2 d2) (hn : n0 ≤ w.heap.size) (o : Onl (blocks D1 R1 pv1) w w') : Below n0 w w' :=
  o.below h.hi1 hn
/-- Two new ones. -/
theorem Two.new {w w1 w2 : World} {n : Nat} (k1 : DevAt w1 (w.heap.size + 1) w.heap.size (.slice none 0 0) (newD n)) (_b1 : Below w.heap.size w w1)
    (k2 : DevAt w2 (w1.heap.size + 1) w1.heap.size (.slice none 0 0) (newD n)) (b2 : Below w1.heap.size w1 w2) :
    Two w.heap.size w2 (w.heap.size + 1) w.heap.size (.slice none 0 0) (newD n) (w1.heap.size + 1) w1.heap.size (.slice none 0 0) (newD n) := by
  have hlt := k1.lt (w.heap.size + 1) (mem_blocks.2 (.inl rfl))
  refine ⟨k1.later (Onl.of_below b2 []) (by simp), k2, ?_, ?_, ?_⟩ <;> intro k hk <;> simp only [mem_blocks, Value.ownBlock] at hk ⊢ <;> simp at hk ⊢ <;> omega

theorem Onl.chain {a b c : World} {D R : Nat} {pv pv' : Value} (h : Onl (blocks D R pv) a b) (f : Fresh a pv pv') (k : Onl (blocks D R pv') b c) : Onl (blocks D R pv) a c :=
  ⟨k.os.trans h.os, k.tape.trans h.tape, k.output.trans h.output, Nat.le_trans h.size k.size, fun x hx hn => by
    refine (k.block x (Nat.lt_of_lt_of_le hx h.size) (fun e => ?_)).trans (h.block x hx hn)
    rcases mem_blocks.1 e with e | e | e
    · exact hn (mem_blocks.2 (.inl e))
    · exact hn (mem_blocks.2 (.inr (.inl e)))
    · rcases f x e with e | e
      · exact hn (mem_blocks.2 (.inr (.inr e)))
      · omega⟩
theorem out_blocks {w : World} {D R g : Nat} {pv pv' : Value} (hg : g ∉ blocks D R pv) (hlt : g < w.heap.size) (f : Fresh w pv pv') : g ∉ blocks D R pv' := by
  intro e
  rcases mem_blocks.1 e with e | e | e
  · exact hg (mem_blocks.2 (.inl e))
  · exact hg (mem_blocks.2 (.inr (.inl e)))
  · rcases f g e with e | e
    · exact hg (mem_blocks.2 (.inr (.inr e)))
    · omega

/-- The two devices of the example, k of them written to. -/
def Aw (d0 dW : Dev) (D1 R1 D2 R2 g : Nat) (w : World) (k : Nat) (wr : World) : Prop := ∃ pv1 pv2,
  Two w.heap.size wr D1 R1 pv1 (if 1 ≤ k then dW else d0) D2 R2 pv2 (if 2 ≤ k then dW else d0) ∧ g ∉ blocks D1 R1 pv1 ∧ g ∉ blocks D2 R2 pv2 ∧
  wr.heap[g]? = some (.cells #[.pointer (some ⟨D1, 0, none⟩), .pointer (some ⟨D2, 0, none⟩)] 24 (0, 0)) ∧ Below w.heap.size w wr
theorem aw_round {d0 dW : Dev} {D1 R1 D2 R2 g : Nat} {w wr : World} {k : Nat} (h : Aw d0 dW D1 R1 D2 R2 g w k wr) (hk : k < 2) :
    ∃ D R pv, wr.cell? ⟨g, k, none⟩ = some (.pointer (some ⟨D, 0, none⟩)) ∧ DevAt wr D R pv d0 ∧
      (∀ wr' pv', DevAt wr' D R pv' dW → Fresh wr pv pv' → Onl (blocks D R pv) wr wr' → Aw d0 dW D1 R1 D2 R2 g w (k + 1) wr') := by
  obtain ⟨pv1, pv2, two, hg1, hg2, hrow, hb⟩ := h
  have hlt := lt_of_heap hrow
  have hs : w.heap.size ≤ wr.heap.size := hb.size
  obtain rfl | rfl : k = 0 ∨ k = 1 := by omega
  · rw [if_neg (by omega), if_neg (by omega)] at two
    refine ⟨D1, R1, pv1, by rw [cell_of_row wr g 0 _ _ (0, 0) hrow]; rfl, two.one, fun wr' pv' k1 f o => ⟨pv', pv2, ?_, out_blocks hg1 hlt f, hg2, (o.block g hlt hg1).trans hrow, hb.trans (two.below hs o)⟩⟩
    rw [if_pos (by omega), if_neg (by omega)]
    exact two.first hs k1 f o
  · rw [if_pos (by omega), if_neg (by omega)] at two
    refine ⟨D2, R2, pv2, by rw [cell_of_row wr g 1 _ _ (0, 0) hrow]; rfl, two.two, fun wr' pv' k1 f o => ⟨pv1, pv', ?_, hg1, out_blocks hg2 hlt f, (o.block g hlt hg2).trans hrow, hb.trans (two.swap.below hs o)⟩⟩
    rw [if_pos (by omega), if_pos (by omega)]
    exact (two.swap.first hs k1 f o).swap

end Go.Proofs.Ytfmcbccmijcdgaa.Bk
