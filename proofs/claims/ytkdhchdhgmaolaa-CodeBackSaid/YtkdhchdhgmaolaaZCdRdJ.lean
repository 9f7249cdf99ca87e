/-
  A row of messages that is read, in memory.
-/
import Derived.Test.YtkdhchdhgmaolaaZCdRdG
namespace Go.Proofs.Ytkdhchdhgmaolaa.Cd
open Go.RowKit
open Pk Va
set_option linter.unusedVariables false
set_option linter.unusedSimpArgs false

/-- A message in memory, with its two rows. -/
structure MK where
  id : Int
  chan : List UInt8
  ka : Option Addr
  dk : List (V × Option Addr × Nat)
  kc : Nat
  fa : Option Addr
  df : List (V × Option Addr × Nat)
  fc : Nat
def MK.mail (y : MK) : MailP := ⟨y.id, y.chan, y.dk.map (·.1), y.df.map (·.1)⟩
def MK.cells (y : MK) : List Value := [.int .i64 y.id, .string (S y.chan), .slice y.ka y.dk.length y.kc, .slice y.fa y.df.length y.fc]
def dM (d : List MK) : List Value := d.flatMap MK.cells
/-- Block g0 is none of a row's. -/
def NoBlk (g0 : Nat) (q : Option Addr) (d : List (V × Option Addr × Nat)) (cap : Nat) : Prop :=
  some g0 ≠ (Value.slice q d.length cap).ownBlock ∧ ∀ y ∈ d, ∀ g off, y.2.1 = some ⟨g, off, none⟩ → y.1.list ≠ [] → g ≠ g0
theorem NoBlk.lt {B r cap g0 : Nat} {w : World} {q : Option Addr} {d : List (V × Option Addr × Nat)} (h : VRow B r w q d cap) (hg : g0 < B) : NoBlk g0 q d cap :=
  ⟨fun e => by have := (World.ownsRow.lt h.own g0 e.symm).1; omega, fun y hy g off e hn => by have := ((h.nums y hy).2 g off e hn).2.2; omega⟩
theorem NoBlk.ge {B r cap g0 : Nat} {w : World} {q : Option Addr} {d : List (V × Option Addr × Nat)} (h : VRow B r w q d cap) (hg : w.heap.size ≤ g0) : NoBlk g0 q d cap :=
  ⟨fun e => by have := (World.ownsRow.lt h.own g0 e.symm).2; omega, fun y hy g off e hn => by have := ((h.nums y hy).2 g off e hn).1.2.1; omega⟩
theorem VRow.grown {B r cap : Nat} {w w' : World} {q : Option Addr} {d : List (V × Option Addr × Nat)} {row : Option Nat} (h : VRow B r w q d cap) (g : w.grownBy w' row) (hr : ∀ g0, row = some g0 → NoBlk g0 q d cap ∧ g0 ≠ r) (hlt : r < w.heap.size) : VRow B r w' q d cap := by
  have hrr : w'.heap[r]? = w.heap[r]? := g.block r hlt (fun e => (hr r e.symm).2 rfl)
  have hb : ∀ y ∈ d, ∀ b off, y.2.1 = some ⟨b, off, none⟩ → y.1.list ≠ [] → w'.heap[b]? = w.heap[b]? := fun y hy b off e hn => g.block b ((h.nums y hy).2 b off e hn).1.2.1 (fun e2 => (hr b e2.symm).1.2 y hy b off e hn rfl)
  refine ⟨⟨h.own.1, ?_⟩, fun y hy => ⟨NumsAt.of_block (h.nums y hy).1 g.size (hb y hy), fun b off e hn => ?_⟩⟩
  · rcases h.own.2 with h0 | ⟨b, cap2, cur, e, hB, hc, rest⟩
    · exact .inl h0
    · have hlt2 : b < w.heap.size := lt_of_heapV hc
      refine .inr ⟨b, cap2, cur, e, hB, (g.block b hlt2 (fun e2 => ?_)).trans hc, rest⟩
      have := (hr b e2.symm).1.1
      injection e with e3 _ _
      subst e3
      exact this rfl
  · obtain ⟨⟨a1, a2, R2, a3, a4⟩, n2, n3⟩ := (h.nums y hy).2 b off e hn
    exact ⟨⟨a1, Nat.lt_of_lt_of_le a2 g.size, R2, hrr.trans a3, a4⟩, n2, n3⟩
structure MRow (B r : Nat) (w : World) (q : Option Addr) (d : List MK) (cap : Nat) : Prop where
  own : w.ownsRow B 33 4 (.slice q d.length cap) d.length (dM d)
  rows : ∀ y ∈ d, VRow B r w y.ka y.dk y.kc ∧ VRow B r w y.fa y.df y.fc ∧ ∀ g0, (Value.slice q d.length cap).ownBlock = some g0 → NoBlk g0 y.ka y.dk y.kc ∧ NoBlk g0 y.fa y.df y.fc
theorem ne_mail : 33 ≠ 133 ∧ 33 ≠ 171 := by decide
theorem MRow.nil (B r : Nat) (w : World) : MRow B r w none [] 0 := ⟨World.ownsRow_nil _ _ _ _, fun y hy => by simp at hy⟩
theorem MRow.keep {B H r R cap : Nat} {l l' : List UInt8} {b b' : Nat} {w w' : World} {q : Option Addr} {d : List MK} (h : MRow B r w q d cap) (hR : RdrR H r R l b w) (t : RdTo H r l' b' w w') : MRow B r w' q d cap :=
  ⟨own_keep t h.own (off_row hR h.own ne_mail.1 ne_mail.2), fun y hy => ⟨(h.rows y hy).1.keep hR t, (h.rows y hy).2.1.keep hR t, (h.rows y hy).2.2⟩⟩
theorem MRow.below {B H r R cap : Nat} {l : List UInt8} {b : Nat} {w w' : World} {q : Option Addr} {d : List MK} (h : MRow B r w q d cap) (hR : RdrR H r R l b w) (k : Below w.heap.size w w') : MRow B r w' q d cap := h.keep hR (RdTo.of_below hR k)
theorem MRow.mono {B B' r cap : Nat} {w : World} {q : Option Addr} {d : List MK} (h : MRow B r w q d cap) (hB : B' ≤ B) : MRow B' r w q d cap := by
  refine ⟨⟨h.own.1, ?_⟩, fun y hy => ⟨(h.rows y hy).1.mono hB, (h.rows y hy).2.1.mono hB, (h.rows y hy).2.2⟩⟩
  rcases h.own.2 with h0 | ⟨g, cap2, cur, e, hb, rest⟩
  · exact .inl h0
  · exact .inr ⟨g, cap2, cur, e, Nat.le_trans hB hb, rest⟩
theorem infoM : (Try.prog.info? 33).map (fun i => (i.zero, i.size, i.bytes)) = some (some (.agg #[.int .i64 0, .string ⟨#[]⟩, .slice none 0 0, .slice none 0 0]), 4, 72) := by kernel_rfl
theorem MRow.app {B H r R cap : Nat} {l : List UInt8} {b : Nat} {w : World} {q : Option Addr} {d : List MK} (h : MRow B r w q d cap) (hR : RdrR H r R l b w) (hB : B ≤ w.heap.size) (hn : d.length ≤ 100000) (y : MK)
    (hk : VRow B r w y.ka y.dk y.kc) (hf : VRow B r w y.fa y.df y.fc) (hno : ∀ g0, (Value.slice q d.length cap).ownBlock = some g0 → NoBlk g0 y.ka y.dk y.kc ∧ NoBlk g0 y.fa y.df y.fc) (K : Nat) (hK : w.heap.size = K) :
    ∃ q' cap' w', (Builtin.append_ #[39, 39] 39 #[.slice q d.length cap, .slice (some ⟨K, 0, none⟩) 1 1]).run Try.prog (w.alloc (.cells #[.int .i64 y.id, .string (S y.chan), .slice y.ka y.dk.length y.kc, .slice y.fa y.df.length y.fc] 33)) = .ok (.slice q' (d.length + 1) cap') w' ∧
      MRow B r w' q' (d ++ [y]) cap' ∧ (w.alloc (.cells #[.int .i64 y.id, .string (S y.chan), .slice y.ka y.dk.length y.kc, .slice y.fa y.df.length y.fc] 33)).grownBy w' (Value.slice q d.length cap).ownBlock := by
  subst hK
  obtain ⟨i0, hi, hz0, hz1, hz2⟩ := info_pt infoM
  have kk := (Below.refl w.heap.size w).alloc (Nat.le_refl _) (.cells #[.int .i64 y.id, .string (S y.chan), .slice y.ka y.dk.length y.kc, .slice y.fa y.df.length y.fc] 33)
  have hnew := heap_alloc_new w (.cells #[.int .i64 y.id, .string (S y.chan), .slice y.ka y.dk.length y.kc, .slice y.fa y.df.length y.fc] 33)
  have hs1 : (w.alloc (.cells #[.int .i64 y.id, .string (S y.chan), .slice y.ka y.dk.length y.kc, .slice y.fa y.df.length y.fc] 33)).heap.size = w.heap.size + 1 := by simp
  have hR1 := hR.below kk
  have hA := h.below hR kk
  have hk1 := hk.below hR kk
  have hf1 := hf.below hR kk
  generalize w.alloc (.cells #[.int .i64 y.id, .string (S y.chan), .slice y.ka y.dk.length y.kc, .slice y.fa y.df.length y.fc] 33) = w1 at *
  have hnews : ∀ j u, y.cells[j]? = some u → w1.cell? ((⟨w.heap.size, 0, none⟩ : Addr).add j) = some u := by
    intro j u hj
    have hadd : (⟨w.heap.size, 0, none⟩ : Addr).add j = ⟨w.heap.size, j, none⟩ := by unfold Addr.add; split <;> simp_all
    rw [hadd, cell_of_row _ w.heap.size j _ _ (0, 0) hnew]
    simpa [MK.cells] using hj
  have h1 : ∀ u ∈ y.cells, u.oneCell' = true := by
    intro u hu
    simp only [MK.cells, List.mem_cons, List.not_mem_nil, or_false] at hu
    rcases hu with rfl | rfl | rfl | rfl <;> rfl
  obtain ⟨v', w', hr, h2, h3, _, h5⟩ := run_append_own_at (P := Try.prog) w1 B 39 39 33 i0 _ 4 72 Try.underlying39 hi hz0 hz1 hz2 rfl (by decide) (.slice q d.length cap) d.length (dM d) hA.own ⟨w.heap.size, 0, none⟩ 1 1 y.cells rfl hnews h1 (by unfold maxLen; omega) (by omega) (by omega)
  have hlen : (d ++ [y]).length = d.length + 1 := by simp
  have hcs : dM (d ++ [y]) = dM d ++ y.cells := by simp [dM]
  have hoff := off_row hR1 hA.own ne_mail.1 ne_mail.2
  have hrow : ∀ (p : Option Addr) e c, VRow B r w1 p e c → (∀ g0, (Value.slice q d.length cap).ownBlock = some g0 → NoBlk g0 p e c) → VRow B r w' p e c ∧ ∀ g0, v'.ownBlock = some g0 → NoBlk g0 p e c := fun p e c hv hn => by
    refine ⟨hv.grown h3 (fun g0 e0 => ⟨hn g0 e0, (hoff g0 e0).1⟩) hR1.lt, fun g0 e0 => ?_⟩
    rcases h5 with h5 | h5
    · rw [h5] at e0; exact hn g0 e0
    · rw [h5] at e0; injection e0 with e0; exact NoBlk.ge hv (by omega)
  rcases h2.2 with ⟨_, h0⟩ | ⟨g, cap2, cur, rfl, rr⟩
  · omega
  · refine ⟨_, _, w', hr, ⟨?_, fun z hz => ?_⟩, h3⟩
    · rw [hlen, hcs]; exact h2
    · rw [hlen]
      rcases List.mem_append.1 hz with hz | hz
      · obtain ⟨n1, n2, n3⟩ := hA.rows z hz
        obtain ⟨k1, k2⟩ := hrow _ _ _ n1 (fun g0 e0 => (n3 g0 e0).1)
        obtain ⟨k3, k4⟩ := hrow _ _ _ n2 (fun g0 e0 => (n3 g0 e0).2)
        exact ⟨k1, k3, fun g0 e0 => ⟨k2 g0 e0, k4 g0 e0⟩⟩
      · obtain rfl : z = y := by simpa using hz
        obtain ⟨k1, k2⟩ := hrow _ _ _ hk1 (fun g0 e0 => (hno g0 e0).1)
        obtain ⟨k3, k4⟩ := hrow _ _ _ hf1 (fun g0 e0 => (hno g0 e0).2)
        exact ⟨k1, k3, fun g0 e0 => ⟨k2 g0 e0, k4 g0 e0⟩⟩
end Go.Proofs.Ytkdhchdhgmaolaa.Cd
