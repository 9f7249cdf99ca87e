/-
  Several texts in one: CdRdE, CdRdF, CdRdG.
-/
import Derived.Test.YtkdhchdhgmaolaaZCdRdD
import Derived.Maps.AppendAt
namespace Go.Proofs.Ytkdhchdhgmaolaa.Cd
open Go.RowKit
open Pk Va
set_option linter.unusedVariables false
set_option linter.unusedSimpArgs false

/-- The cells of values with their lists' rows. -/
def dV (d : List (V × Option Addr × Nat)) : List Value := d.flatMap fun y => [.int .i64 y.1.kind, .int .i64 y.1.num, .string (S y.1.text), .slice y.2.1 y.1.list.length y.2.2]
theorem dV_get : ∀ (l : List (V × Option Addr × Nat)) (i : Nat) (h : i < l.length), (dV l)[i * 4]? = some (.int .i64 l[i].1.kind) ∧ (dV l)[i * 4 + 1]? = some (.int .i64 l[i].1.num) ∧ (dV l)[i * 4 + 2]? = some (.string (S l[i].1.text)) ∧ (dV l)[i * 4 + 3]? = some (.slice l[i].2.1 l[i].1.list.length l[i].2.2)
  | a :: r, 0, _ => ⟨rfl, rfl, rfl, rfl⟩
  | a :: r, i + 1, h => by
    have e : dV (a :: r) = .int .i64 a.1.kind :: .int .i64 a.1.num :: .string (S a.1.text) :: .slice a.2.1 a.1.list.length a.2.2 :: dV r := rfl
    have := dV_get r i (by simpa using h)
    rw [e, show (i + 1) * 4 = i * 4 + 1 + 1 + 1 + 1 by omega]
    simpa using this
theorem NumsAt.of_block {w w' : World} {q : Option Addr} {l : List Int} (h : NumsAt w q l) (hs : w.heap.size ≤ w'.heap.size) (hk : ∀ g off, q = some ⟨g, off, none⟩ → l ≠ [] → w'.heap[g]? = w.heap[g]?) : NumsAt w' q l := fun i hi => by
  obtain ⟨g, off, e, hc, hl⟩ := h i hi
  have := hk g off e (by intro e2; rw [e2] at hi; simp at hi)
  exact ⟨g, off, e, (World.cell?_of_block (a := ⟨g, off + i, none⟩) this).trans hc, Nat.lt_of_lt_of_le hl hs⟩
structure VRow (B r : Nat) (w : World) (q : Option Addr) (d : List (V × Option Addr × Nat)) (cap : Nat) : Prop where
  own : w.ownsRow B 25 4 (.slice q d.length cap) d.length (dV d)
  nums : ∀ y ∈ d, NumsAt w y.2.1 y.1.list ∧ ∀ g off, y.2.1 = some ⟨g, off, none⟩ → y.1.list ≠ [] → OffR r g w ∧ some g ≠ (Value.slice q d.length cap).ownBlock ∧ B ≤ g
theorem ne_val : 25 ≠ 133 ∧ 25 ≠ 171 := by decide
theorem VRow.nil (B r : Nat) (w : World) : VRow B r w none [] 0 := ⟨World.ownsRow_nil _ _ _ _, fun y hy => by simp at hy⟩
theorem VRow.keep {B H r R cap : Nat} {l l' : List UInt8} {b b' : Nat} {w w' : World} {q : Option Addr} {d : List (V × Option Addr × Nat)} (h : VRow B r w q d cap) (hR : RdrR H r R l b w) (t : RdTo H r l' b' w w') : VRow B r w' q d cap := by
  refine ⟨own_keep t h.own (off_row hR h.own ne_val.1 ne_val.2), fun y hy => ?_⟩
  obtain ⟨h1, h2⟩ := h.nums y hy
  refine ⟨NumsAt.of_block h1 t.size (fun g off e hn => (t.keeps g (h2 g off e hn).1).1), fun g off e hn => ⟨(t.keeps g (h2 g off e hn).1).2, (h2 g off e hn).2⟩⟩
theorem VRow.below {B H r R cap : Nat} {l : List UInt8} {b : Nat} {w w' : World} {q : Option Addr} {d : List (V × Option Addr × Nat)} (h : VRow B r w q d cap) (hR : RdrR H r R l b w) (k : Below w.heap.size w w') : VRow B r w' q d cap := h.keep hR (RdTo.of_below hR k)
/-- The row's values. -/
theorem VRow.vals {B r cap : Nat} {w : World} {q : Option Addr} {d : List (V × Option Addr × Nat)} (h : VRow B r w q d cap) : ValsAt w q (d.map (·.1)) := fun i hi => by
  have hi2 : i < d.length := by simpa using hi
  rcases h.own.2 with ⟨_, h0⟩ | ⟨g, cap2, cur, e, hB, hg, r⟩
  · omega
  · injection e with e1 _ _
    subst e1
    have hadd : ∀ j, (⟨g, 0, none⟩ : Addr).add j = ⟨g, j, none⟩ := fun j => by unfold Addr.add; split <;> simp_all
    obtain ⟨h0, h1, h2, h3⟩ := dV_get d i hi2
    have c := fun j u (hu : (dV d)[j]? = some u) => World.ownsRow.cells h.own (g := g) rfl j u hu
    have hx : (d.map (·.1))[i] = d[i].1 := by simp
    refine ⟨g, 0, rfl, ?_, (Array.getElem?_eq_some_iff.1 hg).1⟩
    rw [hx]
    refine ⟨d[i].2.1, d[i].2.2, ?_, ?_, ?_, ?_, (h.nums _ (List.getElem_mem hi2)).1⟩
    · have := c _ _ h0; rw [hadd] at this; rw [Nat.zero_add]; exact this
    · have := c _ _ h1; rw [hadd] at this; rw [Nat.zero_add]; exact this
    · have := c _ _ h2; rw [hadd] at this; rw [Nat.zero_add]; exact this
    · have := c _ _ h3; rw [hadd] at this; rw [Nat.zero_add]; exact this
theorem info_pt {t : TypeId} {z : Value} {s b : Nat} (h : (Try.prog.info? t).map (fun i => (i.zero, i.size, i.bytes)) = some (some z, s, b)) : ∃ i, Try.prog.info? t = some i ∧ i.zero = some z ∧ i.size = s ∧ i.bytes = b := by
  obtain ⟨i, hi, h1⟩ := Option.map_eq_some_iff.1 h
  simp only [Prod.mk.injEq] at h1
  exact ⟨i, hi, h1.1, h1.2.1, h1.2.2⟩
theorem infoV : (Try.prog.info? 25).map (fun i => (i.zero, i.size, i.bytes)) = some (some (.agg #[.int .i64 0, .int .i64 0, .string ⟨#[]⟩, .slice none 0 0]), 4, 56) := by kernel_rfl
theorem VRow.app {B H r R cap : Nat} {l : List UInt8} {b : Nat} {w : World} {q : Option Addr} {d : List (V × Option Addr × Nat)} (h : VRow B r w q d cap) (hR : RdrR H r R l b w) (hB : B ≤ w.heap.size) (hn : d.length ≤ 100000) (v : V) (a : Option Addr) (c : Nat)
    (hv : NumsAt w a v.list) (hv2 : ∀ g off, a = some ⟨g, off, none⟩ → v.list ≠ [] → OffR r g w ∧ some g ≠ (Value.slice q d.length cap).ownBlock ∧ B ≤ g) (K : Nat) (hK : w.heap.size = K) :
    ∃ q' cap' w', (Builtin.append_ #[31, 31] 31 #[.slice q d.length cap, .slice (some ⟨K, 0, none⟩) 1 1]).run Try.prog (w.alloc (.cells #[.int .i64 v.kind, .int .i64 v.num, .string (S v.text), .slice a v.list.length c] 25)) = .ok (.slice q' (d.length + 1) cap') w' ∧
      VRow B r w' q' (d ++ [(v, a, c)]) cap' ∧ (w.alloc (.cells #[.int .i64 v.kind, .int .i64 v.num, .string (S v.text), .slice a v.list.length c] 25)).grownBy w' (Value.slice q d.length cap).ownBlock := by
  subst hK
  obtain ⟨i0, hi, hz0, hz1, hz2⟩ := info_pt infoV
  have kk := (Below.refl w.heap.size w).alloc (Nat.le_refl _) (.cells #[.int .i64 v.kind, .int .i64 v.num, .string (S v.text), .slice a v.list.length c] 25)
  have hnew := heap_alloc_new w (.cells #[.int .i64 v.kind, .int .i64 v.num, .string (S v.text), .slice a v.list.length c] 25)
  have hs1 : (w.alloc (.cells #[.int .i64 v.kind, .int .i64 v.num, .string (S v.text), .slice a v.list.length c] 25)).heap.size = w.heap.size + 1 := by simp
  have hR1 := hR.below kk
  have hA := h.below hR kk
  have hvA := hv.below kk
  have hv2A : ∀ g off, a = some ⟨g, off, none⟩ → v.list ≠ [] → OffR r g (w.alloc (.cells #[.int .i64 v.kind, .int .i64 v.num, .string (S v.text), .slice a v.list.length c] 25)) ∧ some g ≠ (Value.slice q d.length cap).ownBlock ∧ B ≤ g := fun g off e hn => ⟨(hv2 g off e hn).1.below kk, (hv2 g off e hn).2⟩
  generalize w.alloc (.cells #[.int .i64 v.kind, .int .i64 v.num, .string (S v.text), .slice a v.list.length c] 25) = w1 at *
  have hnews : ∀ j u, [Value.int .i64 v.kind, .int .i64 v.num, .string (S v.text), .slice a v.list.length c][j]? = some u → w1.cell? ((⟨w.heap.size, 0, none⟩ : Addr).add j) = some u := by
    intro j u hj
    have hadd : (⟨w.heap.size, 0, none⟩ : Addr).add j = ⟨w.heap.size, j, none⟩ := by unfold Addr.add; split <;> simp_all
    rw [hadd, cell_of_row _ w.heap.size j _ _ (0, 0) hnew]
    simpa using hj
  have h1 : ∀ u ∈ [Value.int .i64 v.kind, .int .i64 v.num, .string (S v.text), .slice a v.list.length c], u.oneCell' = true := by
    intro u hu
    simp only [List.mem_cons, List.not_mem_nil, or_false] at hu
    rcases hu with rfl | rfl | rfl | rfl <;> rfl
  obtain ⟨v', w', hr, h2, h3, _, h5⟩ := run_append_own_at (P := Try.prog) w1 B 31 31 25 i0 _ 4 56 Try.underlying31 hi hz0 hz1 hz2 rfl (by decide) (.slice q d.length cap) d.length (dV d) hA.own ⟨w.heap.size, 0, none⟩ 1 1 [Value.int .i64 v.kind, .int .i64 v.num, .string (S v.text), .slice a v.list.length c] rfl hnews h1 (by unfold maxLen; omega) (by omega) (by omega)
  have hlen : (d ++ [(v, a, c)]).length = d.length + 1 := by simp
  have hcs : dV (d ++ [(v, a, c)]) = dV d ++ [Value.int .i64 v.kind, .int .i64 v.num, .string (S v.text), .slice a v.list.length c] := by simp [dV]
  have hoff := off_row hR1 hA.own ne_val.1 ne_val.2
  have hrr : w'.heap[r]? = w1.heap[r]? := h3.block r hR1.lt (fun e => (hoff r e.symm).1 rfl)
  have hgo : ∀ g, OffR r g w1 → some g ≠ (Value.slice q d.length cap).ownBlock → w'.heap[g]? = w1.heap[g]? ∧ OffR r g w' ∧ some g ≠ v'.ownBlock := fun g ho hne => by
    obtain ⟨a1, a2, R2, a3, a4⟩ := ho
    refine ⟨h3.block g a2 hne, ⟨a1, Nat.lt_of_lt_of_le a2 h3.size, R2, hrr.trans a3, a4⟩, ?_⟩
    rcases h5 with h5 | h5
    · rw [h5]; exact hne
    · rw [h5]; intro e; injection e with e; omega
  rcases h2.2 with ⟨_, h0⟩ | ⟨g, cap2, cur, rfl, rr⟩
  · omega
  · refine ⟨_, _, w', hr, ⟨?_, fun y hy => ?_⟩, h3⟩
    · rw [hlen, hcs]; exact h2
    · rw [hlen]
      rcases List.mem_append.1 hy with hy | hy
      · obtain ⟨n1, n2⟩ := hA.nums y hy
        exact ⟨NumsAt.of_block n1 h3.size (fun g off e hn => (hgo g (n2 g off e hn).1 (n2 g off e hn).2.1).1), fun g off e hn => ⟨(hgo g (n2 g off e hn).1 (n2 g off e hn).2.1).2.1, (hgo g (n2 g off e hn).1 (n2 g off e hn).2.1).2.2, (n2 g off e hn).2.2⟩⟩
      · obtain rfl : y = (v, a, c) := by simpa using hy
        exact ⟨NumsAt.of_block hvA h3.size (fun g off e hn => (hgo g (hv2A g off e hn).1 (hv2A g off e hn).2.1).1), fun g off e hn => ⟨(hgo g (hv2A g off e hn).1 (hv2A g off e hn).2.1).2.1, (hgo g (hv2A g off e hn).1 (hv2A g off e hn).2.1).2.2, (hv2A g off e hn).2.2⟩⟩
theorem VRow.mono {B B' r cap : Nat} {w : World} {q : Option Addr} {d : List (V × Option Addr × Nat)} (h : VRow B r w q d cap) (hB : B' ≤ B) : VRow B' r w q d cap := by
  refine ⟨⟨h.own.1, ?_⟩, fun y hy => ⟨(h.nums y hy).1, fun g off e hn => ⟨((h.nums y hy).2 g off e hn).1, ((h.nums y hy).2 g off e hn).2.1, Nat.le_trans hB ((h.nums y hy).2 g off e hn).2.2⟩⟩⟩
  rcases h.own.2 with h0 | ⟨g, cap2, cur, e, hb, rest⟩
  · exact .inl h0
  · exact .inr ⟨g, cap2, cur, e, Nat.le_trans hB hb, rest⟩
/-- A row, behind what was written into an elder block that is not the reader's. -/
theorem VRow.set {B r cap g j : Nat} {w : World} {q : Option Addr} {d : List (V × Option Addr × Nat)} (h : VRow B r w q d cap) (hg : g < B) (hr : g ≠ r) (v : Value) : VRow B r (w.setCell ⟨g, j, none⟩ v) q d cap := by
  refine ⟨⟨h.own.1, ?_⟩, fun y hy => ⟨NumsAt.set (h.nums y hy).1 g (fun b off e hn => by have := ((h.nums y hy).2 b off e hn).2.2; omega) j v, fun g2 off e hn => ⟨((h.nums y hy).2 g2 off e hn).1.set hr v, ((h.nums y hy).2 g2 off e hn).2⟩⟩⟩
  rcases h.own.2 with h0 | ⟨g2, cap2, cur, e, hb, hc, rest⟩
  · exact .inl h0
  · exact .inr ⟨g2, cap2, cur, e, hb, (heap_setCell_other w ⟨g, j, none⟩ g2 v (show g2 ≠ g by omega)).trans hc, rest⟩
end Go.Proofs.Ytkdhchdhgmaolaa.Cd

namespace Go.Proofs.Ytkdhchdhgmaolaa.Cd
open Go.RowKit
open Pk Va
set_option linter.unusedVariables false
set_option linter.unusedSimpArgs false

def RowR (H r : Nat) (X : Rs (List V)) (w : World) (e : Ending) (w' : World) : Prop :=
  ∃ q d cap, e = .returned (.slice q d.length cap) ∧ d.map (·.1) = X.1 ∧ RdTo H r X.2.1 X.2.2 w w' ∧ VRow w.heap.size r w' q d cap

set_option maxRecDepth 100000 in
set_option maxHeartbeats 8000000 in
theorem allV_r (H r R : Nat) (l : List UInt8) (hl : l.length ≤ 2000000) (bad : Nat) (w : World) (h : RdrR H r R l bad w) :
    Calls Try.prog 114 #[.pointer (some ⟨r, 0, none⟩), .int .i64 16, .func (Fn.func 33) #[] #[]] w fun e w' => RowR H r (pAll pVal 16 l bad) w e w' := by
  have c0 := h.c0
  have HSM := Lib.hid (rSmall_k R l hl bad 16 (by omega) (by omega) w h.2.2.2.2)
  have hn16 := pSmall_le 16 (by omega) l bad
  have hsh : (pSmall 16 l bad).2.1.length ≤ 2000000 := Nat.le_trans (rdG_short _ _ _ _) hl
  unfold pAll
  unfold pSmall at *
  generalize rdG 0 (decS l 16) l bad = y at *
  obtain ⟨n, l1, b1⟩ := y
  simp only at HSM hn16 hsh ⊢
  obtain ⟨X, hX⟩ : ∃ X, X = pLoop pVal n [] l1 b1 := ⟨_, rfl⟩
  rw [← hX]
  obtain ⟨Pst, hPst⟩ : ∃ Pst : Ending → World → Prop, Pst = RowR H r X w := ⟨_, rfl⟩
  rw [show (fun e w' => RowR H r X w e w') = Pst from hPst.symm]
  have HPST := Lib.hid (fun e w' (h : RowR H r X w e w') => show Pst e w' by rw [hPst]; exact h)
  have HX := Lib.hid hX
  have HH := Lib.hid h
  have HSH := Lib.hid hsh
  clear h hX hsh hPst
  go_enter Try.func114, Try.ntmps114
  go_wp2_with fail
  refine HSM.out.mono ?_
  rintro e w1 ⟨rfl, r1, o1⟩
  have T1 := Lib.hid (HH.out.step r1 o1).2
  clear r1 o1 HSM
  go_wp2_with fail
  go_loopw [7, 15] (fun lv iv wr => ∃ (i : Nat) (acc : List (V × Option Addr × Nat)) (li : List UInt8) (bi : Nat) (q : Option Addr) (cap : Nat), i ≤ n ∧ iv = .int .i64 i ∧ lv = .slice q acc.length cap ∧ acc.length ≤ i ∧ VRow w.heap.size r wr q acc cap ∧ RdTo H r li bi w wr ∧ li.length ≤ 2000000 ∧ X = pLoop pVal (n - i) (acc.map (·.1)) li bi) (fun _ iv _ => n - (intOf iv).toNat)
  case atStart => exact ⟨0, [], l1, b1, none, 0, Nat.zero_le _, rfl, rfl, by simp, VRow.nil _ _ _, T1.out, HSH.out, HX.out⟩
  case round =>
    obtain ⟨i, acc, li, bi, q, cap, hin, rfl, rfl, hai, hown, ht, hli, hx⟩ := hrel
    obtain ⟨Ri, hRi⟩ := ht.rdr
    have c0 := hRi.c0
    by_cases hlt : i < n
    · have hii : (i : Int) < (n : Int) := by omega
      have HC := Lib.hid (value_r H r Ri li hli bi wr hRi)
      have hsub : n - i = (n - (i + 1)) + 1 := by omega
      rw [hsub] at hx
      unfold pLoop at hx
      have hsh2 : (pVal li bi).2.1.length ≤ 2000000 := pVal_short li bi 2000000 hli (by omega)
      generalize pVal li bi = z at *
      obtain ⟨x, l2, b2⟩ := z
      simp only at HC hx hsh2
      have HXX := Lib.hid hx
      have HT := Lib.hid ht
      have HRI := Lib.hid hRi
      have HOWN := Lib.hid hown
      have HAI := Lib.hid hai
      have HSH2 := Lib.hid hsh2
      clear hx ht hown hsub hai hsh2 hRi
      go_wp2_with fail
      refine HC.out.mono ?_
      rintro e w3 ⟨qx, cx, rfl, t3, hn3, hf3⟩
      simp only at t3 hn3 hf3
      unfold valC
      obtain ⟨R3, hR3⟩ := t3.rdr
      have hown3 := HOWN.out.keep HRI.out t3
      have ka := (Below.refl w3.heap.size w3).alloc (Nat.le_refl _) (.cells #[.int .i64 x.kind, .int .i64 x.num, .string (S x.text), .slice qx x.list.length cx] 25)
      have t4 := RdTo.of_below hR3 ka
      have hb4 : BV (w3.alloc (.cells #[.int .i64 x.kind, .int .i64 x.num, .string (S x.text), .slice qx x.list.length cx] 25)) w3.heap.size (.int .i64 x.kind) (.int .i64 x.num) (.string (S x.text)) (.slice qx x.list.length cx) := heap_alloc_new w3 _
      have hown4 := hown3.keep hR3 t4
      have hn4 : NumsAt _ qx x.list := NumsAt.of_block hn3 t4.size (fun g off e hn => (t4.keeps g (hf3 g off e hn).2).1)
      have hf4 : ∀ g off, qx = some ⟨g, off, none⟩ → x.list ≠ [] → OffR r g _ ∧ some g ≠ (Value.slice q acc.length cap).ownBlock ∧ w.heap.size ≤ g := fun g off e hn => ⟨(t4.keeps g (hf3 g off e hn).2).2, fun e2 => by
        have h1 := (World.ownsRow.lt HOWN.out.own g e2.symm).2
        have h2 := (hf3 g off e hn).1
        omega, by have h2 := (hf3 g off e hn).1; have := HT.out.size; omega⟩
      obtain ⟨W4, hW4⟩ : ∃ W4, W4 = w3.alloc (.cells #[.int .i64 x.kind, .int .i64 x.num, .string (S x.text), .slice qx x.list.length cx] 25) := ⟨_, rfl⟩
      rw [← hW4] at t4 hb4 hown4 hn4 hf4
      obtain ⟨R4, hR4⟩ := t4.rdr
      have HT4 := Lib.hid ((HT.out.trans t3).trans t4)
      have c04 := hR4.c0
      have HB4 := Lib.hid (bad_any R4 l2 b2 W4 hR4.2.2.2.2)
      have HWS := Lib.hid (show w.heap.size ≤ w3.heap.size from Nat.le_trans HT.out.size t3.size)
      have HC0 := Lib.hid c04
      have y0 := hb4.c0
      have y1 := hb4.c1
      have y2 := hb4.c2
      have y3 := hb4.c3
      have HR4 := Lib.hid hR4
      have HO4 := Lib.hid hown4
      have HN4 := Lib.hid hn4
      have HF4 := Lib.hid hf4
      rw [hW4] at c04
      have HW4 := Lib.hid hW4
      clear hW4 t3 hn3 hf3 hR3 hown3 ka t4 hb4 hown4 hn4 hf4 hR4
      go_wp2_with fail
      rw [← HW4.out]
      clear c04
      have c04 := HC0.out
      by_cases hb2 : b2 = 0
      · subst hb2
        have hx3 := HXX.out
        rw [if_neg (by omega)] at hx3
        obtain ⟨q5, cap5, w5, hrun, hown5, hgrow⟩ := HO4.out.app HR4.out (by have := HT4.out.size; omega) (by have := HAI.out; omega) x qx cx HN4.out HF4.out W4.heap.size rfl
        have kk := (Below.refl W4.heap.size W4).alloc (Nat.le_refl _) (.cells #[.int .i64 x.kind, .int .i64 x.num, .string (S x.text), .slice qx x.list.length cx] 25)
        have hoff5 := off_row (HR4.out.below kk) (HO4.out.below HR4.out kk).own ne_val.1 ne_val.2
        have HT5 := Lib.hid ((HT4.out.trans (RdTo.of_below HR4.out kk)).grown HH.out.size hgrow (fun g hg => ⟨(World.ownsRow.lt HO4.out.own g hg).1, hoff5 g hg⟩))
        have HRUN := Lib.hid hrun
        have HO5 := Lib.hid hown5
        have HX5 := Lib.hid hx3
        clear hrun hown5 hgrow kk hoff5 hx3
        refine HB4.out.mono ?_
        rintro e w6 ⟨rfl, rfl⟩
        go_wp2_with (at_builtin; refine wpList_app rfl _ _ _ _ rfl rfl rfl _ _ HRUN.out ?_)
        go_wp2_with fail
        go_roundw
        case rel => exact ⟨i + 1, acc ++ [(x, qx, cx)], l2, 0, q5, cap5, by omega, by go_num, by rw [List.length_append]; rfl, by have := HAI.out; simp; omega, HO5.out, HT5.out, HSH2.out, by rw [HX5.out]; simp⟩
        case measure => simp [intOf]; omega
      · have h3 := (err_ne b2 hb2).1
        have hx3 := HXX.out
        rw [if_pos (by omega)] at hx3
        have HX4 := Lib.hid hx3
        clear hx3 hb2
        refine HB4.out.mono ?_
        rintro e w6 ⟨rfl, rfl⟩
        go_wp2_with fail
        exact HPST.out _ _ (by rw [HX4.out]; exact ⟨none, [], 0, rfl, rfl, HT4.out, VRow.nil _ _ _⟩)
    · have hie : i = n := by omega
      have hii : ¬ (i : Int) < (n : Int) := by omega
      rw [hie, Nat.sub_self] at hx
      unfold pLoop at hx
      have HT := Lib.hid ht
      have HOWN := Lib.hid hown
      have HXX := Lib.hid hx
      clear ht hx hown hRi
      go_wp2_with fail
      exact HPST.out _ _ (by rw [HXX.out]; exact ⟨q, acc, cap, rfl, rfl, HT.out, HOWN.out⟩)

end Go.Proofs.Ytkdhchdhgmaolaa.Cd

namespace Go.Proofs.Ytkdhchdhgmaolaa.Cd
open Go.RowKit
open Pk Va
set_option linter.unusedVariables false
set_option linter.unusedSimpArgs false

set_option maxRecDepth 100000 in
theorem row_r (H r R : Nat) (l : List UInt8) (hl : l.length ≤ 2000000) (bad : Nat) (w : World) (h : RdrR H r R l bad w) :
    Calls Try.prog 81 #[.pointer (some ⟨r, 0, none⟩)] w fun e w' => RowR H r (pAll pVal 16 l bad) w e w' := by
  have HC := Lib.hid (allV_r H r R l hl bad w h)
  obtain ⟨Pst, hPst⟩ : ∃ Pst : Ending → World → Prop, Pst = RowR H r (pAll pVal 16 l bad) w := ⟨_, rfl⟩
  rw [show (fun e w' => RowR H r (pAll pVal 16 l bad) w e w') = Pst from hPst.symm] at HC ⊢
  have HP := Lib.hid (fun e w' (h : Pst e w') => show ∃ v, e = .returned v by rw [hPst] at h; obtain ⟨q, d, cap, rfl, _⟩ := h; exact ⟨_, rfl⟩)
  clear h hPst
  go_enter Try.func81, Try.ntmps81
  go_wp2_with fail
  refine HC.out.mono ?_
  intro e w1 h1
  obtain ⟨v, rfl⟩ := HP.out e w1 h1
  have H1 := Lib.hid h1
  clear h1
  go_wp2_with fail
  exact H1.out

def pMail (l : List UInt8) (b : Nat) : Rs MailP :=
  let i := pNum l b
  let c := pText 24 i.2.1 i.2.2
  let k := pAll pVal 16 c.2.1 c.2.2
  let f := pAll pVal 16 k.2.1 k.2.2
  (⟨i.1, c.1, k.1, f.1⟩, f.2)
theorem pRow_short (l : List UInt8) (b : Nat) (h : l.length ≤ 2000000) : (pAll pVal 16 l b).2.1.length ≤ 2000000 := pAll_short pVal 2000000 (fun l b h => pVal_short l b 2000000 h (by omega)) 16 l b h
def MailR (H r : Nat) (X : Rs MailP) (w : World) (e : Ending) (w' : World) : Prop :=
  ∃ ka dk kc fa df fc, e = .returned (.agg #[.int .i64 X.1.id, .string (S X.1.chan), .slice ka dk.length kc, .slice fa df.length fc]) ∧ dk.map (·.1) = X.1.key ∧ df.map (·.1) = X.1.fields ∧ RdTo H r X.2.1 X.2.2 w w' ∧ VRow w.heap.size r w' ka dk kc ∧ VRow w.heap.size r w' fa df fc

set_option maxRecDepth 100000 in
set_option maxHeartbeats 4000000 in
theorem mail_r (H r R : Nat) (l : List UInt8) (hl : l.length ≤ 2000000) (bad : Nat) (w : World) (h : RdrR H r R l bad w) :
    Calls Try.prog 37 #[.pointer (some ⟨r, 0, none⟩)] w fun e w' => MailR H r (pMail l bad) w e w' := by
  obtain ⟨⟨i, l1, b1⟩, hi⟩ : ∃ y, pNum l bad = y := ⟨_, rfl⟩
  obtain ⟨⟨c, l2, b2⟩, hc⟩ : ∃ y, pText 24 l1 b1 = y := ⟨_, rfl⟩
  obtain ⟨⟨k, l3, b3⟩, hk⟩ : ∃ y, pAll pVal 16 l2 b2 = y := ⟨_, rfl⟩
  obtain ⟨⟨f, l4, b4⟩, hf⟩ : ∃ y, pAll pVal 16 l3 b3 = y := ⟨_, rfl⟩
  have hX : pMail l bad = (⟨i, c, k, f⟩, l4, b4) := by unfold pMail; simp only [hi, hc, hk, hf]
  rw [hX]
  have s1 : l1.length ≤ 2000000 := by have := rdG_short (0 : Int) (decN l) l bad; unfold pNum at hi; rw [hi] at this; exact Nat.le_trans this hl
  have s2 : l2.length ≤ 2000000 := by have := rdG_short ([] : List UInt8) (decX l1 24) l1 b1; unfold pText at hc; rw [hc] at this; exact Nat.le_trans this s1
  have s3 : l3.length ≤ 2000000 := by have := pRow_short l2 b2 s2; rw [hk] at this; exact this
  have kk := (Below.refl w.heap.size w).alloc (Nat.le_refl _) (.cells #[.int .i64 0, .string ⟨#[]⟩, .slice none 0 0, .slice none 0 0] 33)
  have hR0 := h.below kk
  have c0 := hR0.c0
  have HZ := Lib.hid (heap_alloc_new w (.cells #[.int .i64 0, .string ⟨#[]⟩, .slice none 0 0, .slice none 0 0] 33))
  have HFZ := Lib.hid (h.off_new (.cells #[.int .i64 0, .string ⟨#[]⟩, .slice none 0 0, .slice none 0 0] 33))
  have HN := Lib.hid (rNumber_k R l hl bad _ hR0.2.2.2.2)
  unfold pNum at hi
  rw [hi] at HN
  have HT0 := Lib.hid (RdTo.of_below h kk)
  have HR0 := Lib.hid hR0
  have HH := Lib.hid h.size
  have HC2 := Lib.hid (fun W R' (hR : RdrR H r R' l1 b1 W) => name_r H r R' l1 s1 b1 W hR)
  rw [hc] at HC2
  have HC3 := Lib.hid (fun W R' (hR : RdrR H r R' l2 b2 W) => row_r H r R' l2 s2 b2 W hR)
  rw [hk] at HC3
  have HC4 := Lib.hid (fun W R' (hR : RdrR H r R' l3 b3 W) => row_r H r R' l3 s3 b3 W hR)
  rw [hf] at HC4
  have hsz0 : (w.alloc (.cells #[.int .i64 0, .string ⟨#[]⟩, .slice none 0 0, .slice none 0 0] 33)).heap.size = w.heap.size + 1 := by simp
  have HS0 := Lib.hid hsz0
  obtain ⟨Pst, hPst⟩ : ∃ Pst : Ending → World → Prop, Pst = MailR H r (⟨i, c, k, f⟩, l4, b4) w := ⟨_, rfl⟩
  rw [show (fun e w' => MailR H r (⟨i, c, k, f⟩, l4, b4) w e w') = Pst from hPst.symm]
  have HPST := Lib.hid (fun e w' (h : MailR H r (⟨i, c, k, f⟩, l4, b4) w e w') => show Pst e w' by rw [hPst]; exact h)
  clear h kk hR0 hX hi hc hk hf hPst hsz0
  go_enter Try.func37, Try.ntmps37
  go_wp2_with fail
  refine HN.out.mono ?_
  rintro e w1 ⟨rfl, r1, o1⟩
  obtain ⟨hR1, t1⟩ := HR0.out.step r1 o1
  have HR1 := Lib.hid hR1
  have T1 := Lib.hid t1
  clear r1 o1 hR1 t1
  go_wp2_with fail
  refine (HC2.out _ _ HR1.out).mono ?_
  rintro e w2 ⟨rfl, t2⟩
  obtain ⟨R2, hR2⟩ := t2.rdr
  have HR2 := Lib.hid hR2
  have T2 := Lib.hid (T1.out.trans t2)
  clear t2 hR2
  go_wp2_with fail
  refine (HC3.out _ _ HR2.out).mono ?_
  rintro e w3 ⟨ka, dk, kc, rfl, ek, t3, vk⟩
  obtain ⟨R3, hR3⟩ := t3.rdr
  have HR3 := Lib.hid hR3
  have T3 := Lib.hid (T2.out.trans t3)
  have VK := Lib.hid vk
  have EK := Lib.hid ek
  clear t3 hR3 vk ek
  go_wp2_with fail
  refine (HC4.out _ _ HR3.out).mono ?_
  rintro e w4 ⟨fa, df, fc, rfl, ef, t4, vf⟩
  have T4 := T3.out.trans t4
  obtain ⟨hz, fz⟩ := T4.box HZ.out HFZ.out
  have a0 := T2.out.size
  have a1 := T3.out.size
  have a2 := HS0.out
  have hlt : w.heap.size < w2.heap.size := by omega
  have vk4 := (VK.out.keep HR3.out t4).mono (B' := w.heap.size + 1) (by omega)
  have vf4 := vf.mono (B' := w.heap.size + 1) (by omega)
  have hne : w.heap.size ≠ r := fz.1
  have VK5 := Lib.hid (((((vk4.set (j := 0) (Nat.lt_succ_self _) hne (.int .i64 i)).set (j := 1) (Nat.lt_succ_self _) hne (.string (S c))).set (j := 2) (Nat.lt_succ_self _) hne (.slice ka dk.length kc)).set (j := 3) (Nat.lt_succ_self _) hne (.slice fa df.length fc)).mono (Nat.le_succ _))
  have VF5 := Lib.hid (((((vf4.set (j := 0) (Nat.lt_succ_self _) hne (.int .i64 i)).set (j := 1) (Nat.lt_succ_self _) hne (.string (S c))).set (j := 2) (Nat.lt_succ_self _) hne (.slice ka dk.length kc)).set (j := 3) (Nat.lt_succ_self _) hne (.slice fa df.length fc)).mono (Nat.le_succ _))
  have HTE := Lib.hid ((HT0.out.trans T4).bput HH.out (Nat.le_refl _) fz (.int .i64 i) (.string (S c)) (.slice ka dk.length kc) (.slice fa df.length fc))
  have z0 := cell_of_row w4 w.heap.size 0 _ _ _ hz
  have z1 := cell_of_row w4 w.heap.size 1 _ _ _ hz
  have z2 := cell_of_row w4 w.heap.size 2 _ _ _ hz
  have z3 := cell_of_row w4 w.heap.size 3 _ _ _ hz
  have f0 := fun j => frozen_of_row w4 w.heap.size j _ _ hz
  have HP := Lib.hid (heap_setCell_same _ w.heap.size 3 _ _ (.slice fa df.length fc) (heap_setCell_same _ w.heap.size 2 _ _ (.slice ka dk.length kc) (heap_setCell_same _ w.heap.size 1 _ _ (.string (S c)) (heap_setCell_same w4 w.heap.size 0 _ _ (.int .i64 i) hz))))
  have EF := Lib.hid ef
  clear T4 hz fz a0 a1 a2 hlt vk4 vf4 hne t4 vf ef
  go_wp2_with fail
  refine bodyPost_ret (results_cell_row rfl _ _ w.heap.size _ _ _ _ rfl HP.out Try.underlying33 rfl (by kernel_rfl)) rfl (HPST.out _ _ ⟨ka, dk, kc, fa, df, fc, rfl, EK.out, EF.out, HTE.out, VK5.out, VF5.out⟩)

end Go.Proofs.Ytkdhchdhgmaolaa.Cd
