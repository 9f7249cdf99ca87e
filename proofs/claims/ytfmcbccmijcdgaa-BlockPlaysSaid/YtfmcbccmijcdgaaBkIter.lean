/-
  slices.Backward over the pending writes.
-/
import Derived.Test.YtfmcbccmijcdgaaBkRead
import Derived.RangeFuncNested
import Derived.Shelf.Abstract
import Derived.WalkKit
import Derived.OwnWalkIn
import Derived.TacticsInMore
import Derived.LoopNIn
import Derived.LoopIn
namespace Go.Proofs.Ytfmcbccmijcdgaa.Bk
open Go.RowKit Go.Shelf
attribute [local go_sem] Oper.semAt_some

theorem wpListIn_load_mid {F : Fence} {n : Nat} {P : Program} {ops : Array Oper} {rest : List Oper} {op : Oper} {a : Act} {w : World} {Q : Exit → Act → World → Prop} (hgd : op.guard = none) (ty : TypeId) (x : Operand) (ho : op.op = .load ty x)
    (b o : Nat) (hx : a.eval x = .pointer (some ⟨b, o, none⟩)) (cs : List Value) (d : TypeDesc) (hc : w.rangeAt b o cs)
    (hu : P.underlying ty = some d) (hd : d.isRow = true) (hi : (P.info? ty).map (·.size) = some cs.length)
    (h : wpListIn F n P ops Q rest (a.put op.dst (.agg cs.toArray)) w) : wpListIn F n P ops Q (op :: rest) a w := by
  refine wpListIn_plain hgd fun K hK => ?_
  unfold Oper.wpIn
  refine ⟨?_, ?_⟩
  · simp [Oper.about, ho]
  · rw [Oper.semAt_plain F _ _ (by rw [ho]; intro c hc'; cases hc')]
    unfold execOp
    simp only [ho, hx, Instr.loadAt, Instr.sureAddr, Sem.run_bind, Sem.run_pure, Result.andThen_ok, run_loadVar_mid w b o ty cs d hc hu hd hi]
    exact hK _ _ h

/-- A write as an iterator hands it over: its place, and what it is. -/
abbrev Wr := { x : Nat × List UInt8 // x.2.length = 64 }
def encW (x : Nat × Wr) : Array Value := #[.int .i64 (x.1 : Int), .agg (wrC x.2.1.1 x.2.1.2).toArray]
/-- What has come when k rounds are over. -/
def came (e : Nat → Wr) (n k : Nat) : List (Nat × Wr) := (List.range k).map fun j => (n - 1 - j, e (n - 1 - j))
theorem came_succ (e : Nat → Wr) (n k : Nat) : came e n (k + 1) = came e n k ++ [(n - 1 - k, e (n - 1 - k))] := by simp [came, List.range_succ]
theorem came_length (e : Nat → Wr) (n k : Nat) : (came e n k).length = k := by simp [came]

set_option maxRecDepth 100000 in
set_option maxHeartbeats 2000000 in
theorem back_some (n : Nat) (hn : 1 ≤ n) (l Bs n₀ g len cap : Nat) (e : Nat → Wr) (hlen : len ≤ 1000) (hg : g < n₀) (hBn : Bs < n₀) (J Jx : List (Nat × Wr) → World → Prop)
    (hY : ∀ pre x W, J pre W → pre.length < len → YieldAt Fence.wide (n - 1) Try.prog l (encW x) W fun e W' =>
      (e = .returned (.bool true) ∧ J (pre ++ [x]) W' ∧ Below n₀ W W') ∨ (e = .returned (.bool false) ∧ Jx (pre ++ [x]) W'))
    (W : World) (hBs : W.cell? ⟨Bs, 0, none⟩ = some (.slice (some ⟨g, 0, none⟩) len cap)) (hc : ∀ j, j < len → W.rangeAt g (j * 65) (wrC (e j).1.1 (e j).1.2)) (h0 : J [] W) :
    CallsIn Fence.wide n Try.prog 35 #[.func (.yield l) #[] #[], .pointer (some ⟨Bs, 0, none⟩)] W fun r W' => (∃ v, r = .returned v) ∧
      ((∃ ys, ys = came e len len ∧ J ys W') ∨ (∃ pre, (∃ k, k ≤ len ∧ pre = came e len k) ∧ Jx pre W')) := by
  refine callsIn_of_wp Try.func35 rfl trivial ?_ rfl
  simp only [Try.ntmps35, List.size_toArray, List.length_cons, List.length_nil, Nat.reduceAdd, Nat.reduceSub, Array.replicate_succ, Array.replicate_zero, List.push_toArray, List.append_toArray, List.nil_append, List.cons_append]
  have hw0 : IntKind.i64.wrap ((len : Int) - 1) = (len : Int) - 1 := by rw [IntKind.wrap_i64]; omega
  gi_wp2
  gi_loopw [3] (fun i wr => ∃ k : Nat, k ≤ len ∧ i = .int .i64 ((len : Int) - 1 - k) ∧ J (came e len k) wr ∧ Below n₀ W wr)
    (fun i _ => (intOf i + 1).toNat)
  case atStart => exact ⟨0, Nat.zero_le _, by simp, h0, Below.refl _ _⟩
  case round =>
    obtain ⟨k, hk, rfl, hJs, hnx⟩ := hrel
    by_cases hlt : k < len
    · obtain ⟨i, hi⟩ : ∃ i : Nat, (len : Int) - 1 - k = (i : Int) := ⟨len - 1 - k, by omega⟩
      have hi2 : len - 1 - k = i := by omega
      have hcx : wr.cell? ⟨Bs, 0, none⟩ = some (.slice (some ⟨g, 0, none⟩) len cap) := (hnx.cell (p := ⟨Bs, 0, none⟩) hBn).trans hBs
      have hld : wr.rangeAt g (i * 65) (wrC (e i).1.1 (e i).1.2) := fun j v hv => (hnx.cell (p := ⟨g, i * 65 + j, none⟩) hg).trans (hc i (by omega) j v hv)
      have hx := (e i).2
      have hsz : (Try.prog.info? 68).map (·.size) = some (wrC (e i).1.1 (e i).1.2).length := by rw [wrC_length, hx]; exact size_wr
      obtain ⟨fn, tmps, assign, body, hy, hR⟩ := hY _ (i, e i) wr hJs (by rw [came_length]; exact hlt)
      have hCS := came_succ e len k
      rw [hi2] at hCS
      simp only [encW] at hy
      rw [hi]
      have hii : (i : Int) < (len : Int) := by omega
      have hi0 : (0 : Int) ≤ (i : Int) := by omega
      have hw1 : IntKind.i64.wrap ((i : Int) - 1) = (i : Int) - 1 := by rw [IntKind.wrap_i64]; omega
      have HLD := Lib.hid hld
      have HSZ := Lib.hid hsz
      have HI := Lib.hid hi
      clear hld hsz hi
      generalize e i = x at *
      obtain ⟨⟨a, s⟩, hx'⟩ := x
      gi_wp2_with (refine wpListIn_load_mid rfl 68 _ rfl g (i * 65) rfl (wrC a s) _ HLD.out Try.underlying68 rfl HSZ.out ?_)
      refine hR.mono ?_
      rintro r W3 (⟨rfl, hJ3, hk3⟩ | ⟨rfl, hJx3⟩)
      · gi_wp2
        go_roundw
        case rel => exact ⟨k + 1, by omega, by have := HI.out; first | (congr 1; omega) | (go_num; omega) | omega, by rw [hCS]; exact hJ3, hnx.trans hk3⟩
        case measure => simp [intOf]
      · gi_wp2
        refine bodyPost_ret (results_none rfl _ _ _) rfl ?_
        exact ⟨⟨_, rfl⟩, .inr ⟨_, ⟨k + 1, by omega, hCS.symm⟩, hJx3⟩⟩
    · obtain rfl : k = len := by omega
      have hneg : ¬ (0 : Int) ≤ (k : Int) - 1 - k := by omega
      gi_wp2
      go_end0
      first | exact ⟨⟨_, rfl⟩, .inl ⟨_, rfl, hJs⟩⟩ | exact ⟨⟨_, rfl⟩, .inl hJs⟩
theorem back_stops_some (n : Nat) (hn : 1 ≤ n) (Bs n₀ g len cap : Nat) (e : Nat → Wr) (hlen : len ≤ 1000) (hg : g < n₀) (hBn : Bs < n₀) (w : World) (hBs : w.cell? ⟨Bs, 0, none⟩ = some (.slice (some ⟨g, 0, none⟩) len cap)) (hBw : Bs < w.heap.size) (hgw : g < w.heap.size)
    (hc : ∀ j, j < len → w.rangeAt g (j * 65) (wrC (e j).1.1 (e j).1.2)) :
    SeqStopsK Fence.wide n Try.prog 35 #[.pointer (some ⟨Bs, 0, none⟩)] encW (Below n₀) (fun ys => ys = came e len len) (fun pre => ∃ k, k ≤ len ∧ pre = came e len k) len w := fun l J Jx W hW _ _ hY h0 =>
  back_some n hn l Bs n₀ g len cap e hlen hg hBn J Jx hY W ((hW.cell (p := ⟨Bs, 0, none⟩) hBw).trans hBs) (fun j hj i v hv => (hW.cell (p := ⟨g, j * 65 + i, none⟩) hgw).trans (hc j hj i v hv)) h0

/-- The last write to a sector among the first k of the pending ones, or what was there. -/
def lastW (p : List (Nat × List UInt8)) (s : List UInt8) (i : Nat) : Nat → List UInt8
  | 0 => s
  | k + 1 => if (p.getD k (0, [])).1 = i then (p.getD k (0, [])).2 else lastW p s i k
def elW (p : List (Nat × List UInt8)) (j : Nat) : Wr := if h : (p.getD j (0, [])).2.length = 64 then ⟨p.getD j (0, []), h⟩ else ⟨(0, Z64), Z64_length⟩
theorem elW_at (p : List (Nat × List UInt8)) (hp : ∀ x ∈ p, x.2.length = 64) (j : Nat) (hj : j < p.length) : (elW p j).1 = p.getD j (0, []) := by
  have h : (p.getD j (0, [])).2.length = 64 := hp _ (by simp [List.getD, hj])
  unfold elW
  rw [dif_pos h]
theorem last_none (p : List (Nat × List UInt8)) (hp : ∀ x ∈ p, x.2.length = 64) (s : List UInt8) (i : Nat) : ∀ k, k ≤ p.length → (∀ x ∈ came (elW p) p.length k, x.2.1.1 ≠ i) → lastW p s i p.length = lastW p s i (p.length - k)
  | 0, _, _ => rfl
  | k + 1, hk, h => by
    rw [came_succ] at h
    have h1 := last_none p hp s i k (by omega) (fun x hx => h x (List.mem_append_left _ hx))
    have h2 := h (p.length - 1 - k, elW p (p.length - 1 - k)) (by simp)
    simp only at h2
    rw [elW_at p hp _ (by omega)] at h2
    rw [h1, show p.length - k = (p.length - 1 - k) + 1 by omega, show p.length - (k + 1) = p.length - 1 - k by omega, lastW, if_neg h2]
theorem last_some (p : List (Nat × List UInt8)) (hp : ∀ x ∈ p, x.2.length = 64) (s : List UInt8) (i : Nat) (k : Nat) (hk : k ≤ p.length) (ini : List (Nat × Wr)) (x : Nat × Wr) (h : came (elW p) p.length k = ini ++ [x])
    (hi : ∀ y ∈ ini, y.2.1.1 ≠ i) (hx : x.2.1.1 = i) : lastW p s i p.length = x.2.1.2 := by
  obtain ⟨k', rfl⟩ : ∃ k', k = k' + 1 := by
    cases k with
    | zero => simp [came] at h
    | succ k' => exact ⟨k', rfl⟩
  rw [came_succ] at h
  obtain ⟨h1, h2⟩ := List.append_inj' h rfl
  subst h1
  obtain rfl : (p.length - 1 - k', elW p (p.length - 1 - k')) = x := by simpa using h2
  simp only at hx ⊢
  rw [elW_at p hp _ (by omega)] at hx ⊢
  rw [last_none p hp s i k' (by omega) hi, show p.length - k' = (p.length - 1 - k') + 1 by omega, lastW, if_pos hx]

end Go.Proofs.Ytfmcbccmijcdgaa.Bk
