/-
  Rows of numbers in memory.
-/
import Derived.Test.YtopaaokclfnhdaaMem
import Derived.Test.YtopaaokclfnhdaaSnPure
import Derived.Laws.AppendOwn
import Derived.Lib.SliceRun
import Derived.Lib.AppendZerosOnto
namespace Go.Proofs.Ytopaaokclfnhdaa.Sn
open Go.RowKit
set_option linter.unusedVariables false
set_option linter.unusedSimpArgs false

theorem info64 : (Try.prog.info? 2).map (fun i => (i.zero, i.size, i.bytes)) = some (some (.int .i64 0), 1, 8) := by kernel_rfl
theorem lt_of_heapV {w : World} {b : Nat} {o : Obj} (h : w.heap[b]? = some o) : b < w.heap.size := (Array.getElem?_eq_some_iff.1 h).1
/-- A number that its type bears. -/
structure Num64 (n : Int) : Prop where
  lo : -9223372036854775808 ≤ n
  hi : n ≤ 9223372036854775807
/-- A row of numbers. -/
def NumsAt (w : World) (a : Option Addr) (l : List Int) : Prop := ∀ i, i < l.length → ∃ b off, a = some ⟨b, off, none⟩ ∧ w.cell? ⟨b, off + i, none⟩ = some (.int .i64 (l.getD i 0)) ∧ b < w.heap.size
theorem NumsAt.below {w w' : World} {a : Option Addr} {l : List Int} (h : NumsAt w a l) (b : Below w.heap.size w w') : NumsAt w' a l := fun i hi => by
  obtain ⟨g, off, e, hc, hl⟩ := h i hi
  exact ⟨g, off, e, (b.cell (p := ⟨g, off + i, none⟩) hl).trans hc, Nat.lt_of_lt_of_le hl b.size⟩
theorem NumsAt.drew {w : World} {a : Option Addr} {l : List Int} (h : NumsAt w a l) : NumsAt w.drew a l := h.below (Below.refl _ _).drew
theorem NumsAt.nil {w : World} {a : Option Addr} : NumsAt w a [] := fun i hi => absurd hi (by simp)
theorem NumsAt.take {w : World} {a : Option Addr} {l : List Int} (h : NumsAt w a l) (k : Nat) : NumsAt w a (l.take k) := fun i hi => by
  rw [List.length_take] at hi
  obtain ⟨b, off, e, hc, hl⟩ := h i (by omega)
  refine ⟨b, off, e, ?_, hl⟩
  rw [hc]
  simp [List.getD, List.getElem?_take, show i < k by omega]
theorem add_none (b off k : Nat) : (⟨b, off, none⟩ : Addr).add k = ⟨b, off + k, none⟩ := by
  unfold Addr.add
  by_cases h : k = 0 <;> simp [h]
theorem NumsAt.drop {w : World} {a : Option Addr} {l : List Int} (h : NumsAt w a l) (k cap : Nat) (hcap : l.length ≤ cap) : NumsAt w (if cap = k then a else a.map (·.add k)) (l.drop k) := fun i hi => by
  rw [List.length_drop] at hi
  obtain ⟨b, off, e, hc, hl⟩ := h (k + i) (by omega)
  rw [if_neg (by omega)]
  subst e
  refine ⟨b, off + k, by simp [add_none], ?_, hl⟩
  rw [Nat.add_assoc, hc]
  simp [List.getD]
/-- x[:k] and x[k:] of a row. -/
theorem cut_lo (a : Option Addr) (n cap k : Nat) (h : k ≤ cap) (w : World) : (Instr.slice 22 (.slice a n cap) none (some (.int .i64 (k : Int))) none).run Try.prog w = .ok (.slice a k cap) w := by
  obtain ⟨i0, hi, hz0, hz1, hz2⟩ := info_parts info64
  have hu := run_underlying (P := Try.prog) (w := w) Try.underlying22
  have h1 : (k : Int) ≤ (cap : Int) := by omega
  cases a <;> simp [Instr.slice, hu, Instr.sliceBounds, Instr.sliceBound, asIntOf, h, h1, sizeOf, typeInfo, hi, Addr.add]
theorem cut_hi (a : Option Addr) (n cap k : Nat) (h : k ≤ n) (w : World) : (Instr.slice 22 (.slice a n cap) (some (.int .i64 (k : Int))) none none).run Try.prog w = .ok (.slice (if cap = k then a else a.map (·.add k)) (n - k) (cap - k)) w := by
  obtain ⟨i0, hi, hz0, hz1, hz2⟩ := info_parts info64
  have hu := run_underlying (P := Try.prog) (w := w) Try.underlying22
  have h1 : (k : Int) ≤ (n : Int) := by omega
  simp [Instr.slice, hu, Instr.sliceBounds, Instr.sliceBound, asIntOf, h, h1, sizeOf, typeInfo, hi, hz1]

theorem wpList_app {P : Program} {ops : Array Oper} {rest : List Oper} {o : Oper} {a : Act} {w : World} {Q : Exit → Act → World → Prop} (hgd : o.guard = none) (s x : Operand) (t u : TypeId)
    (ho : o.op = .call { callee := .builtin .append, args := #[s, x], argTypes := #[t, u] }) {v vx : Value} (hs : a.eval s = v) (hx : a.eval x = vx) (v' : Value) (w' : World)
    (hr : (Builtin.append_ #[t, u] o.type #[v, vx]).run P w = .ok v' w') (h : wpList P ops Q rest (a.put o.dst v') w') : wpList P ops Q (o :: rest) a w := by
  refine wpList_plain hgd fun K hK => ?_
  unfold Oper.wp execOp
  simp only [ho, resolve, invoke, builtin, Sem.run_bind, Sem.run_pure, Result.andThen_ok, List.map_toArray, List.map_cons, List.map_nil, hs, hx, hr]
  exact hK _ _ h

def i64C (l : List Int) : List Value := l.map fun n => .int .i64 n
theorem i64C_length (l : List Int) : (i64C l).length = l.length := by simp [i64C]
theorem i64C_append (a b : List Int) : i64C (a ++ b) = i64C a ++ i64C b := by simp [i64C]

/-- Nothing is appended. -/
theorem app_nil (B : Nat) (v : Value) (m : Nat) (xs : List Value) (w : World) (hown : w.ownsRow B 2 1 v m xs) (c : Nat) :
    (Builtin.append_ #[22, 22] 22 #[v, .slice none 0 c]).run Try.prog w = .ok v w := by
  obtain ⟨i0, hi, hz0, hz1, hz2⟩ := info_parts info64
  have hu := run_underlying (P := Try.prog) (w := w) Try.underlying22
  rcases hown.2 with ⟨rfl, rfl⟩ | ⟨g, cap, cur, rfl, _, hg, hnc, _⟩
  · simp [Builtin.append_, hu, sizeOf, typeInfo, hi, Builtin.lenOf, Builtin.firstCells]
  · simp [Builtin.append_, hu, sizeOf, typeInfo, hi, Builtin.lenOf, hnc, Builtin.firstCells, storeCells]

theorem app_nums (B : Nat) (v : Value) (m : Nat) (xs : List Value) (w : World) (hown : w.ownsRow B 2 1 v m xs) (l : List Int) (a : Option Addr) (c : Nat) (hl : NumsAt w a l) (hm : m + l.length ≤ 17592186044416) (hB : B ≤ w.heap.size) :
    ∃ v' w', (Builtin.append_ #[22, 22] 22 #[v, .slice a l.length c]).run Try.prog w = .ok v' w' ∧ w'.ownsRow B 2 1 v' (m + l.length) (xs ++ i64C l) ∧ w.grownBy w' v.ownBlock := by
  cases a with
  | none =>
    have hl0 : l = [] := by
      cases l with
      | nil => rfl
      | cons x r => obtain ⟨_, _, e, _⟩ := hl 0 (by simp); cases e
    subst hl0
    exact ⟨v, w, app_nil B v m xs w hown c, by simpa [i64C] using hown, World.grownBy.refl w _⟩
  | some p =>
    obtain ⟨i0, hi, hz0, hz1, hz2⟩ := info_parts info64
    have hnews : ∀ j u, (i64C l)[j]? = some u → w.cell? (p.add j) = some u := by
      intro j u hu
      have hj : j < l.length := by
        have := (List.getElem?_eq_some_iff.1 hu).1
        simpa [i64C] using this
      obtain ⟨b, off, e, hc, _⟩ := hl j hj
      obtain rfl := Option.some.inj e
      rw [Addr.add_lit, hc]
      simp [i64C, hj] at hu
      simp [List.getD, hj, hu]
    have h1 : ∀ u ∈ i64C l, u.oneCell' = true := by
      intro u hu
      simp only [i64C, List.mem_map] at hu
      obtain ⟨n, _, rfl⟩ := hu
      rfl
    obtain ⟨v', w', hr, h2, h3, _⟩ := run_append_own (P := Try.prog) w B 22 22 2 i0 (.int .i64 0) 1 8 Try.underlying22 hi hz0 hz1 hz2 rfl (by decide) v m xs hown p l.length c (i64C l) (by rw [i64C_length]; omega) hnews h1 (by unfold maxLen; omega) (by omega) hB
    exact ⟨v', w', hr, h2, h3⟩
/-- An owned row of numbers, as a list that is read. -/
theorem owned_nums {w : World} {B n : Nat} {v : Value} {l : List Int} (h : w.ownsRow B 2 1 v n (i64C l)) (hn : n = l.length) : ∃ a c, v = .slice a l.length c ∧ NumsAt w a l := by
  subst hn
  rcases h.2 with ⟨rfl, h0⟩ | ⟨g, cap, cur, rfl, _, hg, _⟩
  · have : l = [] := List.length_eq_zero_iff.1 h0
    subst this
    exact ⟨none, 0, rfl, fun i hi => absurd hi (by simp)⟩
  · refine ⟨some ⟨g, 0, none⟩, cap, rfl, fun i hi => ⟨g, 0, rfl, ?_, lt_of_heapV hg⟩⟩
    have := h.cellAt i (by omega)
    rw [Nat.zero_add, this]
    simp [i64C, List.getD, hi]

end Go.Proofs.Ytopaaokclfnhdaa.Sn
