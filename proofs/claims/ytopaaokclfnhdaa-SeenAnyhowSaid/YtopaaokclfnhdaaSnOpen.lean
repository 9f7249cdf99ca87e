/-
  What comes in, opened: rows of numbers, with their room.
-/
import Derived.Test.YtopaaokclfnhdaaSnB
import Derived.Deep.Slices
import Derived.ChangeArms
import Derived.Handed
namespace Go.Proofs.Ytopaaokclfnhdaa.Sn
open Go Go.RowKit
set_option linter.unusedVariables false
set_option linter.unusedSimpArgs false

section
variable {H : Type} {enc : TypeId × Value → H} {w : World} {base : Nat} {spare : Nat → Bool} {held : Bool}

/-- No piece is heavier than any machine bears. -/
def Wt (t : TypeId) (d : DataW H) : Prop := ∀ n ∈ d.weights Try.prog t, n ≤ 140737488355328
theorem all_mem {e : TypeId} : ∀ {l : List (DataW H)} {d : DataW H}, d ∈ l → ∀ n ∈ d.weights Try.prog e, n ∈ DataW.weightsAll Try.prog e l
  | x :: r, d, hd, n, hn => by
    simp only [DataW.weightsAll, List.mem_append]
    rcases List.mem_cons.1 hd with rfl | hd
    · exact .inl hn
    · exact .inr (all_mem hd n hn)
theorem Wt.elems {t e : TypeId} {es sp : List (DataW H)} (hu : Try.prog.underlying t = some (.slice e)) (h : Wt t (.slice es sp)) : es.length * Try.prog.bytesOf e ≤ 140737488355328 ∧ ∀ d ∈ es, Wt e d := by
  constructor
  · have := h ((es.length + sp.length) * Try.prog.bytesOf e) (by simp [DataW.weights, hu])
    exact Nat.le_trans (Nat.mul_le_mul_right _ (by omega)) this
  · intro d hd n hn
    refine h n ?_
    simp only [DataW.weights, hu, List.mem_cons, List.mem_append]
    exact .inr (.inl (all_mem hd n hn))
theorem slice_elems {t e : TypeId} {k : Nat} {fuel : Nat} {cs : List Value} {x : DataW H × List MemPlace} (ht : Try.prog.underlying t = some (.slice e)) (hk : Try.prog.cellsOf e = k) (h : DataW.trod enc Try.prog w base spare held fuel t cs = some x) (hW : Wt t x.1) :
    cs = [.slice none 0 0] ∨ ∃ (a : Addr) (len cap n : Nat) (D : Nat → DataW H) (Pl : Nat → List MemPlace), fuel = n + 1 ∧ cs = [.slice (some a) len cap] ∧ len ≤ cap ∧ len * Try.prog.bytesOf e ≤ 140737488355328 ∧
      ∀ i, i < len → ∃ cs', w.cells? base (a.add (i * k)) k = some cs' ∧ DataW.trod enc Try.prog w base spare held n e cs' = some (D i, Pl i) ∧ Wt e (D i) := by
  subst hk
  rcases DataW.trod_slice ht h with h0 | ⟨a, len, cap, elems, rest, n, hn, rfl, rfl, hb, hl, hm, hlen, hel, hsp, hns⟩
  · exact .inl h0.1
  right
  obtain ⟨w1, w2⟩ := hW.elems ht
  rw [List.length_map, hlen] at w1
  refine ⟨a, len, cap, n, fun i => (elems.getD i (.nil, [])).1, fun i => (elems.getD i (.nil, [])).2, hn, rfl, hl, w1, fun i hi => ?_⟩
  have key := hel i hi
  rw [List.getElem?_eq_getElem (by omega)] at key
  obtain ⟨cs', h1, h2⟩ := Option.bind_eq_some_iff.1 key
  have hg : elems.getD i (.nil, []) = elems[i]'(by omega) := by simp [List.getD, List.getElem?_eq_getElem (show i < elems.length by omega)]
  refine ⟨cs', h1, ?_, ?_⟩
  · simp only [hg]; rw [h2]
  · simp only [hg]
    exact w2 _ (List.mem_map.2 ⟨_, List.getElem_mem _, rfl⟩)
theorem i64_open {n : Nat} {cs : List Value} {x : DataW H × List MemPlace} (h : DataW.trod enc Try.prog w base spare held n 2 cs = some x) : ∃ z : Int, cs = [.int .i64 z] ∧ Num64 z := by
  obtain ⟨z, rfl, _, hw⟩ := DataW.trod_int Try.underlying2 h
  refine ⟨z, rfl, ?_⟩
  simp [Lit.wf, IntKind.min, IntKind.max, IntKind.signed, IntKind.bits] at hw
  exact ⟨by omega, by omega⟩
theorem cells_i64T : Try.prog.cellsOf 2 = 1 := by kernel_rfl
theorem bytes_i64T : Try.prog.bytesOf 2 = 8 := by kernel_rfl
theorem cells_at {a : Addr} {k : Nat} {cs : List Value} (h : w.cells? base a k = some cs) : cs.length = k ∧ ∀ j, j < k → w.cell? (a.add j) = cs[j]? := by
  obtain ⟨_, hl, hat⟩ := World.cells?_some h
  refine ⟨hl, fun j hj => ?_⟩
  rw [hat j hj, List.getElem?_eq_getElem (by omega)]
theorem add_add (b off i j : Nat) : ((⟨b, off, none⟩ : Addr).add i).add j = ⟨b, off + i + j, none⟩ := by
  unfold Addr.add
  by_cases hi : i = 0 <;> by_cases hj : j = 0 <;> simp [hi, hj]
theorem choose_list {α : Type} [Inhabited α] {n : Nat} {p : Nat → α → Prop} (h : ∀ i, i < n → ∃ x, p i x) : ∃ l : List α, l.length = n ∧ ∀ i, (hi : i < l.length) → p i l[i] := by
  obtain ⟨F, hF⟩ := Go.Deep.choose_lt h
  exact ⟨(List.range n).map F, by simp, fun i hi => by simp only [List.getElem_map, List.getElem_range]; exact hF i (by simpa using hi)⟩

theorem nums_open {n : Nat} {cs : List Value} {x : DataW H × List MemPlace} (h : DataW.trod enc Try.prog w base spare held n 22 cs = some x) (hW : Wt 22 x.1) :
    ∃ (l : List Int) (a : Option Addr) (cap : Nat), cs = [.slice a l.length cap] ∧ l.length ≤ 17592186044416 ∧ Row w a l cap ∧ ∀ n ∈ l, Num64 n := by
  rcases slice_elems Try.underlying22 cells_i64T h hW with hcs | ⟨p, len, cap, m, D, Pl, _, hcs, hlc, hl, hi⟩
  · exact ⟨[], none, 0, hcs, by simp, ⟨NumsAt.nil, Nat.le_refl _⟩, fun n hn => by simp at hn⟩
  · obtain ⟨l, hll, hp⟩ := choose_list (α := Int) (n := len) (p := fun i z => w.cell? ((p.add (i * 1)).add 0) = some (.int .i64 z) ∧ Num64 z) (fun i hil => by
      obtain ⟨cs', h1, h2, h3⟩ := hi i hil
      obtain ⟨z, rfl, hz⟩ := i64_open h2
      exact ⟨z, (cells_at h1).2 0 (by omega), hz⟩)
    rw [bytes_i64T] at hl
    refine ⟨l, some p, cap, by rw [hll]; exact hcs, by omega, ⟨fun i hil => ?_, by omega⟩, fun n hn => ?_⟩
    · have g := (hp i hil).1
      have g0 := (hp 0 (by omega)).1
      obtain ⟨b, off, spot⟩ := p
      have hspot : spot = none := by simpa [Addr.add] using World.cell?_spot g0
      subst hspot
      rw [add_add, Nat.mul_one, Nat.add_zero] at g
      refine ⟨b, off, rfl, ?_, World.block_lt_of_cell? w _ g⟩
      rw [g]
      simp [List.getD, hil]
    · obtain ⟨i, hil, rfl⟩ := List.mem_iff_getElem.1 hn
      exact (hp i hil).2

end
end Go.Proofs.Ytopaaokclfnhdaa.Sn
