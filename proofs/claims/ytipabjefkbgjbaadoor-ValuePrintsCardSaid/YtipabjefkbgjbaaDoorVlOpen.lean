/-
  Values among the arguments: what is read there.
-/
import Derived.Test.YtipabjefkbgjbaaDoorVaKey
import Derived.ProofKit
import Derived.OpenShut
import Derived.ShutString
import Derived.Deep.Slices
import Derived.ChangeOld
import Derived.Lib.SmallJoins
namespace Go.Proofs.YtipabjefkbgjbaaDoor.Va
open Go.ChangeShapes Go.WideShapes Go.ChangeAt Go.RowKit
set_option linter.unusedVariables false

theorem cells_i64 : Tryd.prog.cellsOf 2 = 1 := by kernel_rfl
theorem cells_int : Tryd.prog.cellsOf 3 = 1 := by kernel_rfl
theorem cells_str : Tryd.prog.cellsOf 9 = 1 := by kernel_rfl
theorem cells_nums : Tryd.prog.cellsOf 24 = 1 := by kernel_rfl
theorem cells_value : Tryd.prog.cellsOf 26 = 4 := by kernel_rfl

structure VArg (v : V) : Prop where
  ok : VOk v
  num : -9223372036854775808 ≤ v.num ∧ v.num ≤ 9223372036854775807
  nums : ∀ n ∈ v.list, -9223372036854775808 ≤ n ∧ n ≤ 9223372036854775807
instance : Inhabited V := ⟨⟨0, 0, [], []⟩⟩

section
variable {H : Type} {enc : TypeId × Value → H} {w : World} {base : Nat} {spare : Nat → Bool} {held : Bool}

theorem open_nums {n : Nat} {cs : List Value} {x : DataW H × List MemPlace} (h : DataW.trod enc Tryd.prog w base spare held n 24 cs = some x) :
    ∃ (l : List Int) (a : Option Addr) (cap : Nat), cs = [.slice a l.length cap] ∧ l.length ≤ 9223372036854775807 ∧ NumsAt w a l ∧ ∀ n ∈ l, -9223372036854775808 ≤ n ∧ n ≤ 9223372036854775807 := by
  rcases Go.Deep.open_slice Tryd.underlying24 h with ⟨hcs, _⟩ | ⟨p, len, cap, m, n', D, Pl, hcs, _, hl, hm, hmm, _, hi⟩
  · exact ⟨[], none, 0, hcs, by simp, fun i hi => absurd hi (by simp), fun n hn => by simp at hn⟩
  · have hlm : len ≤ m := by rw [hmm]; split <;> omega
    rw [cells_i64] at hi
    obtain ⟨F, hF⟩ := Go.Deep.choose_lt (α := Int) (n := len) (p := fun i z => w.cell? (p.add (i * 1)) = some (.int .i64 z) ∧ -9223372036854775808 ≤ z ∧ z ≤ 9223372036854775807) (fun i hil => by
      obtain ⟨cs', h1, h2⟩ := hi i (by omega)
      obtain ⟨_, _, hat⟩ := World.cells?_some h1
      obtain ⟨z, e0, _, w0⟩ := DataW.trod_int Tryd.underlying2 h2
      subst e0
      refine ⟨z, ?_, ?_⟩
      · have := hat 0 (by omega)
        simpa [Addr.add] using this
      · simp [Lit.wf, IntKind.min, IntKind.max, IntKind.signed, IntKind.bits] at w0; omega)
    refine ⟨(List.range len).map F, some p, cap, by simpa using hcs, by simp [maxLen] at hm ⊢; omega, ?_, ?_⟩
    · intro i hil
      have hil2 : i < len := by simpa using hil
      have h1 := (hF i hil2).1
      have h00 := (hF 0 (by omega)).1
      obtain ⟨b, off, spot⟩ := p
      have hspot : spot = none := by simpa [Addr.add] using World.cell?_spot h00
      subst hspot
      have hadd : (⟨b, off, none⟩ : Addr).add (i * 1) = ⟨b, off + i, none⟩ := by
        unfold Addr.add
        by_cases h0 : i = 0 <;> simp [h0]
      rw [hadd] at h1
      refine ⟨b, off, rfl, ?_, World.block_lt_of_cell? w _ h1⟩
      rw [h1]
      simp [List.getD, hil2]
    · intro n hn
      simp only [List.mem_map, List.mem_range] at hn
      obtain ⟨i, hil, rfl⟩ := hn
      exact (hF i hil).2

theorem fields_value {n0 n1 n2 n3 : Nat} {c0 c1 c2 c3 : Value} {x0 x1 x2 x3 : DataW H × List MemPlace} (e0 : DataW.trod enc Tryd.prog w base spare held n0 3 [c0] = some x0) (e1 : DataW.trod enc Tryd.prog w base spare held n1 2 [c1] = some x1)
    (e2 : DataW.trod enc Tryd.prog w base spare held n2 9 [c2] = some x2) (e3 : DataW.trod enc Tryd.prog w base spare held n3 24 [c3] = some x3) :
    ∃ (v : V) (a : Option Addr) (cap : Nat), c0 = .int .i64 v.kind ∧ c1 = .int .i64 v.num ∧ c2 = .string (S v.text) ∧ c3 = .slice a v.list.length cap ∧ VArg v ∧ NumsAt w a v.list := by
  obtain ⟨k, f0, _, _⟩ := DataW.trod_int Tryd.underlying3 e0
  obtain ⟨z, f1, _, w1⟩ := DataW.trod_int Tryd.underlying2 e1
  obtain ⟨s, f2, _, w2⟩ := DataW.trod_string Tryd.underlying9 e2
  obtain ⟨l, a, cap, f3, hl, hn, hr⟩ := open_nums e3
  simp only [List.cons.injEq, and_true] at f0 f1 f2 f3
  refine ⟨⟨k, z, s.data.toList, l⟩, a, cap, f0, f1, ?_, f3, ⟨⟨?_, hl⟩, ?_, hr⟩, hn⟩
  · rw [f2, S_list]
  · simp only; rw [list_size]; simp [maxLen] at w2; omega
  · simp [Lit.wf, IntKind.min, IntKind.max, IntKind.signed, IntKind.bits] at w1; simp only; omega

theorem four_of {cs : List Value} (h : cs.length = 4) : ∃ a b c d, cs = [a, b, c, d] := by
  match cs, h with
  | [a, b, c, d], _ => exact ⟨a, b, c, d, rfl⟩
theorem open_value {n : Nat} {cs : List Value} {x : DataW H × List MemPlace} (hlen : cs.length = 4) (h : DataW.trod enc Tryd.prog w base spare held n 26 cs = some x) :
    ∃ (v : V) (a : Option Addr) (cap : Nat), cs = [.int .i64 v.kind, .int .i64 v.num, .string (S v.text), .slice a v.list.length cap] ∧ VArg v ∧ NumsAt w a v.list := by
  obtain ⟨c0, c1, c2, c3, rfl⟩ := four_of hlen
  obtain ⟨ys, m, _, _, _, hyl, hf⟩ := DataW.trod_struct Tryd.underlying26 h
  have f0 := hf 0 _ rfl
  have f1 := hf 1 _ rfl
  have f2 := hf 2 _ rfl
  have f3 := hf 3 _ rfl
  change DataW.trod _ _ _ _ _ _ _ 3 (([c0, c1, c2, c3].drop 0).take (Tryd.prog.cellsOf 3)) = _ at f0
  change DataW.trod _ _ _ _ _ _ _ 2 (([c0, c1, c2, c3].drop 1).take (Tryd.prog.cellsOf 2)) = _ at f1
  change DataW.trod _ _ _ _ _ _ _ 9 (([c0, c1, c2, c3].drop 2).take (Tryd.prog.cellsOf 9)) = _ at f2
  change DataW.trod _ _ _ _ _ _ _ 24 (([c0, c1, c2, c3].drop 3).take (Tryd.prog.cellsOf 24)) = _ at f3
  rw [cells_int] at f0
  rw [cells_i64] at f1
  rw [cells_str] at f2
  rw [cells_nums] at f3
  simp only [List.drop_zero, List.drop_succ_cons, List.take_succ_cons, List.take_zero] at f0 f1 f2 f3
  have hyl : ys.length = 4 := hyl
  rw [List.getElem?_eq_getElem (by omega)] at f0 f1 f2 f3
  obtain ⟨v, a, cap, rfl, rfl, rfl, rfl, hv, hn⟩ := fields_value f0 f1 f2 f3
  exact ⟨v, a, cap, rfl, hv, hn⟩

theorem open_vals {n : Nat} {cs : List Value} {x : DataW H × List MemPlace} (h : DataW.trod enc Tryd.prog w base spare held n 22 cs = some x) :
    ∃ (vs : List V) (a : Option Addr) (cap : Nat), cs = [.slice a vs.length cap] ∧ vs.length ≤ 9223372036854775807 ∧ ValsAt w a vs ∧ ∀ v ∈ vs, VArg v := by
  rcases Go.Deep.open_slice Tryd.underlying22 h with ⟨hcs, _⟩ | ⟨p, len, cap, m, n', D, Pl, hcs, _, hl, hm, hmm, _, hi⟩
  · exact ⟨[], none, 0, hcs, by simp, fun i hi => absurd hi (by simp), fun n hn => by simp at hn⟩
  · have hlm : len ≤ m := by rw [hmm]; split <;> omega
    rw [cells_value] at hi
    obtain ⟨F, hF⟩ := Go.Deep.choose_lt (α := V) (n := len) (p := fun i v => VArg v ∧ ∃ a cap, w.cell? ((p.add (i * 4)).add 0) = some (.int .i64 v.kind) ∧ w.cell? ((p.add (i * 4)).add 1) = some (.int .i64 v.num) ∧ w.cell? ((p.add (i * 4)).add 2) = some (.string (S v.text)) ∧ w.cell? ((p.add (i * 4)).add 3) = some (.slice a v.list.length cap) ∧ NumsAt w a v.list) (fun i hil => by
      obtain ⟨cs', h1, h2⟩ := hi i (by omega)
      obtain ⟨_, hcl, hat⟩ := World.cells?_some h1
      obtain ⟨v, a, cap, rfl, hv, hn⟩ := open_value hcl h2
      exact ⟨v, hv, a, cap, hat 0 (by omega), hat 1 (by omega), hat 2 (by omega), hat 3 (by omega), hn⟩)
    refine ⟨(List.range len).map F, some p, cap, by simpa using hcs, by simp [maxLen] at hm ⊢; omega, ?_, ?_⟩
    · intro i hil
      have hil2 : i < len := by simpa using hil
      obtain ⟨_, a, c, g0, g1, g2, g3, hn⟩ := hF i hil2
      obtain ⟨_, _, _, g00, _⟩ := hF 0 (by omega)
      obtain ⟨b, off, spot⟩ := p
      have hspot : spot = none := by simpa [Addr.add] using World.cell?_spot g00
      subst hspot
      have hadd : ∀ i j : Nat, ((⟨b, off, none⟩ : Addr).add i).add j = ⟨b, off + i + j, none⟩ := by
        intro i j
        unfold Addr.add
        by_cases hi : i = 0 <;> by_cases hj : j = 0 <;> simp [hi, hj]
      rw [hadd] at g0 g1 g2 g3
      refine ⟨b, off, rfl, ?_, World.block_lt_of_cell? w _ g0⟩
      rw [show ((List.range len).map F)[i] = F i by simp]
      exact ⟨a, c, g0, g1, g2, g3, hn⟩
    · intro v hv
      simp only [List.mem_map, List.mem_range] at hv
      obtain ⟨i, hil, rfl⟩ := hv
      exact (hF i hil).1
end

end Go.Proofs.YtipabjefkbgjbaaDoor.Va
