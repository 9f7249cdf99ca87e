/-
  Twins of values: rows of a call's own.
-/
import Derived.Test.YtfkmpegbidojoaaVlApp
import Derived.Test.YtfkmpegbidojoaaVaRows
import Derived.Test.YtfkmpegbidojoaaShelf
import Derived.WalkSpells
namespace Go.Proofs.Ytfkmpegbidojoaa.Va
open Go.RowKit

/-- A block of this sort lies there. -/
def Blk (w : World) (b : Nat) (t : TypeId) : Prop := ∃ cs : Array Value, w.heap[b]? = some (.cells cs t (0, 0))
theorem Blk.lt {w : World} {b : Nat} {t : TypeId} (h : Blk w b t) : b < w.heap.size := by
  obtain ⟨cs, hc⟩ := h
  exact lt_of_heapV hc
theorem Blk.below {w w' : World} {b : Nat} {t : TypeId} (h : Blk w b t) (k : Below w.heap.size w w') : Blk w' b t := by
  have hl := h.lt
  obtain ⟨cs, hc⟩ := h
  exact ⟨cs, (k.block b hl).trans hc⟩
theorem Blk.set {w : World} {b : Nat} {t : TypeId} (h : Blk w b t) (g o : Nat) (v : Value) : Blk (w.setCell ⟨g, o, none⟩ v) b t := by
  obtain ⟨cs, hc⟩ := h
  by_cases e : b = g
  · subst e
    exact ⟨_, by simp [World.setCell, Array.getElem?_modify, hc]; rfl⟩
  · exact ⟨cs, (Below.heap_setCell _ _ _ _ e).trans hc⟩
theorem Blk.frozen {w : World} {b : Nat} {t : TypeId} (h : Blk w b t) (j : Nat) : w.frozen? ⟨b, j, none⟩ = false := by
  obtain ⟨cs, hc⟩ := h
  unfold World.frozen?
  simp only [hc]
  simp
theorem Blk.apart {w : World} {b g : Nat} {t u : TypeId} (h : Blk w b t) (k : Blk w g u) (hne : t ≠ u) : b ≠ g := by
  rintro rfl
  obtain ⟨cs, hc⟩ := h
  obtain ⟨ds, hd⟩ := k
  rw [hc] at hd
  injection hd with e
  injection e with _ e2 _
  exact hne e2
theorem set_other {w : World} {b g o j : Nat} {v : Value} (h : b ≠ g ∨ j ≠ o) : (w.setCell ⟨g, o, none⟩ v).cell? ⟨b, j, none⟩ = w.cell? ⟨b, j, none⟩ :=
  World.cell?_setCell_other (w := w) (a := ⟨g, o, none⟩) (b := ⟨b, j, none⟩) (v := v) (h := by intro e; injection e with e1 e2 _; rcases h with h | h; exact h e1.symm; exact h e2.symm)
/-- A row of numbers of a call's own: from lo on, in a block of numbers. -/
def Fresh (lo : Nat) (w : World) (a : Option Addr) (l : List Int) : Prop := ∀ j, j < l.length → ∃ b : Nat, a = some ⟨b, 0, none⟩ ∧ Blk w b 2 ∧ w.cell? ⟨b, j, none⟩ = some (.int .i64 (l.getD j 0)) ∧ lo ≤ b
theorem Fresh.nums {lo : Nat} {w : World} {a : Option Addr} {l : List Int} (h : Fresh lo w a l) : NumsAt w a l := fun j hj => by
  obtain ⟨b, e, hs, hc, _⟩ := h j hj
  exact ⟨b, 0, e, by rw [Nat.zero_add]; exact hc, hs.lt⟩
theorem Fresh.below {lo : Nat} {w w' : World} {a : Option Addr} {l : List Int} (h : Fresh lo w a l) (k : Below w.heap.size w w') : Fresh lo w' a l := fun j hj => by
  obtain ⟨b, e, hs, hc, hb⟩ := h j hj
  exact ⟨b, e, hs.below k, (k.cell (p := ⟨b, j, none⟩) hs.lt).trans hc, hb⟩
theorem Fresh.set {lo : Nat} {w : World} {a : Option Addr} {l : List Int} (h : Fresh lo w a l) {g : Nat} (hg : Blk w g 64) (o : Nat) (v : Value) : Fresh lo (w.setCell ⟨g, o, none⟩ v) a l := fun j hj => by
  obtain ⟨b, e, hs, hc, hb⟩ := h j hj
  exact ⟨b, e, hs.set _ _ _, (set_other (.inl (hs.apart hg (by decide)))).trans hc, hb⟩
theorem Fresh.mono {lo hi : Nat} {w : World} {a : Option Addr} {l : List Int} (h : Fresh hi w a l) (k : lo ≤ hi) : Fresh lo w a l := fun j hj => by
  obtain ⟨b, e, hs, hc, hb⟩ := h j hj
  exact ⟨b, e, hs, hc, Nat.le_trans k hb⟩
/-- An owned row of numbers is one of the call's own. -/
theorem owned_fresh {w : World} {B n : Nat} {v : Value} {l : List Int} (h : w.ownsRow B 2 1 v n (i64C l)) (hn : n = l.length) : ∃ a c, v = .slice a l.length c ∧ Fresh B w a l := by
  subst hn
  rcases h.2 with ⟨rfl, h0⟩ | ⟨g, cap, cur, rfl, hB, hg, _⟩
  · have : l = [] := List.length_eq_zero_iff.1 h0
    subst this
    exact ⟨none, 0, rfl, fun i hi => absurd hi (by simp)⟩
  · refine ⟨some ⟨g, 0, none⟩, cap, rfl, fun i hi => ⟨g, rfl, ⟨cur, hg⟩, ?_, hB⟩⟩
    have := h.cellAt i (by omega)
    rw [this]
    simp [i64C, List.getD, hi]
theorem strClone_any (s : ByteArray) (hs : s.size ≤ 281474976710656) (w : World) :
    Calls Try.prog 43 #[.string s] w fun e w' => e = .returned (.string s) ∧ Below w.heap.size w w' := by
  go_enter Try.func43, Try.ntmps43
  go_wp2_with fail
  refine (Try.stringslite_Clone s _ hs).mono ?_
  rintro e w' ⟨rfl, hb⟩
  have HB := Lib.hid hb
  clear hb
  go_wp2_with fail
  go_ret
  exact ⟨rfl, HB.out⟩

set_option linter.unusedSimpArgs false
set_option maxRecDepth 100000 in
set_option maxHeartbeats 1600000 in
theorem cloneNums_any (l : List Int) (hl : l.length ≤ 17592186044416) (a : Option Addr) (cap : Nat) (w : World) (hx : NumsAt w a l) :
    Calls Try.prog 50 #[.slice a l.length cap] w fun e w' => (∃ a' c', e = .returned (.slice a' l.length c') ∧ Fresh w.heap.size w' a' l) ∧ Below w.heap.size w w' := by
  cases a with
  | none =>
    have hl0 : l = [] := by
      cases l with
      | nil => rfl
      | cons x r => obtain ⟨_, _, e, _⟩ := hx 0 (by simp); cases e
    subst hl0
    clear hx hl
    have hnil := fun (wr : World) => Lib.run_eql_slice_nil (P := Try.prog) wr 62 2 none 0 cap 0 0 Try.underlying62
    go_enter Try.func50, Try.ntmps50
    go_wp2_with fail
    go_ret
    exact ⟨⟨none, 0, rfl, fun j hj => absurd hj (by simp)⟩, Below.refl _ _⟩
  | some p =>
    have hb0 := (Below.refl w.heap.size w).alloc (Nat.le_refl _) (.cells #[] 2)
    have hown := World.ownsRow_made (base := w.heap.size) (e := 2) (size := 1) w #[] 0 (Nat.le_refl _) (by unfold maxLen; omega) rfl
    obtain ⟨v', w', hr, ho, hg⟩ := app_nums w.heap.size _ 0 [] _ hown l (some p) cap (hx.below hb0) (by omega) (by simp)
    rw [List.nil_append] at ho
    obtain ⟨a', c', rfl, hf⟩ := owned_fresh ho (by omega)
    have HRUN := Lib.hid hr
    have HF := Lib.hid hf
    have HB := Lib.hid (hb0.grown hg (by simp) (fun k hk => by have := (hown.lt k hk).1; omega))
    have hnil := fun (wr : World) => Lib.run_eql_slice_nil (P := Try.prog) wr 62 2 (some p) l.length cap 0 0 Try.underlying62
    clear hb0 hown hr ho hg hf hx
    go_enter Try.func50, Try.ntmps50
    go_wp2_with (at_builtin; refine wpList_app rfl _ _ _ _ rfl rfl rfl _ _ HRUN.out ?_)
    go_ret
    exact ⟨⟨a', c', rfl, HF.out⟩, HB.out⟩

end Go.Proofs.Ytfkmpegbidojoaa.Va
