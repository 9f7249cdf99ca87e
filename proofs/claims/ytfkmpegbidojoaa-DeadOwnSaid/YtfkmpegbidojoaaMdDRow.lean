/-
  Rows of dead letters of a call's own, whose insides lie where they lay; one is found by a function.
-/
import Derived.Test.YtfkmpegbidojoaaMdTwins
import Derived.Deep.Slices
namespace Go.Proofs.Ytfkmpegbidojoaa.Md
open Go.RowKit
open Va
set_option linter.unusedVariables false
set_option linter.unusedSimpArgs false

/-- A letter and where its rows lie. -/
structure DK where
  x : DeadP
  ka : Option Addr
  kc : Nat
  fa : Option Addr
  fc : Nat
instance : Inhabited DK := ⟨⟨⟨0, ⟨0, [], [], []⟩, 0⟩, none, 0, none, 0⟩⟩
def DK.cells (y : DK) : List Value := [.int .i64 y.x.n, .int .i64 y.x.mail.id, .string (S y.x.mail.chan), .slice y.ka y.x.mail.key.length y.kc, .slice y.fa y.x.mail.fields.length y.fc, .int .i64 y.x.reason]
def dD (d : List DK) : List Value := d.flatMap DK.cells
theorem dD_len (d : List DK) : (dD d).length = d.length * 6 := by
  induction d with
  | nil => rfl
  | cons y r ih => unfold dD at *; rw [List.flatMap_cons, List.length_append, ih]; simp [DK.cells]; omega
theorem dD_get : ∀ (d : List DK) (i j : Nat) (h : i < d.length), j < 6 → (dD d)[i * 6 + j]? = d[i].cells[j]?
  | [], i, j, h, _ => absurd h (by simp)
  | y :: r, 0, j, h, hj => by
    unfold dD
    rw [List.flatMap_cons, List.getElem?_append_left (by simp [DK.cells]; omega)]
    simp
  | y :: r, i + 1, j, h, hj => by
    have ih := dD_get r i j (by simpa using h) hj
    unfold dD at *
    rw [List.flatMap_cons, List.getElem?_append_right (by simp [DK.cells]; omega)]
    rw [show (i + 1) * 6 + j - y.cells.length = i * 6 + j by simp [DK.cells]; omega, ih]
    simp
theorem dD_one : ∀ (d : List DK) (u : Value), u ∈ dD d → u.oneCell' = true := fun d u hu => by
  unfold dD at hu
  obtain ⟨y, _, hy⟩ := List.mem_flatMap.1 hu
  simp only [DK.cells, List.mem_cons, List.not_mem_nil, or_false] at hy
  rcases hy with rfl | rfl | rfl | rfl | rfl | rfl <;> rfl
/-- A row of the call's own, its insides in W0. -/
structure DO (B : Nat) (W0 w : World) (q : Option Addr) (d : List DK) (cap : Nat) : Prop where
  own : w.ownsRow B 46 6 (.slice q d.length cap) d.length (dD d)
  rows : ∀ y ∈ d, ValsAt W0 y.ka y.x.mail.key ∧ ValsAt W0 y.fa y.x.mail.fields
theorem DO.nil (B : Nat) (W0 w : World) : DO B W0 w none [] 0 := ⟨World.ownsRow_nil _ _ _ _, fun y hy => by simp at hy⟩
theorem DO.agree {B cap : Nat} {W0 w w' : World} {q : Option Addr} {d : List DK} (h : DO B W0 w q d cap) (ag : ∀ b, B ≤ b → Blk w b 46 → w'.heap[b]? = w.heap[b]?) : DO B W0 w' q d cap := by
  refine ⟨⟨h.own.1, ?_⟩, h.rows⟩
  rcases h.own.2 with h0 | ⟨b, cap2, cur, e, hB, hc, rest⟩
  · exact .inl h0
  · exact .inr ⟨b, cap2, cur, e, hB, (ag b hB ⟨_, hc⟩).trans hc, rest⟩
theorem DO.below {B cap : Nat} {W0 w w' : World} {q : Option Addr} {d : List DK} (h : DO B W0 w q d cap) (k : Below w.heap.size w w') : DO B W0 w' q d cap := h.agree fun b _ hb => k.block b hb.lt
/-- A row of letters, with where their insides lie. -/
def RowsOf (w : World) (b off : Nat) (e : List DK) : Prop := ∀ (j : Nat) (u : Value), (dD e)[j]? = some u → w.cell? ⟨b, off + j, none⟩ = some u
theorem RowsOf.cells {w : World} {b off : Nat} {e : List DK} (h : RowsOf w b off e) (i : Nat) (hi : i < e.length) : DAt w b (off + i * 6) e[i].x e[i].ka e[i].kc e[i].fa e[i].fc := by
  have get : ∀ j u, j < 6 → e[i].cells[j]? = some u → w.cell? ⟨b, off + i * 6 + j, none⟩ = some u := fun j u hj hu => by
    rw [Nat.add_assoc]
    exact h _ _ ((dD_get e i j hi hj).trans hu)
  exact ⟨get 0 _ (by omega) rfl, get 1 _ (by omega) rfl, get 2 _ (by omega) rfl, get 3 _ (by omega) rfl, get 4 _ (by omega) rfl, get 5 _ (by omega) rfl⟩
theorem rows_of {w : World} {a : Option Addr} {l : List DeadP} (h : DeadsAt w a l) : ∃ e : List DK, e.map (·.x) = l ∧ (∀ y ∈ e, ValsAt w y.ka y.x.mail.key ∧ ValsAt w y.fa y.x.mail.fields) ∧ ∀ b off, a = some ⟨b, off, none⟩ → RowsOf w b off e := by
  obtain ⟨F, hF⟩ := Go.Deep.choose_lt (n := l.length) (p := fun i (y : DK) => (∀ x, l[i]? = some x → y.x = x) ∧ (ValsAt w y.ka y.x.mail.key ∧ ValsAt w y.fa y.x.mail.fields) ∧ ∀ b off, a = some ⟨b, off, none⟩ → DAt w b (off + i * 6) y.x y.ka y.kc y.fa y.fc) (fun i hi => by
    obtain ⟨b, off, ka, kc, fa, fc, e, ⟨h0, h1, h2, h3, h4, h5, h6, h7⟩, _⟩ := h i hi
    refine ⟨⟨l[i], ka, kc, fa, fc⟩, fun x hx => ?_, ⟨h6, h7⟩, fun b' off' e' => ?_⟩
    · rw [List.getElem?_eq_getElem hi] at hx; exact Option.some.inj hx
    · obtain ⟨rfl, rfl⟩ : b = b' ∧ off = off' := by rw [e] at e'; injection e' with e'; injection e' with e1 e2 _; exact ⟨e1, e2⟩
      exact ⟨h0, h1, h2, h3, h4, h5⟩)
  refine ⟨(List.range l.length).map F, ?_, ?_, ?_⟩
  · apply List.ext_getElem
    · simp
    · intro i h1 h2
      simp only [List.getElem_map, List.getElem_range]
      exact (hF i h2).1 _ (List.getElem?_eq_getElem h2)
  · intro y hy
    obtain ⟨i, hi, rfl⟩ := List.mem_map.1 hy
    exact (hF i (by simpa using hi)).2.1
  · intro b off e j u hu
    have hlen := dD_len ((List.range l.length).map F)
    have hj := (List.getElem?_eq_some_iff.1 hu).1
    rw [hlen] at hj
    simp only [List.length_map, List.length_range] at hj
    have hi : j / 6 < l.length := by omega
    have hg := dD_get ((List.range l.length).map F) (j / 6) (j % 6) (by simpa using hi) (by omega)
    rw [show j / 6 * 6 + j % 6 = j by omega, hu] at hg
    simp only [List.getElem_map, List.getElem_range] at hg
    obtain ⟨h0, h1, h2, h3, h4, h5⟩ := (hF _ hi).2.2 b off e
    have hj6 : off + j = off + j / 6 * 6 + j % 6 := by omega
    have hm : j % 6 = 0 ∨ j % 6 = 1 ∨ j % 6 = 2 ∨ j % 6 = 3 ∨ j % 6 = 4 ∨ j % 6 = 5 := by omega
    rw [hj6]
    rcases hm with hm | hm | hm | hm | hm | hm <;> (rw [hm] at hg ⊢; simp only [DK.cells, List.getElem?_cons_zero, List.getElem?_cons_succ] at hg; rw [hg]; assumption)
/-- A row more, behind a row of the call's own. -/
theorem DO.appA {B cap : Nat} {W0 w : World} {q : Option Addr} {d : List DK} (h : DO B W0 w q d cap) (hB : B ≤ w.heap.size) (e : List DK) (hn : d.length + e.length ≤ 100000) (p : Addr) (c : Nat) (hr : ∀ j u, (dD e)[j]? = some u → w.cell? (p.add j) = some u) (he : ∀ y ∈ e, ValsAt W0 y.ka y.x.mail.key ∧ ValsAt W0 y.fa y.x.mail.fields) :
    ∃ q' cap' w', (Builtin.append_ #[44, 44] 44 #[.slice q d.length cap, .slice (some p) e.length c]).run Try.prog w = .ok (.slice q' (d.length + e.length) cap') w' ∧ DO B W0 w' q' (d ++ e) cap' ∧ Below B w w' ∧ w.grownBy w' (Value.slice q d.length cap).ownBlock := by
  obtain ⟨i0, hi, hz0, hz1, hz2⟩ := info_ptD infoD
  obtain ⟨v', w', hrun, h2, h3, _⟩ := run_append_own (P := Try.prog) w B 44 44 46 i0 _ 6 88 Try.underlying44 hi hz0 hz1 hz2 rfl (by decide) (.slice q d.length cap) d.length (dD d) h.own p e.length c (dD e) (dD_len e) hr (dD_one e) (by unfold maxLen; omega) (by omega) hB
  have hlen : (d ++ e).length = d.length + e.length := by simp
  have hcs : dD (d ++ e) = dD d ++ dD e := by simp [dD]
  have hrows : ∀ y ∈ d ++ e, ValsAt W0 y.ka y.x.mail.key ∧ ValsAt W0 y.fa y.x.mail.fields := fun y hy => by
    rcases List.mem_append.1 hy with hy | hy
    · exact h.rows y hy
    · exact he y hy
  have hbel : Below B w w' := (Below.refl B w).grown h3 (by omega) (fun k hk => (World.ownsRow.lt h.own k hk).1)
  rcases h2.2 with ⟨rfl, h0⟩ | ⟨g, cap2, cur, rfl, rr⟩
  · exact ⟨none, 0, w', by rw [h0]; exact hrun, ⟨by rw [hlen, hcs, h0]; rw [h0] at h2; exact h2, hrows⟩, hbel, h3⟩
  · exact ⟨_, _, w', hrun, ⟨by rw [hlen, hcs]; exact h2, hrows⟩, hbel, h3⟩
theorem DO.app {B cap : Nat} {W0 w : World} {q : Option Addr} {d : List DK} (h : DO B W0 w q d cap) (hB : B ≤ w.heap.size) (e : List DK) (hn : d.length + e.length ≤ 100000) (b off c : Nat) (hr : RowsOf w b off e) (he : ∀ y ∈ e, ValsAt W0 y.ka y.x.mail.key ∧ ValsAt W0 y.fa y.x.mail.fields) :
    ∃ q' cap' w', (Builtin.append_ #[44, 44] 44 #[.slice q d.length cap, .slice (some ⟨b, off, none⟩) e.length c]).run Try.prog w = .ok (.slice q' (d.length + e.length) cap') w' ∧ DO B W0 w' q' (d ++ e) cap' ∧ Below B w w' ∧ w.grownBy w' (Value.slice q d.length cap).ownBlock :=
  h.appA hB e hn ⟨b, off, none⟩ c (fun j u hj => by
    have hadd : (⟨b, off, none⟩ : Addr).add j = ⟨b, off + j, none⟩ := by unfold Addr.add; split <;> simp_all
    rw [hadd]; exact hr j u hj) he
theorem src_rows {w : World} {p : Addr} {l : List DeadP} {e : List DK} (hx : DeadsAt w (some p) l) (he : e.map (·.x) = l) (hr : ∀ b off, some p = some ⟨b, off, none⟩ → RowsOf w b off e) : ∀ j u, (dD e)[j]? = some u → w.cell? (p.add j) = some u := fun j u hu => by
  have hj := (List.getElem?_eq_some_iff.1 hu).1
  rw [dD_len] at hj
  have hl : 0 < l.length := by rw [← he, List.length_map]; omega
  obtain ⟨b, off, _, _, _, _, e1, _⟩ := hx 0 hl
  injection e1 with e1
  subst e1
  have hadd : (⟨b, off, none⟩ : Addr).add j = ⟨b, off + j, none⟩ := by unfold Addr.add; split <;> simp_all
  rw [hadd]
  exact hr b off rfl j u hu
/-- No row more. -/
theorem DO.app_nil {B cap : Nat} {W0 w : World} {q : Option Addr} {d : List DK} (h : DO B W0 w q d cap) (c : Nat) :
    (Builtin.append_ #[44, 44] 44 #[.slice q d.length cap, .slice none 0 c]).run Try.prog w = .ok (.slice q d.length cap) w := by
  obtain ⟨i0, hi, hz0, hz1, hz2⟩ := info_ptD infoD
  have hu := run_underlying (P := Try.prog) (w := w) Try.underlying44
  have hown := h.own
  generalize d.length = n at *
  rcases hown.2 with ⟨e, rfl⟩ | ⟨g, cap2, cur, e, _, hg, hnc, _⟩
  · simp [Builtin.append_, hu, sizeOf, typeInfo, hi, Builtin.lenOf, Builtin.firstCells, e]
  · injection e with e1 e2 e3
    subst e1 e3
    simp [Builtin.append_, hu, sizeOf, typeInfo, hi, Builtin.lenOf, hnc, Builtin.firstCells, storeCells]
theorem DO.rowsOf {B cap : Nat} {W0 w : World} {q : Option Addr} {d : List DK} (h : DO B W0 w q d cap) (hd : d ≠ []) : ∃ g, q = some ⟨g, 0, none⟩ ∧ B ≤ g ∧ Blk w g 46 ∧ RowsOf w g 0 d := by
  rcases h.own.2 with ⟨_, h0⟩ | ⟨g, cap2, cur, e, hB, hc, _⟩
  · exact absurd (List.length_eq_zero_iff.1 h0) hd
  · injection e with e1 e2 e3
    subst e1
    refine ⟨g, rfl, hB, ⟨_, hc⟩, fun j u hu => ?_⟩
    have hj := (List.getElem?_eq_some_iff.1 hu).1
    rw [dD_len] at hj
    rw [Nat.zero_add]
    exact (h.own.cellAt j hj).trans hu
theorem DO.deads {B cap : Nat} {W0 w : World} {q : Option Addr} {d : List DK} (h : DO B W0 w q d cap) (k : Below W0.heap.size W0 w) : DeadsAt w q (d.map (·.x)) := fun i hi => by
  have hil : i < d.length := by simpa using hi
  obtain ⟨g, e, _, hb, hr⟩ := h.rowsOf (List.ne_nil_of_length_pos (by omega))
  have hrow := h.rows d[i] (List.getElem_mem _)
  obtain ⟨h0, h1, h2, h3, h4, h5⟩ := hr.cells i hil
  refine ⟨g, 0, d[i].ka, d[i].kc, d[i].fa, d[i].fc, e, ?_, hb.lt⟩
  simp only [List.getElem_map]
  exact ⟨h0, h1, h2, h3, h4, h5, hrow.1.below k, hrow.2.below k⟩

end Go.Proofs.Ytfkmpegbidojoaa.Md
