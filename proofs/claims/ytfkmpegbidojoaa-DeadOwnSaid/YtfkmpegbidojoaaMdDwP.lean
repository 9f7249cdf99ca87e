/-
  Rows of dead letters of a call's own: twins under way; a row that is copied.
-/
import Derived.Test.YtfkmpegbidojoaaMdTwin
import Derived.Laws.AppendOwn
namespace Go.Proofs.Ytfkmpegbidojoaa.Md
open Go.RowKit
open Va
set_option linter.unusedVariables false
set_option linter.unusedSimpArgs false

theorem info_ptD {P : Program} {t : TypeId} {z : Value} {s b : Nat} (h : (P.info? t).map (fun i => (i.zero, i.size, i.bytes)) = some (some z, s, b)) : ∃ i, P.info? t = some i ∧ i.zero = some z ∧ i.size = s ∧ i.bytes = b := by
  obtain ⟨i, hi, h2⟩ := Option.map_eq_some_iff.1 h
  simp only [Prod.mk.injEq] at h2
  exact ⟨i, hi, h2.1, h2.2.1, h2.2.2⟩
theorem infoD : (Try.prog.info? 46).map (fun i => (i.zero, i.size, i.bytes)) = some (some (.agg #[.int .i64 0, .int .i64 0, .string ⟨#[]⟩, .slice none 0 0, .slice none 0 0, .int .i64 0]), 6, 88) := by kernel_rfl
/-- What a letter's cells are. -/
def DAt (w : World) (b o : Nat) (x : DeadP) (ka : Option Addr) (kc : Nat) (fa : Option Addr) (fc : Nat) : Prop :=
  w.cell? ⟨b, o, none⟩ = some (.int .i64 x.n) ∧ w.cell? ⟨b, o + 1, none⟩ = some (.int .i64 x.mail.id) ∧ w.cell? ⟨b, o + 2, none⟩ = some (.string (S x.mail.chan)) ∧ w.cell? ⟨b, o + 3, none⟩ = some (.slice ka x.mail.key.length kc) ∧ w.cell? ⟨b, o + 4, none⟩ = some (.slice fa x.mail.fields.length fc) ∧ w.cell? ⟨b, o + 5, none⟩ = some (.int .i64 x.reason)
/-- Twins under way: the first k are done. -/
structure DwP (lo G : Nat) (l : List DeadP) (k : Nat) (w : World) : Prop where
  ge : lo ≤ G
  blk : Blk w G 46
  cells : ∀ (i : Nat) (x : DeadP), l[i]? = some x → ∃ ka kc fa fc, DAt w G (i * 6) x ka kc fa fc ∧ (i < k → TwR lo w ka x.mail.key ∧ TwR lo w fa x.mail.fields)
theorem DAt.agree {w w' : World} {b o : Nat} {x : DeadP} {ka fa : Option Addr} {kc fc : Nat} (h : DAt w b o x ka kc fa fc) (e : w'.heap[b]? = w.heap[b]?) : DAt w' b o x ka kc fa fc := by
  have hc : ∀ j, w'.cell? ⟨b, j, none⟩ = w.cell? ⟨b, j, none⟩ := fun j => by unfold World.cell?; simp only [e]
  obtain ⟨h0, h1, h2, h3, h4, h5⟩ := h
  exact ⟨(hc _).trans h0, (hc _).trans h1, (hc _).trans h2, (hc _).trans h3, (hc _).trans h4, (hc _).trans h5⟩
theorem DwP.agree {lo G k : Nat} {l : List DeadP} {w w' : World} (h : DwP lo G l k w) (ag : ∀ b t, (t = 64 ∨ t = 2 ∨ t = 46) → lo ≤ b → Blk w b t → w'.heap[b]? = w.heap[b]?) : DwP lo G l k w' := by
  have hg := ag G _ (.inr (.inr rfl)) h.ge h.blk
  have hb : Blk w' G 46 := by obtain ⟨cs, hs⟩ := h.blk; exact ⟨cs, hg.trans hs⟩
  refine ⟨h.ge, hb, fun i x hi => ?_⟩
  obtain ⟨ka, kc, fa, fc, h1, h2⟩ := h.cells i x hi
  have ag2 : ∀ b t, (t = 64 ∨ t = 2) → lo ≤ b → Blk w b t → w'.heap[b]? = w.heap[b]? := fun b t ht => ag b t (by rcases ht with h | h <;> simp [h])
  exact ⟨ka, kc, fa, fc, h1.agree hg, fun hk => ⟨(h2 hk).1.agree ag2, (h2 hk).2.agree ag2⟩⟩
theorem DwP.below {lo G k : Nat} {l : List DeadP} {w w' : World} (h : DwP lo G l k w) (b : Below w.heap.size w w') : DwP lo G l k w' := h.agree fun g _ _ _ hg => b.block g hg.lt
theorem TwR.setD {lo g o : Nat} {w : World} {a : Option Addr} {vs : List V} {v : Value} (h : TwR lo w a vs) (hb : Blk w g 46) : TwR lo (w.setCell ⟨g, o, none⟩ v) a vs :=
  TwR.but h (not_blk hb (by decide) (by decide)) fun b _ hne => Below.heap_setCell _ _ _ _ hne
theorem set_same {w : World} {g o : Nat} {v u : Value} (h : w.cell? ⟨g, o, none⟩ = some u) : (w.setCell ⟨g, o, none⟩ v).cell? ⟨g, o, none⟩ = some v := World.cell?_setCell_same (w := w) (a := ⟨g, o, none⟩) (v := v) (h := h)
theorem DAt.set {w : World} {b o g j : Nat} {v : Value} {x : DeadP} {ka fa : Option Addr} {kc fc : Nat} (h : DAt w b o x ka kc fa fc) (hj : b ≠ g ∨ j < o ∨ o + 6 ≤ j) : DAt (w.setCell ⟨g, j, none⟩ v) b o x ka kc fa fc := by
  obtain ⟨h0, h1, h2, h3, h4, h5⟩ := h
  refine ⟨(set_other ?_).trans h0, (set_other ?_).trans h1, (set_other ?_).trans h2, (set_other ?_).trans h3, (set_other ?_).trans h4, (set_other ?_).trans h5⟩ <;> (rcases hj with hj | hj; exact .inl hj; exact .inr (by omega))
/-- Letter k's text, key, fields are written. -/
theorem DwP.text {lo G k : Nat} {l : List DeadP} {w : World} (h : DwP lo G l k w) (x : DeadP) (hx : l[k]? = some x) : DwP lo G l k (w.setCell ⟨G, k * 6 + 2, none⟩ (.string (S x.mail.chan))) := by
  refine ⟨h.ge, h.blk.set _ _ _, fun i y hy => ?_⟩
  obtain ⟨ka, kc, fa, fc, h1, h2⟩ := h.cells i y hy
  refine ⟨ka, kc, fa, fc, ?_, fun hk => ⟨TwR.setD (h2 hk).1 h.blk, TwR.setD (h2 hk).2 h.blk⟩⟩
  by_cases e : i = k
  · subst e
    obtain rfl : y = x := Option.some.inj (hy.symm.trans hx)
    obtain ⟨c0, c1, c2, c3, c4, c5⟩ := h1
    exact ⟨(set_other (.inr (by omega))).trans c0, (set_other (.inr (by omega))).trans c1, set_same c2, (set_other (.inr (by omega))).trans c3, (set_other (.inr (by omega))).trans c4, (set_other (.inr (by omega))).trans c5⟩
  · exact h1.set (.inr (by omega))
theorem DwP.key {lo G k : Nat} {l : List DeadP} {w : World} (h : DwP lo G l k w) (x : DeadP) (hx : l[k]? = some x) (ka' : Option Addr) (kc' : Nat) : DwP lo G l k (w.setCell ⟨G, k * 6 + 3, none⟩ (.slice ka' x.mail.key.length kc')) := by
  refine ⟨h.ge, h.blk.set _ _ _, fun i y hy => ?_⟩
  obtain ⟨ka, kc, fa, fc, h1, h2⟩ := h.cells i y hy
  by_cases e : i = k
  · subst e
    obtain rfl : y = x := Option.some.inj (hy.symm.trans hx)
    obtain ⟨c0, c1, c2, c3, c4, c5⟩ := h1
    exact ⟨ka', kc', fa, fc, ⟨(set_other (.inr (by omega))).trans c0, (set_other (.inr (by omega))).trans c1, (set_other (.inr (by omega))).trans c2, set_same c3, (set_other (.inr (by omega))).trans c4, (set_other (.inr (by omega))).trans c5⟩, fun hk => absurd hk (by omega)⟩
  · exact ⟨ka, kc, fa, fc, h1.set (.inr (by omega)), fun hk => ⟨TwR.setD (h2 hk).1 h.blk, TwR.setD (h2 hk).2 h.blk⟩⟩
theorem DwP.fields {lo G k : Nat} {l : List DeadP} {w : World} (h : DwP lo G l k w) (x : DeadP) (hx : l[k]? = some x) (ka' : Option Addr) (kc' : Nat) (fa' : Option Addr) (fc' : Nat) (hk3 : w.cell? ⟨G, k * 6 + 3, none⟩ = some (.slice ka' x.mail.key.length kc')) (tk : TwR lo w ka' x.mail.key) (tf : TwR lo w fa' x.mail.fields) :
    DwP lo G l (k + 1) (w.setCell ⟨G, k * 6 + 4, none⟩ (.slice fa' x.mail.fields.length fc')) := by
  refine ⟨h.ge, h.blk.set _ _ _, fun i y hy => ?_⟩
  obtain ⟨ka, kc, fa, fc, h1, h2⟩ := h.cells i y hy
  by_cases e : i = k
  · subst e
    obtain rfl : y = x := Option.some.inj (hy.symm.trans hx)
    obtain ⟨c0, c1, c2, c3, c4, c5⟩ := h1
    exact ⟨ka', kc', fa', fc', ⟨(set_other (.inr (by omega))).trans c0, (set_other (.inr (by omega))).trans c1, (set_other (.inr (by omega))).trans c2, (set_other (.inr (by omega))).trans hk3, set_same c4, (set_other (.inr (by omega))).trans c5⟩, fun _ => ⟨TwR.setD tk h.blk, TwR.setD tf h.blk⟩⟩
  · exact ⟨ka, kc, fa, fc, h1.set (.inr (by omega)), fun hk => ⟨TwR.setD (h2 (by omega)).1 h.blk, TwR.setD (h2 (by omega)).2 h.blk⟩⟩
/-- A row of letters of a call's own. -/
def DwR (lo : Nat) (w : World) (a : Option Addr) (l : List DeadP) : Prop := l = [] ∨ ∃ G, a = some ⟨G, 0, none⟩ ∧ DwP lo G l l.length w
theorem DwR.deads {lo : Nat} {w : World} {a : Option Addr} {l : List DeadP} (h : DwR lo w a l) : DeadsAt w a l := fun i hi => by
  rcases h with rfl | ⟨G, e, h⟩
  · exact absurd hi (by simp)
  · obtain ⟨ka, kc, fa, fc, ⟨h0, h1, h2, h3, h4, h5⟩, h6⟩ := h.cells i l[i] (List.getElem?_eq_getElem hi)
    obtain ⟨t1, t2⟩ := h6 hi
    exact ⟨G, 0, ka, kc, fa, fc, e, by rw [Nat.zero_add]; exact ⟨h0, h1, h2, h3, h4, h5, t1.vals, t2.vals⟩, h.blk.lt⟩
theorem DwR.agree {lo : Nat} {w w' : World} {a : Option Addr} {l : List DeadP} (h : DwR lo w a l) (ag : ∀ b t, (t = 64 ∨ t = 2 ∨ t = 46) → lo ≤ b → Blk w b t → w'.heap[b]? = w.heap[b]?) : DwR lo w' a l := by
  rcases h with h | ⟨G, e, h⟩
  · exact .inl h
  · exact .inr ⟨G, e, h.agree ag⟩
theorem DwR.below {lo : Nat} {w w' : World} {a : Option Addr} {l : List DeadP} (h : DwR lo w a l) (b : Below w.heap.size w w') : DwR lo w' a l := h.agree fun g _ _ _ hg => b.block g hg.lt

set_option maxRecDepth 100000 in
/-- append of a row onto an empty one of the call's own: its cells, in a block of the call's own. -/
theorem app_row (t e : TypeId) (z : Value) (size bytes : Nat) (ht : Try.prog.underlying t = some (.slice e)) (hinfo : (Try.prog.info? e).map (fun i => (i.zero, i.size, i.bytes)) = some (some z, size, bytes)) (hzs : z.cells.size = size) (hsz : 0 < size)
    (w : World) (n : Nat) (hn : 0 < n) (hb : n * bytes ≤ 140737488355328) (hm : n ≤ 140737488355328) (b off cap : Nat) (hcell : ∀ j, j < n * size → ∃ u, w.cell? ⟨b, off + j, none⟩ = some u ∧ u.oneCell' = true) :
    ∃ G c' w', (Builtin.append_ #[t, t] t #[.slice (some ⟨w.heap.size, 0, none⟩) 0 0, .slice (some ⟨b, off, none⟩) n cap]).run Try.prog (w.alloc (.cells #[] e)) = .ok (.slice (some ⟨G, 0, none⟩) n c') w' ∧
      w.heap.size ≤ G ∧ n ≤ c' ∧ Blk w' G e ∧ (∀ j, j < n * size → w'.cell? ⟨G, j, none⟩ = w.cell? ⟨b, off + j, none⟩) ∧ Below w.heap.size w w' := by
  obtain ⟨i0, hi, hz0, hz1, hz2⟩ := info_ptD hinfo
  have hb0 := (Below.refl w.heap.size w).alloc (Nat.le_refl _) (.cells #[] e)
  have hown := World.ownsRow_made (base := w.heap.size) (e := e) (size := size) w #[] 0 (Nat.le_refl _) (by unfold maxLen; omega) (by simp)
  have hcell1 : ∀ j, j < n * size → ∃ u, (w.alloc (.cells #[] e)).cell? ⟨b, off + j, none⟩ = some u ∧ u.oneCell' = true := fun j hj => by
    obtain ⟨u, h1, h2⟩ := hcell j hj
    exact ⟨u, (hb0.cell (p := ⟨b, off + j, none⟩) (World.block_lt_of_cell? w _ h1)).trans h1, h2⟩
  obtain ⟨news, hnl, hnews⟩ : ∃ news : List Value, news.length = n * size ∧ ∀ j, j < n * size → ∃ u, news[j]? = some u ∧ (w.alloc (.cells #[] e)).cell? ⟨b, off + j, none⟩ = some u ∧ u.oneCell' = true := by
    refine ⟨(List.range (n * size)).map fun j => ((w.alloc (.cells #[] e)).cell? ⟨b, off + j, none⟩).getD undef, by simp, fun j hj => ?_⟩
    obtain ⟨u, h1, h2⟩ := hcell1 j hj
    exact ⟨u, by simp [hj, h1], h1, h2⟩
  have hnat : ∀ j u, news[j]? = some u → (w.alloc (.cells #[] e)).cell? ((⟨b, off, none⟩ : Addr).add j) = some u := fun j u hu => by
    have hj := (List.getElem?_eq_some_iff.1 hu).1
    obtain ⟨u', h1, h2, _⟩ := hnews j (by omega)
    obtain rfl := Option.some.inj (hu.symm.trans h1)
    have hadd : (⟨b, off, none⟩ : Addr).add j = ⟨b, off + j, none⟩ := by unfold Addr.add; split <;> simp_all
    rw [hadd]; exact h2
  have h1 : ∀ u ∈ news, u.oneCell' = true := fun u hu => by
    obtain ⟨j, hj, rfl⟩ := List.getElem_of_mem hu
    obtain ⟨u', h1, _, h3⟩ := hnews j (by omega)
    rw [List.getElem?_eq_getElem hj] at h1
    obtain rfl := Option.some.inj h1
    exact h3
  obtain ⟨v', w', hr, ho, hg, _⟩ := run_append_own (P := Try.prog) (w.alloc (.cells #[] e)) w.heap.size t t e i0 _ size bytes ht hi hz0 hz1 hz2 hzs hsz (.slice (some ⟨w.heap.size, 0, none⟩) 0 0) 0 [] hown ⟨b, off, none⟩ n cap news hnl hnat h1 (by unfold maxLen; omega) (by rw [Nat.zero_add]; exact hb) (by simp)
  have hbel := hb0.grown hg (by simp) (fun k hk => by have := (hown.lt k hk).1; omega)
  rw [List.nil_append, Nat.zero_add] at ho
  rcases ho.2 with ⟨_, h0⟩ | ⟨G, c', cur, rfl, hB, hG, hnc, _⟩
  · omega
  · refine ⟨G, c', w', hr, hB, hnc, ⟨cur, hG⟩, fun j hj => ?_, hbel⟩
    obtain ⟨u', n1, n2, _⟩ := hnews j hj
    obtain ⟨u2, m1, _⟩ := hcell j hj
    have e2 : (w.alloc (.cells #[] e)).cell? ⟨b, off + j, none⟩ = w.cell? ⟨b, off + j, none⟩ := hb0.cell (p := ⟨b, off + j, none⟩) (World.block_lt_of_cell? w _ m1)
    have hadd : (⟨G, 0, none⟩ : Addr).add j = ⟨G, j, none⟩ := by unfold Addr.add; split <;> simp_all
    have := World.ownsRow.cells ho (g := G) rfl j u' n1
    rw [hadd] at this
    rw [this, ← e2, n2]

end Go.Proofs.Ytfkmpegbidojoaa.Md
