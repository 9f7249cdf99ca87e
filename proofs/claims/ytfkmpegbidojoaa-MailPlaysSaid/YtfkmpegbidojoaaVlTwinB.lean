/-
  The program's Twin.
-/
import Derived.Test.YtfkmpegbidojoaaVlTwin
import Derived.Laws.AppendOwn
namespace Go.Proofs.Ytfkmpegbidojoaa.Va
open Go.RowKit

theorem infoVal : (Try.prog.info? 64).map (fun i => (i.zero, i.size, i.bytes)) = some (some (.agg #[.int .i64 0, .int .i64 0, .string ⟨#[]⟩, .slice none 0 0]), 4, 56) := by kernel_rfl
/-- Twins under way: the first k are done. -/
structure TwP (lo G : Nat) (vs : List V) (k : Nat) (w : World) : Prop where
  ge : lo ≤ G
  blk : Blk w G 64
  cells : ∀ i v, vs[i]? = some v → ∃ a c, w.cell? ⟨G, i * 4, none⟩ = some (.int .i64 v.kind) ∧ w.cell? ⟨G, i * 4 + 1, none⟩ = some (.int .i64 v.num) ∧ w.cell? ⟨G, i * 4 + 2, none⟩ = some (.string (S v.text)) ∧
    w.cell? ⟨G, i * 4 + 3, none⟩ = some (.slice a v.list.length c) ∧ (i < k → Fresh lo w a v.list)
theorem TwP.below {lo G k : Nat} {vs : List V} {w w' : World} (h : TwP lo G vs k w) (b : Below w.heap.size w w') : TwP lo G vs k w' := by
  have hl := h.blk.lt
  refine ⟨h.ge, h.blk.below b, fun i v hv => ?_⟩
  obtain ⟨a, c, h0, h1, h2, h3, h4⟩ := h.cells i v hv
  exact ⟨a, c, (b.cell (p := ⟨G, i * 4, none⟩) hl).trans h0, (b.cell (p := ⟨G, i * 4 + 1, none⟩) hl).trans h1, (b.cell (p := ⟨G, i * 4 + 2, none⟩) hl).trans h2, (b.cell (p := ⟨G, i * 4 + 3, none⟩) hl).trans h3, fun hi => (h4 hi).below b⟩
theorem TwP.text {lo G k : Nat} {vs : List V} {w : World} (h : TwP lo G vs k w) (v : V) (hv : vs[k]? = some v) : TwP lo G vs k (w.setCell ⟨G, k * 4 + 2, none⟩ (.string (S v.text))) := by
  refine ⟨h.ge, h.blk.set _ _ _, fun i u hu => ?_⟩
  obtain ⟨a, c, h0, h1, h2, h3, h4⟩ := h.cells i u hu
  refine ⟨a, c, (set_other (.inr (by omega))).trans h0, (set_other (.inr (by omega))).trans h1, ?_, (set_other (.inr (by omega))).trans h3, fun hi => (h4 hi).set h.blk _ _⟩
  by_cases e : i = k
  · subst e
    obtain rfl : u = v := Option.some.inj (hu.symm.trans hv)
    exact World.cell?_setCell_same (w := w) (a := ⟨G, i * 4 + 2, none⟩) (v := _) (h := h2)
  · exact (set_other (.inr (by omega))).trans h2
theorem TwP.list {lo G k : Nat} {vs : List V} {w : World} (h : TwP lo G vs k w) (v : V) (hv : vs[k]? = some v) (a' : Option Addr) (c' : Nat) (hf : Fresh lo w a' v.list) : TwP lo G vs (k + 1) (w.setCell ⟨G, k * 4 + 3, none⟩ (.slice a' v.list.length c')) := by
  refine ⟨h.ge, h.blk.set _ _ _, fun i u hu => ?_⟩
  obtain ⟨a, c, h0, h1, h2, h3, h4⟩ := h.cells i u hu
  by_cases e : i = k
  · subst e
    obtain rfl : u = v := Option.some.inj (hu.symm.trans hv)
    exact ⟨a', c', (set_other (.inr (by omega))).trans h0, (set_other (.inr (by omega))).trans h1, (set_other (.inr (by omega))).trans h2, World.cell?_setCell_same (w := w) (a := ⟨G, i * 4 + 3, none⟩) (v := _) (h := h3), fun _ => hf.set h.blk _ _⟩
  · exact ⟨a, c, (set_other (.inr (by omega))).trans h0, (set_other (.inr (by omega))).trans h1, (set_other (.inr (by omega))).trans h2, (set_other (.inr (by omega))).trans h3, fun hi => (h4 (by omega)).set h.blk _ _⟩
/-- A row of twins. -/
def TwR (lo : Nat) (w : World) (a : Option Addr) (vs : List V) : Prop := vs = [] ∨ ∃ G, a = some ⟨G, 0, none⟩ ∧ TwP lo G vs vs.length w
theorem TwP.vals {lo G : Nat} {vs : List V} {w : World} (h : TwP lo G vs vs.length w) : ValsAt w (some ⟨G, 0, none⟩) vs := fun i hi => by
  obtain ⟨a, c, h0, h1, h2, h3, h4⟩ := h.cells i vs[i] (List.getElem?_eq_getElem hi)
  exact ⟨G, 0, rfl, ⟨a, c, by rw [Nat.zero_add]; exact h0, by rw [Nat.zero_add]; exact h1, by rw [Nat.zero_add]; exact h2, by rw [Nat.zero_add]; exact h3, (h4 hi).nums⟩, h.blk.lt⟩
theorem TwR.vals {lo : Nat} {a : Option Addr} {vs : List V} {w : World} (h : TwR lo w a vs) : ValsAt w a vs := by
  rcases h with rfl | ⟨G, rfl, h⟩
  · exact fun i hi => absurd hi (by simp)
  · exact h.vals

set_option maxRecDepth 100000 in
/-- append of a row of values onto an empty row of the call's own. -/
theorem app_vals (w : World) (vs : List V) (hne : vs ≠ []) (hn : vs.length ≤ 100000) (b off cap : Nat) (hx : ValsAt w (some ⟨b, off, none⟩) vs) :
    ∃ G c' w', (Builtin.append_ #[28, 28] 28 #[.slice (some ⟨w.heap.size, 0, none⟩) 0 0, .slice (some ⟨b, off, none⟩) vs.length cap]).run Try.prog (w.alloc (.cells #[] 64)) = .ok (.slice (some ⟨G, 0, none⟩) vs.length c') w' ∧
      TwP w.heap.size G vs 0 w' ∧ Below w.heap.size w w' := by
  obtain ⟨i0, hi, hz0, hz1, hz2⟩ := info_parts infoVal
  have hb0 := (Below.refl w.heap.size w).alloc (Nat.le_refl _) (.cells #[] 64)
  have hown := World.ownsRow_made (base := w.heap.size) (e := 64) (size := 4) w #[] 0 (Nat.le_refl _) (by unfold maxLen; omega) rfl
  have hpos := List.length_pos_iff.2 hne
  have hcell : ∀ j, j < vs.length * 4 → ∃ u, (w.alloc (.cells #[] 64)).cell? ⟨b, off + j, none⟩ = some u ∧ u.oneCell' = true := fun j hj => by
    obtain ⟨b', off', e, hv, hl⟩ := (hx.below hb0) (j / 4) (by omega)
    obtain ⟨rfl, rfl⟩ : b = b' ∧ off = off' := by injection e with e; injection e with e1 e2 _; exact ⟨e1, e2⟩
    obtain ⟨a, c, h0, h1, h2, h3, _⟩ := hv
    have hj4 : j = j / 4 * 4 + j % 4 := by omega
    have hm : j % 4 = 0 ∨ j % 4 = 1 ∨ j % 4 = 2 ∨ j % 4 = 3 := by omega
    rcases hm with hm | hm | hm | hm
    · exact ⟨_, by rw [hj4, hm, Nat.add_zero]; exact h0, rfl⟩
    · exact ⟨_, by rw [hj4, hm, ← Nat.add_assoc]; exact h1, rfl⟩
    · exact ⟨_, by rw [hj4, hm, ← Nat.add_assoc]; exact h2, rfl⟩
    · exact ⟨_, by rw [hj4, hm, ← Nat.add_assoc]; exact h3, rfl⟩
  obtain ⟨news, hnl, hnews⟩ : ∃ news : List Value, news.length = vs.length * 4 ∧ ∀ j, j < vs.length * 4 → ∃ u, news[j]? = some u ∧ (w.alloc (.cells #[] 64)).cell? ⟨b, off + j, none⟩ = some u ∧ u.oneCell' = true := by
    refine ⟨(List.range (vs.length * 4)).map fun j => ((w.alloc (.cells #[] 64)).cell? ⟨b, off + j, none⟩).getD undef, by simp, fun j hj => ?_⟩
    obtain ⟨u, h1, h2⟩ := hcell j hj
    exact ⟨u, by simp [hj, h1], h1, h2⟩
  have hnat : ∀ j u, news[j]? = some u → (w.alloc (.cells #[] 64)).cell? ((⟨b, off, none⟩ : Addr).add j) = some u := fun j u hu => by
    have hj := (List.getElem?_eq_some_iff.1 hu).1
    obtain ⟨u', h1, h2, _⟩ := hnews j (by omega)
    obtain rfl := Option.some.inj (hu.symm.trans h1)
    have hadd : (⟨b, off, none⟩ : Addr).add j = ⟨b, off + j, none⟩ := by unfold Addr.add; split <;> simp_all
    rw [hadd]; exact h2
  have h1 : ∀ u ∈ news, u.oneCell' = true := fun u hu => by
    obtain ⟨j, hj, rfl⟩ := List.getElem_of_mem hu
    obtain ⟨u', h1, _, h3⟩ := hnews j (by omega)
    rw [List.getElem?_eq_getElem hj] at h1
    obtain rfl := Option.some.inj h1
    exact h3
  obtain ⟨v', w', hr, ho, hg, _⟩ := run_append_own (P := Try.prog) (w.alloc (.cells #[] 64)) w.heap.size 28 28 64 i0 _ 4 56 Try.underlying28 hi hz0 hz1 hz2 rfl (by decide) (.slice (some ⟨w.heap.size, 0, none⟩) 0 0) 0 [] hown ⟨b, off, none⟩ vs.length cap news hnl hnat h1 (by unfold maxLen; omega) (by omega) (by simp)
  have hbel := hb0.grown hg (by simp) (fun k hk => by have := (hown.lt k hk).1; omega)
  rw [List.nil_append, Nat.zero_add] at ho
  rcases ho.2 with ⟨_, h0⟩ | ⟨G, c', cur, rfl, hB, hG, _⟩
  · omega
  · refine ⟨G, c', w', hr, ⟨hB, ⟨cur, hG⟩, fun i v hv => ?_⟩, hbel⟩
    have hil := (List.getElem?_eq_some_iff.1 hv).1
    obtain ⟨b', off', e, hvv, _⟩ := (hx.below hb0) i hil
    obtain ⟨rfl, rfl⟩ : b = b' ∧ off = off' := by injection e with e; injection e with e1 e2 _; exact ⟨e1, e2⟩
    have hvi : vs[i] = v := by rw [List.getElem?_eq_getElem hil] at hv; exact Option.some.inj hv
    rw [hvi] at hvv
    obtain ⟨a, c, q0, q1, q2, q3, _⟩ := hvv
    have get : ∀ r u, r < 4 → (w.alloc (.cells #[] 64)).cell? ⟨b, off + i * 4 + r, none⟩ = some u → w'.cell? ⟨G, i * 4 + r, none⟩ = some u := fun r u hr4 hu => by
      obtain ⟨u', n1, n2, _⟩ := hnews (i * 4 + r) (by omega)
      rw [← Nat.add_assoc, hu] at n2
      obtain rfl := Option.some.inj n2
      have hadd : (⟨G, 0, none⟩ : Addr).add (i * 4 + r) = ⟨G, i * 4 + r, none⟩ := by unfold Addr.add; split <;> simp_all
      have := World.ownsRow.cells ho (g := G) rfl (i * 4 + r) u n1
      rw [hadd] at this
      exact this
    exact ⟨a, c, get 0 _ (by omega) q0, get 1 _ (by omega) q1, get 2 _ (by omega) q2, get 3 _ (by omega) q3, fun hi => absurd hi (by omega)⟩

end Go.Proofs.Ytfkmpegbidojoaa.Va
