/-
  The document's own box: a row of messages at an offset.
-/
import Derived.Test.YtfkmpegbidojoaaMdTake2
import Derived.Test.YtfkmpegbidojoaaMdRow
import Derived.Test.YtfkmpegbidojoaaMdSmall
import Derived.ArgAppend
namespace Go.Proofs.Ytfkmpegbidojoaa.Md
open Go.RowKit
open Va
set_option linter.unusedVariables false
set_option linter.unusedSimpArgs false

/-- Only the block r and the row's own have changed; and new ones. -/
structure Chg (r : Nat) (q : Option Addr) (w w' : World) : Prop where
  os : w'.os = w.os
  tape : w'.tape = w.tape
  output : w'.output = w.output
  size : w.heap.size ≤ w'.heap.size
  block : ∀ k, k < w.heap.size → k ≠ r → (∀ o, q ≠ some ⟨k, o, none⟩) → w'.heap[k]? = w.heap[k]?
theorem Chg.of_below {r : Nat} {q : Option Addr} {w w' : World} (h : Below w.heap.size w w') : Chg r q w w' := ⟨h.os, h.tape, h.output, h.size, fun k hk _ _ => h.block k hk⟩
theorem Chg.trans {r : Nat} {q : Option Addr} {w w1 w2 : World} (h : Chg r q w w1) (k : Chg r q w1 w2) : Chg r q w w2 :=
  ⟨k.os.trans h.os, k.tape.trans h.tape, k.output.trans h.output, Nat.le_trans h.size k.size, fun b hb h1 h2 => (k.block b (Nat.lt_of_lt_of_le hb h.size) h1 h2).trans (h.block b hb h1 h2)⟩
/-- A row of messages, wherever it begins. -/
structure RQ (lo : Nat) (w : World) (q : Option Addr) (cap : Nat) (d : List MK) : Prop where
  row : (q = none ∧ d = [] ∧ cap = 0) ∨ ∃ g off, ∃ cs : Array Value, q = some ⟨g, off, none⟩ ∧ lo ≤ g ∧ w.heap[g]? = some (.cells cs 30 (0, 0)) ∧ d.length ≤ cap ∧ off + cap * 4 ≤ cs.size ∧ ∀ j u, (dM d)[j]? = some u → w.cell? ⟨g, off + j, none⟩ = some u
theorem RQ.agree {lo cap : Nat} {w w' : World} {q : Option Addr} {d : List MK} (h : RQ lo w q cap d) (ag : ∀ b, lo ≤ b → Blk w b 30 → w'.heap[b]? = w.heap[b]?) : RQ lo w' q cap d := by
  rcases h.row with h | ⟨g, off, cs, e, hlo, hg, h1, h2, h3⟩
  · exact ⟨.inl h⟩
  · have hk := ag g hlo ⟨cs, hg⟩
    exact ⟨.inr ⟨g, off, cs, e, hlo, hk.trans hg, h1, h2, fun j u hu => by rw [← h3 j u hu]; unfold World.cell?; simp only [hk]⟩⟩
theorem RQ.below {lo cap : Nat} {w w' : World} {q : Option Addr} {d : List MK} (h : RQ lo w q cap d) (k : Below w.heap.size w w') : RQ lo w' q cap d := h.agree fun b _ hb => k.block b hb.lt
theorem RQ.ge {lo cap : Nat} {w : World} {q : Option Addr} {d : List MK} (h : RQ lo w q cap d) {k : Nat} (hk : k < lo) : ∀ o, q ≠ some ⟨k, o, none⟩ := fun o e => by
  rcases h.row with ⟨h1, _⟩ | ⟨g, off, cs, e1, hlo, _⟩
  · rw [h1] at e; cases e
  · rw [e1] at e; injection e with e; injection e with e; omega
theorem RQ.ne {lo cap : Nat} {w : World} {q : Option Addr} {d : List MK} (h : RQ lo w q cap d) {k : Nat} (hk : ¬ Blk w k 30) : ∀ o, q ≠ some ⟨k, o, none⟩ := fun o e => by
  rcases h.row with ⟨h1, _⟩ | ⟨g, off, cs, e1, hlo, hg, _⟩
  · rw [h1] at e; cases e
  · rw [e1] at e; injection e with e; injection e with e; subst e; exact hk ⟨cs, hg⟩
theorem Chg.then {lo cap r B : Nat} {q : Option Addr} {d : List MK} {w0 w w' : World} (h : Below B w0 w) (k : Chg r q w w') (hq : RQ lo w q cap d) (hl : B ≤ lo) (hr : B ≤ r) (hB : B ≤ w.heap.size) : Below B w0 w' :=
  ⟨k.os.trans h.os, k.tape.trans h.tape, k.output.trans h.output, Nat.le_trans h.size k.size, fun b hb => (k.block b (by omega) (by omega) (hq.ge (by omega))).trans (h.block b hb)⟩
theorem dM_one (d : List MK) (u : Value) (hu : u ∈ dM d) : u.oneCell' = true := by
  unfold dM at hu
  obtain ⟨y, _, hy⟩ := List.mem_flatMap.1 hu
  simp only [MK.cells, List.mem_cons, List.not_mem_nil, or_false] at hy
  rcases hy with rfl | rfl | rfl | rfl <;> rfl
theorem infoM4 : (Try.prog.info? 30).map (fun i => (i.zero, i.size, i.bytes)) = some (some (.agg #[.int .i64 0, .string ⟨#[]⟩, .slice none 0 0, .slice none 0 0]), 4, 72) := by kernel_rfl
theorem RQ.of_own {lo base : Nat} {w : World} {v : Value} {n : Nat} {d : List MK} (hl : lo ≤ base) (h : w.ownsRow base 30 4 v n (dM d)) (hn : d.length = n) : ∃ q cap, v = .slice q n cap ∧ RQ lo w q cap d := by
  rcases h.2 with ⟨rfl, h0⟩ | ⟨g, cap, cur, rfl, hB, hg, hnc, _, hcs, _⟩
  · exact ⟨none, 0, by rw [h0], ⟨.inl ⟨rfl, List.eq_nil_of_length_eq_zero (by omega), rfl⟩⟩⟩
  · refine ⟨_, cap, rfl, ⟨.inr ⟨g, 0, cur, rfl, by omega, hg, by omega, by omega, fun j u hu => ?_⟩⟩⟩
    have := World.ownsRow.cells h (g := g) rfl j u hu
    have hadd : (⟨g, 0, none⟩ : Addr).add j = ⟨g, 0 + j, none⟩ := by unfold Addr.add; split <;> simp_all
    rwa [hadd] at this
set_option maxRecDepth 100000 in
/-- One message more. -/
theorem RQ.app {lo cap r : Nat} {w : World} {q : Option Addr} {d : List MK} (h : RQ lo w q cap d) (hlo : lo ≤ w.heap.size) (hn : d.length ≤ 99999) (y : MK) (K : Nat) (hr : ∀ j u, (dM [y])[j]? = some u → w.cell? ⟨K, 0 + j, none⟩ = some u) :
    ∃ q' cap' w', (Builtin.append_ #[38, 38] 38 #[.slice q d.length cap, .slice (some ⟨K, 0, none⟩) 1 1]).run Try.prog w = .ok (.slice q' (d.length + 1) cap') w' ∧ RQ lo w' q' cap' (d ++ [y]) ∧ Chg r q w w' := by
  obtain ⟨i0, hi, hz0, hz1, hz2⟩ := info_ptM infoM4
  have hadd : ∀ j, (⟨K, 0, none⟩ : Addr).add j = ⟨K, 0 + j, none⟩ := fun j => by unfold Addr.add; split <;> simp_all
  have hnews : ∀ j u, (dM [y])[j]? = some u → w.cell? ((⟨K, 0, none⟩ : Addr).add j) = some u := fun j u hu => by rw [hadd]; exact hr j u hu
  have hcs : dM (d ++ [y]) = dM d ++ dM [y] := by simp [dM]
  have hll : (d ++ [y]).length = d.length + 1 := by simp
  rcases h.row with ⟨rfl, rfl, rfl⟩ | ⟨g, off, cs, rfl, hg0, hg, hnc, hoc, hc⟩
  · obtain ⟨v', w', hrun, h2, h3, _⟩ := run_append_own (P := Try.prog) w lo 38 38 30 i0 _ 4 72 Try.underlying38 hi hz0 hz1 hz2 rfl (by decide) (.slice none 0 0) 0 [] (World.ownsRow_nil _ _ _ _) ⟨K, 0, none⟩ 1 1 (dM [y]) (dM_len [y]) hnews (dM_one [y]) (by unfold maxLen; omega) (by omega) hlo
    obtain ⟨q', cap', rfl, hq⟩ := RQ.of_own (lo := lo) (d := [] ++ [y]) (Nat.le_refl _) h2 rfl
    exact ⟨q', cap', w', hrun, hq, h3.os, h3.tape, h3.output, h3.size, fun k hk _ _ => h3.block k hk (by simp [Value.ownBlock])⟩
  · have hdl := dM_len d
    by_cases hroom : d.length + 1 ≤ cap
    · have hlt : ∀ j, j < 4 → off + d.length * 4 + j < cs.size := fun j hj => by omega
      have hrun := run_append_room_cells (P := Try.prog) w 38 38 30 i0 Try.underlying38 hi g off d.length cap ⟨K, 0, none⟩ 1 1 (dM [y]) (by rw [hz1]; exact dM_len [y]) hnews (dM_one [y]) hroom
        (fun j hj => by rw [dM_len] at hj; rw [hz1, cell_of_row w g _ cs _ _ hg, Array.getElem?_eq_getElem (hlt j hj)]; rfl) (fun j hj => frozen_of_row w g _ _ _ hg)
      rw [hz1] at hrun
      refine ⟨some ⟨g, off, none⟩, cap, _, hrun, ⟨.inr ?_⟩, ?_⟩
      · have hs : ∀ (W : World) (cs : Array Value) (i : Nat) (v : Value), W.heap[g]? = some (.cells cs 30 (0, 0)) → (W.setCell ⟨g, i, none⟩ v).heap[g]? = some (.cells (cs.setIfInBounds i v) 30 (0, 0)) := fun W cs i v hW => heap_setCell_same W g i cs _ v hW
        simp only [dM, List.flatMap_cons, List.flatMap_nil, List.append_nil, MK.cells, World.setCells]
        have e1 := hs _ _ (off + d.length * 4) (.int .i64 y.m.id) hg
        have e2 := hs _ _ (off + d.length * 4 + 1) (.string (S y.m.chan)) e1
        have e3 := hs _ _ (off + d.length * 4 + 1 + 1) (.slice y.ka y.m.key.length y.kc) e2
        have e4 := hs _ _ (off + d.length * 4 + 1 + 1 + 1) (.slice y.fa y.m.fields.length y.fc) e3
        refine ⟨g, off, _, rfl, hg0, e4, by rw [hll]; omega, by simp; omega, fun j u hu => ?_⟩
        by_cases hj : j < d.length * 4
        · have hu2 : (dM d)[j]? = some u := by
            rw [← hu]; exact (List.getElem?_append_left (by rw [hdl]; exact hj)).symm.trans (by rw [← hcs]; rfl)
          exact (set_other (.inr (by omega))).trans ((set_other (.inr (by omega))).trans ((set_other (.inr (by omega))).trans ((set_other (.inr (by omega))).trans (hc j u hu2))))
        · have hj2 := (List.getElem?_eq_some_iff.1 hu).1
          have hul : j < (d.length + 1) * 4 := by
            have := dM_len (d ++ [y]); rw [hll] at this; unfold dM at this; rw [← this]; exact hj2
          have hu2 : (MK.cells y)[j - d.length * 4]? = some u := by
            rw [← hu, List.flatMap_append, List.getElem?_append_right (by have := hdl; unfold dM at this; omega)]
            have := hdl; unfold dM at this
            simp [this]
          have hm : j = d.length * 4 ∨ j = d.length * 4 + 1 ∨ j = d.length * 4 + 2 ∨ j = d.length * 4 + 3 := by omega
          have at_ : ∀ (W : World) (cs : Array Value) (i : Nat) (v : Value), W.heap[g]? = some (.cells cs 30 (0, 0)) → i < cs.size → (W.setCell ⟨g, i, none⟩ v).cell? ⟨g, i, none⟩ = some v := fun W cs i v hW hi => by
            rw [cell_of_row _ g i _ _ _ (hs W cs i v hW)]; simp [hi]
          rcases hm with rfl | rfl | rfl | rfl
          · rw [Nat.sub_self] at hu2
            obtain rfl : Value.int .i64 y.m.id = u := by simpa [MK.cells] using hu2
            exact (set_other (.inr (by omega))).trans ((set_other (.inr (by omega))).trans ((set_other (.inr (by omega))).trans (at_ _ _ _ _ hg (by omega))))
          · rw [show d.length * 4 + 1 - d.length * 4 = 1 by omega] at hu2
            obtain rfl : Value.string (S y.m.chan) = u := by simpa [MK.cells] using hu2
            exact (set_other (.inr (by omega))).trans ((set_other (.inr (by omega))).trans (at_ _ _ _ _ e1 (by simp; omega)))
          · rw [show d.length * 4 + 2 - d.length * 4 = 2 by omega] at hu2
            obtain rfl : Value.slice y.ka y.m.key.length y.kc = u := by simpa [MK.cells] using hu2
            exact (set_other (.inr (by omega))).trans (at_ _ _ _ _ e2 (by simp; omega))
          · rw [show d.length * 4 + 3 - d.length * 4 = 3 by omega] at hu2
            obtain rfl : Value.slice y.fa y.m.fields.length y.fc = u := by simpa [MK.cells] using hu2
            exact at_ _ _ _ _ e3 (by simp; omega)
      · simp only [dM, List.flatMap_cons, List.flatMap_nil, List.append_nil, MK.cells, World.setCells]
        refine ⟨rfl, rfl, rfl, by simp [World.setCell], fun k hk _ h2 => ?_⟩
        have hne : k ≠ g := fun e => h2 off (by rw [e])
        exact (Below.heap_setCell _ _ _ _ hne).trans ((Below.heap_setCell _ _ _ _ hne).trans ((Below.heap_setCell _ _ _ _ hne).trans (Below.heap_setCell _ _ _ _ hne)))
    · obtain ⟨v', w', hrun, h2, h3⟩ := run_append_arg_grows (P := Try.prog) w 38 38 30 i0 _ 4 72 Try.underlying38 hi hz0 hz1 hz2 rfl (by decide) ⟨g, off, none⟩ d.length cap (dM d) (dM_len d) (fun j u hu => by rw [Addr.add_lit]; exact hc j u hu) ⟨K, 0, none⟩ 1 1 (dM [y]) (dM_len [y]) hnews (by omega) (by unfold maxLen; omega) (by omega)
      rw [← hcs] at h2
      obtain ⟨q', cap', rfl, hq⟩ := RQ.of_own hlo h2 hll
      exact ⟨q', cap', w', hrun, hq, h3.os, h3.tape, h3.output, h3.size, fun k hk _ _ => h3.block k hk (by simp)⟩

/-- The document's box. -/
structure RefAt (lo : Nat) (w : World) (r cap : Nat) (q : Option Addr) (c : Nat) (d : List MK) : Prop where
  box : w.heap[r]? = some (.cells #[.slice q d.length c, .int .i64 cap] 41 (0, 0))
  row : RQ lo w q c d
  gr : lo ≤ r
theorem RefAt.c0 {lo r cap c : Nat} {w : World} {q : Option Addr} {d : List MK} (h : RefAt lo w r cap q c d) : w.cell? ⟨r, 0, none⟩ = some (.slice q d.length c) := cell_of_row w r 0 _ _ (0, 0) h.box
theorem RefAt.c1 {lo r cap c : Nat} {w : World} {q : Option Addr} {d : List MK} (h : RefAt lo w r cap q c d) : w.cell? ⟨r, 1, none⟩ = some (.int .i64 cap) := cell_of_row w r 1 _ _ (0, 0) h.box
theorem RefAt.fz {lo r cap c : Nat} {w : World} {q : Option Addr} {d : List MK} (h : RefAt lo w r cap q c d) (j : Nat) : w.frozen? ⟨r, j, none⟩ = false := frozen_of_row w r j _ _ h.box
theorem RefAt.lt {lo r cap c : Nat} {w : World} {q : Option Addr} {d : List MK} (h : RefAt lo w r cap q c d) : r < w.heap.size := lt_of_heapV h.box
theorem RefAt.blk {lo r cap c : Nat} {w : World} {q : Option Addr} {d : List MK} (h : RefAt lo w r cap q c d) : Blk w r 41 := ⟨_, h.box⟩
theorem RefAt.agree {lo r cap c : Nat} {w w' : World} {q : Option Addr} {d : List MK} (h : RefAt lo w r cap q c d) (ag : ∀ b t, (t = 30 ∨ t = 41) → Blk w b t → w'.heap[b]? = w.heap[b]?) : RefAt lo w' r cap q c d :=
  ⟨(ag r _ (.inr rfl) h.blk).trans h.box, h.row.agree fun b _ hb => ag b _ (.inl rfl) hb, h.gr⟩
theorem RefAt.below {lo r cap c : Nat} {w w' : World} {q : Option Addr} {d : List MK} (h : RefAt lo w r cap q c d) (k : Below w.heap.size w w') : RefAt lo w' r cap q c d := h.agree fun b _ _ hb => k.block b hb.lt
theorem RefAt.onl {lo r cap c cc : Nat} {w w' : World} {q : Option Addr} {d : List MK} (h : RefAt lo w r cap q c d) (hc : ∀ t, ¬ Blk w cc t) (k : Onl cc w w') : RefAt lo w' r cap q c d :=
  h.agree fun b t _ hb => k.block b hb.lt (fun e => hc t (e ▸ hb))
theorem BoxAt.chg {lo b c cap r lo2 cap2 : Nat} {w w' : World} {l : List MailP} {q : Option Addr} {d : List MK} (h : BoxAt lo w b c cap l) (hr : Blk w r 41) (hq : RQ lo2 w q cap2 d) (k : Chg r q w w') : BoxAt lo w' b c cap l := by
  obtain ⟨buf, s, rr, hc, hm⟩ := h.chan
  have hbb : Blk w b 68 := ⟨_, h.box⟩
  have e1 := k.block b hbb.lt (hbb.apart hr (by decide)) (hq.ne fun hb => hbb.apart hb (by decide) rfl)
  have e2 := k.block c (lt_of_heapV hc) (fun e => not_chan hc 41 (e ▸ hr)) (hq.ne (not_chan hc _))
  refine ⟨e1.trans h.box, ⟨buf, s, rr, e2.trans hc, hm.agree fun j t ht _ hb => k.block j hb.lt ?_ (hq.ne fun hb2 => ?_)⟩, h.room, h.cap_le, h.gb, h.gc⟩
  · rcases ht with rfl | rfl <;> exact hb.apart hr (by decide)
  · rcases ht with rfl | rfl <;> exact hb.apart hb2 (by decide) rfl
theorem TwR.chg {lo r lo2 cap2 : Nat} {w w' : World} {a : Option Addr} {vs : List V} {q : Option Addr} {d : List MK} (h : TwR lo w a vs) (hr : Blk w r 41) (hq : RQ lo2 w q cap2 d) (k : Chg r q w w') : TwR lo w' a vs :=
  h.agree fun j t ht _ hb => k.block j hb.lt (by rcases ht with rfl | rfl <;> exact hb.apart hr (by decide)) (hq.ne fun hb2 => by rcases ht with rfl | rfl <;> exact hb.apart hb2 (by decide) rfl)

end Go.Proofs.Ytfkmpegbidojoaa.Md
