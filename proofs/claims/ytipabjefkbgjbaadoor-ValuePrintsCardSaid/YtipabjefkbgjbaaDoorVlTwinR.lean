/-
  The document's Twin, walked.
-/
import Derived.Test.YtipabjefkbgjbaaDoorVlTwinC
namespace Go.Proofs.YtipabjefkbgjbaaDoor.Va
open Go.RowKit

theorem Fresh.grown {lo : Nat} {w w' : World} {a : Option Addr} {l : List Int} {v : Value} {n : Nat} {xs : List Value} (h : Fresh lo w a l) (ho : w.ownsRow lo 26 4 v n xs) (hg : w.grownBy w' v.ownBlock) : Fresh lo w' a l := fun j hj => by
  obtain ⟨b, e, ⟨cs, hs⟩, hc, hb⟩ := h j hj
  have hl := lt_of_heapV hs
  have hne : some b ≠ v.ownBlock := by
    intro eb
    rcases ho.2 with ⟨rfl, _⟩ | ⟨g, cap, cur, rfl, _, hgg, _⟩
    · cases eb
    · obtain rfl : b = g := by simpa [Value.ownBlock] using eb
      rw [hs] at hgg
      injection hgg with e1
      injection e1 with _ e2 _
      exact absurd e2 (by decide)
  have hbk := hg.block b hl hne
  exact ⟨b, e, ⟨cs, hbk.trans hs⟩, by unfold World.cell? at hc ⊢; simp only [hbk]; exact hc, hb⟩
/-- Twins under way, row by row. -/
structure RfP (lo : Nat) (vs : List V) (k : Nat) (vo : Value) (w : World) : Prop where
  ex : ∃ xs : List Value, w.ownsRow lo 26 4 vo k xs ∧ ∀ i v, vs[i]? = some v → i < k → ∃ a c, xs[i * 4]? = some (.int .i64 v.kind) ∧ xs[i * 4 + 1]? = some (.int .i64 v.num) ∧ xs[i * 4 + 2]? = some (.string (S v.text)) ∧
    xs[i * 4 + 3]? = some (.slice a v.list.length c) ∧ Fresh lo w a v.list
theorem RfP.below {lo k : Nat} {vs : List V} {vo : Value} {w w' : World} (h : RfP lo vs k vo w) (b : Below w.heap.size w w') : RfP lo vs k vo w' := by
  obtain ⟨xs, ho, hc⟩ := h.ex
  refine ⟨xs, World.ownsRow.kept (row := none) ho ⟨b.os, b.tape, b.output, b.size, fun k hk _ => b.block k hk⟩ (Classical.em _), fun i v hv hi => ?_⟩
  obtain ⟨a, c, h0, h1, h2, h3, h4⟩ := hc i v hv hi
  exact ⟨a, c, h0, h1, h2, h3, h4.below b⟩
/-- One more. -/
theorem RfP.app {lo k : Nat} {vs : List V} {vo : Value} {w : World} (h : RfP lo vs k vo w) (hlo : lo ≤ w.heap.size) (hk : k ≤ 100000) (x : V) (hx : vs[k]? = some x) (a : Option Addr) (c : Nat) (hf : Fresh lo w a x.list) (H : Nat) (hH : w.heap.size = H) :
    ∃ v' w', (Builtin.append_ #[22, 22] 22 #[vo, .slice (some ⟨H, 0, none⟩) 1 1]).run Tryd.prog (w.alloc (.cells #[.int .i64 x.kind, .int .i64 x.num, .string (S x.text), .slice a x.list.length c] 26)) = .ok v' w' ∧
      RfP lo vs (k + 1) v' w' ∧ Below lo w w' := by
  subst hH
  obtain ⟨i0, hi, hz0, hz1, hz2⟩ := info_parts infoVal
  obtain ⟨xs, ho, hc⟩ := h.ex
  have hb0 := (Below.refl w.heap.size w).alloc (Nat.le_refl _) (.cells #[.int .i64 x.kind, .int .i64 x.num, .string (S x.text), .slice a x.list.length c] 26)
  have hown := World.ownsRow.alloc ho (.cells #[.int .i64 x.kind, .int .i64 x.num, .string (S x.text), .slice a x.list.length c] 26)
  have hnews : ∀ j u, [Value.int .i64 x.kind, .int .i64 x.num, .string (S x.text), .slice a x.list.length c][j]? = some u → (w.alloc (.cells #[.int .i64 x.kind, .int .i64 x.num, .string (S x.text), .slice a x.list.length c] 26)).cell? ((⟨w.heap.size, 0, none⟩ : Addr).add j) = some u := by
    intro j u hj
    have hadd : (⟨w.heap.size, 0, none⟩ : Addr).add j = ⟨w.heap.size, j, none⟩ := by unfold Addr.add; split <;> simp_all
    rw [hadd, cell_of_row _ w.heap.size j _ _ (0, 0) (heap_alloc_new w _)]
    simpa using hj
  have h1 : ∀ u ∈ [Value.int .i64 x.kind, .int .i64 x.num, .string (S x.text), .slice a x.list.length c], u.oneCell' = true := by
    intro u hu
    simp only [List.mem_cons, List.not_mem_nil, or_false] at hu
    rcases hu with rfl | rfl | rfl | rfl <;> rfl
  obtain ⟨v', w', hr, h2, h3, _⟩ := run_append_own (P := Tryd.prog) _ lo 22 22 26 i0 _ 4 56 Tryd.underlying22 hi hz0 hz1 hz2 rfl (by decide) vo k xs hown ⟨w.heap.size, 0, none⟩ 1 1 _ rfl hnews h1 (by unfold maxLen; omega) (by omega) (by simp; omega)
  have hlen : xs.length = k * 4 := ho.1
  refine ⟨v', w', hr, ⟨_, h2, fun i v hv hik => ?_⟩, ((Below.refl _ _).alloc hlo _).grown h3 (by simp; omega) (fun k hk => (World.ownsRow.lt ho k hk).1)⟩
  by_cases e : i = k
  · subst e
    obtain rfl : v = x := Option.some.inj (hv.symm.trans hx)
    refine ⟨a, c, ?_, ?_, ?_, ?_, (hf.below hb0).grown hown h3⟩
    · rw [List.getElem?_append_right (by omega), show i * 4 - xs.length = 0 by omega]; rfl
    · rw [List.getElem?_append_right (by omega), show i * 4 + 1 - xs.length = 1 by omega]; rfl
    · rw [List.getElem?_append_right (by omega), show i * 4 + 2 - xs.length = 2 by omega]; rfl
    · rw [List.getElem?_append_right (by omega), show i * 4 + 3 - xs.length = 3 by omega]; rfl
  · obtain ⟨a', c', q0, q1, q2, q3, q4⟩ := hc i v hv (by omega)
    refine ⟨a', c', ?_, ?_, ?_, ?_, (q4.below hb0).grown hown h3⟩
    · rw [List.getElem?_append_left (by omega)]; exact q0
    · rw [List.getElem?_append_left (by omega)]; exact q1
    · rw [List.getElem?_append_left (by omega)]; exact q2
    · rw [List.getElem?_append_left (by omega)]; exact q3
theorem RfP.done {lo : Nat} {vs : List V} {vo : Value} {w : World} (h : RfP lo vs vs.length vo w) : ∃ a c, vo = .slice a vs.length c ∧ TwR lo w a vs := by
  obtain ⟨xs, ho, hc⟩ := h.ex
  rcases ho.2 with ⟨rfl, h0⟩ | ⟨g, cap, cur, rfl, hB, hg, _⟩
  · exact ⟨none, 0, by rw [h0], .inl (List.length_eq_zero_iff.1 h0)⟩
  · refine ⟨some ⟨g, 0, none⟩, cap, rfl, .inr ⟨g, rfl, hB, ⟨cur, hg⟩, fun i v hv => ?_⟩⟩
    obtain ⟨a, c, h0, h1, h2, h3, h4⟩ := hc i v hv ((List.getElem?_eq_some_iff.1 hv).1)
    have get : ∀ j u, xs[j]? = some u → w.cell? ⟨g, j, none⟩ = some u := fun j u hu => by
      have hadd : (⟨g, 0, none⟩ : Addr).add j = ⟨g, j, none⟩ := by unfold Addr.add; split <;> simp_all
      have := World.ownsRow.cells ho (g := g) rfl j u hu
      rw [hadd] at this
      exact this
    exact ⟨a, c, get _ _ h0, get _ _ h1, get _ _ h2, get _ _ h3, fun _ => h4⟩

set_option linter.unusedSimpArgs false
set_option maxRecDepth 100000 in
set_option maxHeartbeats 1600000 in
theorem refTwin_any (vs : List V) (hn : vs.length ≤ 1000) (ok : ∀ v ∈ vs, VIn v) (a : Option Addr) (cap : Nat) (w : World) (hx : ValsAt w a vs) :
    Calls Tryd.prog 15 #[.slice a vs.length cap] w fun e w' => (∃ a' c', e = .returned (.slice a' vs.length c') ∧ TwR w.heap.size w' a' vs) ∧ Below w.heap.size w w' := by
  have HX := Lib.hid hx
  have HOK := Lib.hid ok
  have hni : (vs.length : Int) ≤ 1000 := by omega
  clear hx ok
  go_enter Tryd.func15, Tryd.ntmps15
  go_wp2_with fail
  go_loopw [3, 8] (fun xo i wr => ∃ (k : Nat) (vo : Value), vo = xo ∧ k ≤ vs.length ∧ i = .int .i64 k ∧ RfP w.heap.size vs k vo wr ∧ Below w.heap.size w wr) (fun _ i _ => vs.length - (intOf i).toNat)
  case atStart => exact ⟨0, _, rfl, by omega, rfl, ⟨[], World.ownsRow_nil _ _ _ _, fun i v _ hi => absurd hi (by omega)⟩, Below.refl _ _⟩
  case round =>
    obtain ⟨k, vo, rfl, hk, rfl, ht, hb⟩ := hrel
    have HT := Lib.hid ht
    have HB := Lib.hid hb
    by_cases hlt : k < vs.length
    · obtain ⟨b, off, rfl, hv, hgl⟩ := HX.out k hlt
      obtain ⟨a1, c1, s0, s1, s2, s3, pn⟩ := hv
      have p0 := (hb.cell (p := ⟨b, off + k * 4, none⟩) hgl).trans s0
      have p1 := (hb.cell (p := ⟨b, off + k * 4 + 1, none⟩) hgl).trans s1
      have p2 := (hb.cell (p := ⟨b, off + k * 4 + 2, none⟩) hgl).trans s2
      have p3 := (hb.cell (p := ⟨b, off + k * 4 + 3, none⟩) hgl).trans s3
      have okv := HOK.out vs[k] (List.getElem_mem _)
      have hvk : vs[k]? = some vs[k] := List.getElem?_eq_getElem hlt
      have hki : (k : Int) < (vs.length : Int) := by omega
      generalize vs[k] = x at *
      have hbz := hb.size
      have hB1 := (Below.refl wr.heap.size wr).alloc (Nat.le_refl _) (.cells #[.int .i64 x.kind, .int .i64 x.num, .string (S x.text), .slice a1 x.list.length c1] 26)
      have hB2 := hB1.alloc (by simp) (.cells #[] 2)
      have hown := World.ownsRow_made (base := w.heap.size) (e := 2) (size := 1) (wr.alloc (.cells #[.int .i64 x.kind, .int .i64 x.num, .string (S x.text), .slice a1 x.list.length c1] 26)) #[] 0 (by simp; omega) (by unfold maxLen; omega) rfl
      have hsz1 : (wr.alloc (.cells #[.int .i64 x.kind, .int .i64 x.num, .string (S x.text), .slice a1 x.list.length c1] 26)).heap.size = wr.heap.size + 1 := by simp
      rw [hsz1] at hown
      clear hsz1
      obtain ⟨v3, w3, hr3, ho3, hg3⟩ := app_nums w.heap.size _ 0 [] _ hown x.list a1 c1 ((pn.below hb).below hB2) (by have := okv.list; omega) (by simp; omega)
      rw [List.nil_append] at ho3
      obtain ⟨a3, c3, rfl, hf3⟩ := owned_fresh ho3 (by omega)
      have hB3 := hB2.grown hg3 (by simp; omega) (fun k hk => by
        have : k = wr.heap.size + 1 := by simpa [Value.ownBlock, eq_comm] using hk
        omega)
      have hB3' : Below (wr.heap.size + 1) (wr.alloc (.cells #[.int .i64 x.kind, .int .i64 x.num, .string (S x.text), .slice a1 x.list.length c1] 26)) w3 := ((Below.refl _ _).alloc (by simp) (.cells #[] 2)).grown hg3 (by simp) (fun k hk => by
        have : k = wr.heap.size + 1 := by simpa [Value.ownBlock, eq_comm] using hk
        omega)
      have hbx : w3.heap[wr.heap.size]? = some (.cells #[.int .i64 x.kind, .int .i64 x.num, .string (S x.text), .slice a1 x.list.length c1] 26 (0, 0)) := (hB3'.block wr.heap.size (by omega)).trans (heap_alloc_new wr _)
      have hblk : Blk w3 wr.heap.size 26 := ⟨_, hbx⟩
      have hB4 := hB3.setCell (p := ⟨wr.heap.size, 3, none⟩) (Nat.le_refl _) (.slice a3 x.list.length c3)
      have e0 : w3.cell? ⟨wr.heap.size, 0, none⟩ = some (.int .i64 x.kind) := (cell_of_row w3 _ 0 _ _ (0, 0) hbx).trans rfl
      have e1 : w3.cell? ⟨wr.heap.size, 1, none⟩ = some (.int .i64 x.num) := (cell_of_row w3 _ 1 _ _ (0, 0) hbx).trans rfl
      have e2 : w3.cell? ⟨wr.heap.size, 2, none⟩ = some (.string (S x.text)) := (cell_of_row w3 _ 2 _ _ (0, 0) hbx).trans rfl
      have e3 : w3.cell? ⟨wr.heap.size, 3, none⟩ = some (.slice a1 x.list.length c1) := (cell_of_row w3 _ 3 _ _ (0, 0) hbx).trans rfl
      have f3 := hblk.frozen 3
      have hf4 := hf3.set hblk 3 (.slice a3 x.list.length c3)
      have ht4 := ht.below hB4
      have hz3 : wr.heap.size < w3.heap.size := hblk.lt
      obtain ⟨v5, w5, hr5, ht5, hb5⟩ := ht4.app (by simp [World.setCell]; omega) (by omega) x hvk a3 c3 hf4 w3.heap.size (by simp [World.setCell])
      have HR3 := Lib.hid hr3
      have HR5 := Lib.hid hr5
      have HT5 := Lib.hid ht5
      have HB5 := Lib.hid ((hb.trans (hB4.mono hb.size)).trans hb5)
      have d0 : (w3.setCell ⟨wr.heap.size, 3, none⟩ (.slice a3 x.list.length c3)).cell? ⟨wr.heap.size, 0, none⟩ = some (.int .i64 x.kind) := (set_other (.inr (by omega))).trans e0
      have d1 : (w3.setCell ⟨wr.heap.size, 3, none⟩ (.slice a3 x.list.length c3)).cell? ⟨wr.heap.size, 1, none⟩ = some (.int .i64 x.num) := (set_other (.inr (by omega))).trans e1
      have d2 : (w3.setCell ⟨wr.heap.size, 3, none⟩ (.slice a3 x.list.length c3)).cell? ⟨wr.heap.size, 2, none⟩ = some (.string (S x.text)) := (set_other (.inr (by omega))).trans e2
      have d3 : (w3.setCell ⟨wr.heap.size, 3, none⟩ (.slice a3 x.list.length c3)).cell? ⟨wr.heap.size, 3, none⟩ = some (.slice a3 x.list.length c3) := World.cell?_setCell_same (w := w3) (a := ⟨wr.heap.size, 3, none⟩) (v := _) (h := e3)
      obtain ⟨xk, xn, xt, xl⟩ := x
      simp only at p0 p1 p2 p3
      clear okv hvk s0 s1 s2 s3 hgl ht hb hB1 hB2 hB3 hB3' hB4 pn hown hr3 ho3 hg3 hf3 hf4 ht4 hr5 ht5 hb5 hbx hblk
      go_wp2_with (at_builtin; first | (refine wpList_app rfl _ _ _ _ rfl rfl rfl _ _ HR3.out ?_) | (refine wpList_app rfl _ _ _ _ rfl rfl rfl _ _ HR5.out ?_))
      go_roundw
      case rel => exact ⟨k + 1, _, rfl, by omega, by go_num, HT5.out, HB5.out⟩
      case measure => simp [intOf]; omega
    · obtain rfl : k = vs.length := by omega
      obtain ⟨a', c', rfl, hd⟩ := ht.done
      have HD := Lib.hid hd
      clear ht hb hd
      go_wp2_with fail
      go_ret
      exact ⟨⟨a', c', rfl, HD.out⟩, HB.out⟩

end Go.Proofs.YtipabjefkbgjbaaDoor.Va
