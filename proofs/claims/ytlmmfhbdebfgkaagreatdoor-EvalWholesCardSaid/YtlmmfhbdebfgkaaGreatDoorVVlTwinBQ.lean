/-
  VlTwinB, VlTwinC, EvRow.
-/
import Derived.Test.YtlmmfhbdebfgkaaGreatDoorVVlQuoteQ
import Derived.Test.YtlmmfhbdebfgkaaGreatDoorVEvNumsQ
import Derived.Test.YtlmmfhbdebfgkaaGreatDoorVExResQ
import Derived.Laws.AppendOwn
set_option linter.unusedVariables false
set_option linter.unusedSimpArgs false
set_option maxRecDepth 100000
set_option maxHeartbeats 3200000
namespace Go.Proofs.YtlmmfhbdebfgkaaGreatDoor.Va
open Go.RowKit
theorem infoVal : (Tryz.prog.info? 52).map (fun i => (i.zero, i.size, i.bytes)) = some (some (.agg #[.int .i64 0, .int .i64 0, .string ⟨#[]⟩, .slice none 0 0]), 4, 56) := by kernel_rfl
structure TwP (lo G : Nat) (vs : List V) (k : Nat) (w : World) : Prop where
  ge : lo ≤ G
  blk : Blk w G 52
  cells : ∀ i v, vs[i]? = some v → ∃ a c, w.cell? ⟨G, i * 4, none⟩ = some (.int .i64 v.kind) ∧ w.cell? ⟨G, i * 4 + 1, none⟩ = some (.int .i64 v.num) ∧ w.cell? ⟨G, i * 4 + 2, none⟩ = some (.string (S v.text)) ∧
    w.cell? ⟨G, i * 4 + 3, none⟩ = some (.slice a v.list.length c) ∧ (i < k → Fresh lo w a v.list)
theorem TwP.below {lo G k : Nat} {vs : List V} {w w' : World} (h : TwP lo G vs k w) (b : Below w.heap.size w w') : TwP lo G vs k w' := by
  have hl := h.blk.lt
  refine ⟨h.ge, h.blk.below b, fun i v hv => ?_⟩
  obtain ⟨a, c, h0, h1, h2, h3, h4⟩ := h.cells i v hv
  exact ⟨a, c, (b.cell (p := ⟨G, i * 4, none⟩) hl).trans h0, (b.cell (p := ⟨G, i * 4 + 1, none⟩) hl).trans h1, (b.cell (p := ⟨G, i * 4 + 2, none⟩) hl).trans h2, (b.cell (p := ⟨G, i * 4 + 3, none⟩) hl).trans h3, fun hi => (h4 hi).below b⟩
theorem TwP.text {lo G k : Nat} {vs : List V} {w : World} (h : TwP lo G vs k w) (v : V) (hv : vs[k]? = some v) : TwP lo G vs k (w.setCell ⟨G, k * 4 + 2, none⟩ (.string (S v.text))) := by
  refine ⟨h.ge, h.blk.set _ _ _, fun i u hu => ?_⟩
  obtain ⟨a, c, h0, h1, h2, h3, h4⟩ := h.cells i u hu
  refine ⟨a, c, (set_other (.inr (by omega))).trans h0, (set_other (.inr (by omega))).trans h1, ?_, (set_other (.inr (by omega))).trans h3, fun hi => (h4 hi).set h.blk _ _⟩
  by_cases e : i = k
  · subst e
    obtain rfl : u = v := Option.some.inj (hu.symm.trans hv)
    exact World.cell?_setCell_same (w := w) (a := ⟨G, i * 4 + 2, none⟩) (v := _) (h := h2)
  · exact (set_other (.inr (by omega))).trans h2
theorem TwP.list {lo G k : Nat} {vs : List V} {w : World} (h : TwP lo G vs k w) (v : V) (hv : vs[k]? = some v) (a' : Option Addr) (c' : Nat) (hf : Fresh lo w a' v.list) : TwP lo G vs (k + 1) (w.setCell ⟨G, k * 4 + 3, none⟩ (.slice a' v.list.length c')) := by
  refine ⟨h.ge, h.blk.set _ _ _, fun i u hu => ?_⟩
  obtain ⟨a, c, h0, h1, h2, h3, h4⟩ := h.cells i u hu
  by_cases e : i = k
  · subst e
    obtain rfl : u = v := Option.some.inj (hu.symm.trans hv)
    exact ⟨a', c', (set_other (.inr (by omega))).trans h0, (set_other (.inr (by omega))).trans h1, (set_other (.inr (by omega))).trans h2, World.cell?_setCell_same (w := w) (a := ⟨G, i * 4 + 3, none⟩) (v := _) (h := h3), fun _ => hf.set h.blk _ _⟩
  · exact ⟨a, c, (set_other (.inr (by omega))).trans h0, (set_other (.inr (by omega))).trans h1, (set_other (.inr (by omega))).trans h2, (set_other (.inr (by omega))).trans h3, fun hi => (h4 (by omega)).set h.blk _ _⟩
def TwR (lo : Nat) (w : World) (a : Option Addr) (vs : List V) : Prop := vs = [] ∨ ∃ G, a = some ⟨G, 0, none⟩ ∧ TwP lo G vs vs.length w
theorem TwP.vals {lo G : Nat} {vs : List V} {w : World} (h : TwP lo G vs vs.length w) : ValsAt w (some ⟨G, 0, none⟩) vs := fun i hi => by
  obtain ⟨a, c, h0, h1, h2, h3, h4⟩ := h.cells i vs[i] (List.getElem?_eq_getElem hi)
  exact ⟨G, 0, rfl, ⟨a, c, by rw [Nat.zero_add]; exact h0, by rw [Nat.zero_add]; exact h1, by rw [Nat.zero_add]; exact h2, by rw [Nat.zero_add]; exact h3, (h4 hi).nums⟩, h.blk.lt⟩
theorem TwR.vals {lo : Nat} {a : Option Addr} {vs : List V} {w : World} (h : TwR lo w a vs) : ValsAt w a vs := by
  rcases h with rfl | ⟨G, rfl, h⟩
  · exact fun i hi => absurd hi (by simp)
  · exact h.vals
theorem app_vals (w : World) (vs : List V) (hne : vs ≠ []) (hn : vs.length ≤ 100000) (b off cap : Nat) (hx : ValsAt w (some ⟨b, off, none⟩) vs) :
    ∃ G c' w', (Builtin.append_ #[53, 53] 53 #[.slice (some ⟨w.heap.size, 0, none⟩) 0 0, .slice (some ⟨b, off, none⟩) vs.length cap]).run Tryz.prog (w.alloc (.cells #[] 52)) = .ok (.slice (some ⟨G, 0, none⟩) vs.length c') w' ∧
      TwP w.heap.size G vs 0 w' ∧ Below w.heap.size w w' := by
  obtain ⟨i0, hi, hz0, hz1, hz2⟩ := info_parts infoVal
  have hb0 := (Below.refl w.heap.size w).alloc (Nat.le_refl _) (.cells #[] 52)
  have hown := World.ownsRow_made (base := w.heap.size) (e := 52) (size := 4) w #[] 0 (Nat.le_refl _) (by unfold maxLen; omega) rfl
  have hpos := List.length_pos_iff.2 hne
  have hcell : ∀ j, j < vs.length * 4 → ∃ u, (w.alloc (.cells #[] 52)).cell? ⟨b, off + j, none⟩ = some u ∧ u.oneCell' = true := fun j hj => by
    obtain ⟨b', off', e, hv, hl⟩ := (hx.below hb0) (j / 4) (by omega)
    obtain ⟨rfl, rfl⟩ : b = b' ∧ off = off' := by injection e with e; injection e with e1 e2 _; exact ⟨e1, e2⟩
    obtain ⟨a, c, h0, h1, h2, h3, _⟩ := hv
    have hj4 : j = j / 4 * 4 + j % 4 := by omega
    have hm : j % 4 = 0 ∨ j % 4 = 1 ∨ j % 4 = 2 ∨ j % 4 = 3 := by omega
    rcases hm with hm | hm | hm | hm
    · exact ⟨_, by rw [hj4, hm, Nat.add_zero]; exact h0, rfl⟩
    · exact ⟨_, by rw [hj4, hm, ← Nat.add_assoc]; exact h1, rfl⟩
    · exact ⟨_, by rw [hj4, hm, ← Nat.add_assoc]; exact h2, rfl⟩
    · exact ⟨_, by rw [hj4, hm, ← Nat.add_assoc]; exact h3, rfl⟩
  obtain ⟨news, hnl, hnews⟩ : ∃ news : List Value, news.length = vs.length * 4 ∧ ∀ j, j < vs.length * 4 → ∃ u, news[j]? = some u ∧ (w.alloc (.cells #[] 52)).cell? ⟨b, off + j, none⟩ = some u ∧ u.oneCell' = true := by
    refine ⟨(List.range (vs.length * 4)).map fun j => ((w.alloc (.cells #[] 52)).cell? ⟨b, off + j, none⟩).getD undef, by simp, fun j hj => ?_⟩
    obtain ⟨u, h1, h2⟩ := hcell j hj
    exact ⟨u, by simp [hj, h1], h1, h2⟩
  have hnat : ∀ j u, news[j]? = some u → (w.alloc (.cells #[] 52)).cell? ((⟨b, off, none⟩ : Addr).add j) = some u := fun j u hu => by
    have hj := (List.getElem?_eq_some_iff.1 hu).1
    obtain ⟨u', h1, h2, _⟩ := hnews j (by omega)
    obtain rfl := Option.some.inj (hu.symm.trans h1)
    have hadd : (⟨b, off, none⟩ : Addr).add j = ⟨b, off + j, none⟩ := by unfold Addr.add; split <;> simp_all
    rw [hadd]; exact h2
  have h1 : ∀ u ∈ news, u.oneCell' = true := fun u hu => by
    obtain ⟨j, hj, rfl⟩ := List.getElem_of_mem hu
    obtain ⟨u', h1, _, h3⟩ := hnews j (by omega)
    rw [List.getElem?_eq_getElem hj] at h1
    obtain rfl := Option.some.inj h1
    exact h3
  obtain ⟨v', w', hr, ho, hg, _⟩ := run_append_own (P := Tryz.prog) (w.alloc (.cells #[] 52)) w.heap.size 53 53 52 i0 _ 4 56 Tryz.underlying53 hi hz0 hz1 hz2 rfl (by decide) (.slice (some ⟨w.heap.size, 0, none⟩) 0 0) 0 [] hown ⟨b, off, none⟩ vs.length cap news hnl hnat h1 (by unfold maxLen; omega) (by omega) (by simp)
  have hbel := hb0.grown hg (by simp) (fun k hk => by have := (hown.lt k hk).1; omega)
  rw [List.nil_append, Nat.zero_add] at ho
  rcases ho.2 with ⟨_, h0⟩ | ⟨G, c', cur, rfl, hB, hG, _⟩
  · omega
  · refine ⟨G, c', w', hr, ⟨hB, ⟨cur, hG⟩, fun i v hv => ?_⟩, hbel⟩
    have hil := (List.getElem?_eq_some_iff.1 hv).1
    obtain ⟨b', off', e, hvv, _⟩ := (hx.below hb0) i hil
    obtain ⟨rfl, rfl⟩ : b = b' ∧ off = off' := by injection e with e; injection e with e1 e2 _; exact ⟨e1, e2⟩
    have hvi : vs[i] = v := by rw [List.getElem?_eq_getElem hil] at hv; exact Option.some.inj hv
    rw [hvi] at hvv
    obtain ⟨a, c, q0, q1, q2, q3, _⟩ := hvv
    have get : ∀ r u, r < 4 → (w.alloc (.cells #[] 52)).cell? ⟨b, off + i * 4 + r, none⟩ = some u → w'.cell? ⟨G, i * 4 + r, none⟩ = some u := fun r u hr4 hu => by
      obtain ⟨u', n1, n2, _⟩ := hnews (i * 4 + r) (by omega)
      rw [← Nat.add_assoc, hu] at n2
      obtain rfl := Option.some.inj n2
      have hadd : (⟨G, 0, none⟩ : Addr).add (i * 4 + r) = ⟨G, i * 4 + r, none⟩ := by unfold Addr.add; split <;> simp_all
      have := World.ownsRow.cells ho (g := G) rfl (i * 4 + r) u n1
      rw [hadd] at this
      exact this
    exact ⟨a, c, get 0 _ (by omega) q0, get 1 _ (by omega) q1, get 2 _ (by omega) q2, get 3 _ (by omega) q3, fun hi => absurd hi (by omega)⟩
end Go.Proofs.YtlmmfhbdebfgkaaGreatDoor.Va
namespace Go.Proofs.YtlmmfhbdebfgkaaGreatDoor.Va
open Go.RowKit
theorem cloneVals_any (vs : List V) (hne : vs ≠ []) (hn : vs.length ≤ 100000) (b off cap : Nat) (w : World) (hx : ValsAt w (some ⟨b, off, none⟩) vs) :
    Calls Tryz.prog 52 #[.slice (some ⟨b, off, none⟩) vs.length cap] w fun e w' => (∃ G c', e = .returned (.slice (some ⟨G, 0, none⟩) vs.length c') ∧ TwP w.heap.size G vs 0 w') ∧ Below w.heap.size w w' := by
  obtain ⟨G, c', w', hr, ht, hb⟩ := app_vals w vs hne hn b off cap hx
  have HRUN := Lib.hid hr
  have HT := Lib.hid ht
  have HB := Lib.hid hb
  have hnil := fun (wr : World) => Lib.run_eql_slice_nil (P := Tryz.prog) wr 53 52 (some ⟨b, off, none⟩) vs.length cap 0 0 Tryz.underlying53
  clear hr ht hb hx
  go_enter Tryz.func52, Tryz.ntmps52
  go_wp2_with (at_builtin; refine wpList_app rfl _ _ _ _ rfl rfl rfl _ _ HRUN.out ?_)
  go_ret
  exact ⟨⟨G, c', rfl, HT.out⟩, HB.out⟩
theorem cloneNone_any (a : Option Addr) (cap : Nat) (w : World) :
    Calls Tryz.prog 52 #[.slice a 0 cap] w fun e w' => (∃ a' c', e = .returned (.slice a' 0 c')) ∧ Below w.heap.size w w' := by
  cases a with
  | none =>
    have hnil := fun (wr : World) => Lib.run_eql_slice_nil (P := Tryz.prog) wr 53 52 none 0 cap 0 0 Tryz.underlying53
    go_enter Tryz.func52, Tryz.ntmps52
    go_wp2_with fail
    go_ret
    exact ⟨⟨none, 0, rfl⟩, Below.refl _ _⟩
  | some p =>
    obtain ⟨i0, hi, hz0, hz1, hz2⟩ := info_parts infoVal
    have hb0 := (Below.refl w.heap.size w).alloc (Nat.le_refl _) (.cells #[] 52)
    have hown := World.ownsRow_made (base := w.heap.size) (e := 52) (size := 4) w #[] 0 (Nat.le_refl _) (by unfold maxLen; omega) rfl
    obtain ⟨v', w', hr, ho, hg, _⟩ := run_append_own (P := Tryz.prog) (w.alloc (.cells #[] 52)) w.heap.size 53 53 52 i0 _ 4 56 Tryz.underlying53 hi hz0 hz1 hz2 rfl (by decide) (.slice (some ⟨w.heap.size, 0, none⟩) 0 0) 0 [] hown p 0 cap [] rfl (fun j u hj => by simp at hj) (fun u hu => by simp at hu) (by unfold maxLen; omega) (by omega) (by simp)
    have hbel := hb0.grown hg (by simp) (fun k hk => by have := (hown.lt k hk).1; omega)
    obtain ⟨a', c', rfl⟩ : ∃ a' c', v' = .slice a' 0 c' := by
      rcases ho.2 with ⟨e, _⟩ | ⟨g, cp, cur, e, _⟩
      · exact ⟨_, _, e⟩
      · exact ⟨_, _, e⟩
    have HRUN := Lib.hid hr
    have HB := Lib.hid hbel
    have hnil := fun (wr : World) => Lib.run_eql_slice_nil (P := Tryz.prog) wr 53 52 (some p) 0 cap 0 0 Tryz.underlying53
    clear hb0 hown hr ho hg hbel
    go_enter Tryz.func52, Tryz.ntmps52
    go_wp2_with (at_builtin; refine wpList_app rfl _ _ _ _ rfl rfl rfl _ _ HRUN.out ?_)
    go_ret
    exact ⟨⟨a', c', rfl⟩, HB.out⟩
theorem Twin_any (vs : List V) (hn : vs.length ≤ 1000) (ok : ∀ v ∈ vs, VIn v) (a : Option Addr) (cap : Nat) (w : World) (hx : ValsAt w a vs) :
    Calls Tryz.prog 30 #[.slice a vs.length cap] w fun e w' => (∃ a' c', e = .returned (.slice a' vs.length c') ∧ TwR w.heap.size w' a' vs) ∧ Below w.heap.size w w' := by
  by_cases h0 : vs = []
  · subst h0
    have HC := Lib.hid (cloneNone_any a cap w)
    clear hx ok hn
    go_enter Tryz.func30, Tryz.ntmps30
    go_wp2_with fail
    refine HC.out.mono ?_
    rintro e w1 ⟨⟨a', c', rfl⟩, b1⟩
    have B1 := Lib.hid b1
    clear b1
    go_wp2_with fail
    refine wp_loop_rounds 1 ?_
    rw [rounds_succ]
    go_wp2_with fail
    go_ret
    exact ⟨⟨a', c', rfl, .inl rfl⟩, B1.out⟩
  · have hpos := List.length_pos_iff.2 h0
    obtain ⟨b, off, rfl, _, hbl⟩ := hx 0 hpos
    have HX := Lib.hid hx
    have HOK := Lib.hid ok
    have HC := Lib.hid (cloneVals_any vs h0 (by omega) b off cap w hx)
    have hni : (vs.length : Int) ≤ 1000 := by omega
    clear hx ok h0
    go_enter Tryz.func30, Tryz.ntmps30
    go_wp2_with fail
    refine HC.out.mono ?_
    rintro e w1 ⟨⟨G, c', rfl, ht⟩, b1⟩
    have B1 := Lib.hid b1
    have T1 := Lib.hid ht
    clear b1 ht
    go_wp2_with fail
    go_loopw [10] (fun i wr => ∃ k : Nat, k ≤ vs.length ∧ i = .int .i64 k ∧ TwP w.heap.size G vs k wr ∧ Below w.heap.size w wr) (fun i _ => vs.length - (intOf i).toNat)
    case atStart => exact ⟨0, by omega, rfl, T1.out, B1.out⟩
    case round =>
      obtain ⟨k, hk, rfl, ht, hb⟩ := hrel
      have HT := Lib.hid ht
      have HB := Lib.hid hb
      by_cases hlt : k < vs.length
      · obtain ⟨b', off', e', hv, hgl⟩ := HX.out k hlt
        obtain ⟨rfl, rfl⟩ : b = b' ∧ off = off' := by injection e' with e'; injection e' with e1 e2 _; exact ⟨e1, e2⟩
        obtain ⟨a1, c1, s0, s1, s2, s3, pn⟩ := hv
        have p0 := (hb.cell (p := ⟨b, off + k * 4, none⟩) hgl).trans s0
        have p1 := (hb.cell (p := ⟨b, off + k * 4 + 1, none⟩) hgl).trans s1
        have p2 := (hb.cell (p := ⟨b, off + k * 4 + 2, none⟩) hgl).trans s2
        have p3 := (hb.cell (p := ⟨b, off + k * 4 + 3, none⟩) hgl).trans s3
        have okv := HOK.out vs[k] (List.getElem_mem _)
        have hvk : vs[k]? = some vs[k] := List.getElem?_eq_getElem hlt
        have hki : (k : Int) < (vs.length : Int) := by omega
        generalize vs[k] = x at *
        have hB0 := (Below.refl wr.heap.size wr).alloc (Nat.le_refl _) (.cells #[.int .i64 x.kind, .int .i64 x.num, .string (S x.text), .slice a1 x.list.length c1] 52)
        have HVK := Lib.hid hvk
        have HTX := Lib.hid (fun (wr' : World) (h : TwP w.heap.size G vs k wr') => h.text x HVK.out)
        have HLS := Lib.hid (fun (wr' : World) (h : TwP w.heap.size G vs k wr') a' c' hf => h.list x HVK.out a' c' hf)
        have HCE := Lib.hid (fun (wr' : World) (h : TwP w.heap.size G vs k wr') => h.cells k x HVK.out)
        have HSC := Lib.hid (strClone_any (S x.text) (by rw [S_size]; have := okv.text; omega))
        have HCN := Lib.hid (fun (wr' : World) (h : Below w.heap.size w wr') => cloneNums_any x.list (by have := okv.list; omega) a1 c1 wr' (pn.below h))
        have HT2 := Lib.hid (ht.below hB0)
        have HB2 := Lib.hid (hb.trans (hB0.mono hb.size))
        have hbz := hb.size
        have hGl := ht.blk.lt
        have hGe := ht.ge
        have hbox := fun (w2 : World) (h : Below (wr.heap.size + 1) (wr.alloc (.cells #[.int .i64 x.kind, .int .i64 x.num, .string (S x.text), .slice a1 x.list.length c1] 52)) w2) => (h.block wr.heap.size (by omega)).trans (heap_alloc_new wr _)
        have HBX := Lib.hid hbox
        obtain ⟨xk, xn, xt, xl⟩ := x
        simp only at p0 p1 p2 p3
        clear okv hvk s0 s1 s2 s3 hgl ht hb hB0 e' hbox pn
        go_wp2_with fail
        refine (HSC.out _).mono ?_
        rintro e w2 ⟨rfl, b2⟩
        have hz2 := b2.size
        simp at hz2
        have ht2 := HT2.out.below b2
        have HT3 := Lib.hid (HTX.out _ ht2)
        have HB3 := Lib.hid ((HB2.out.trans (b2.mono HB2.out.size)).setCell (p := ⟨G, k * 4 + 2, none⟩) hGe (.string (S xt)))
        obtain ⟨a2, c2, _, _, q2, _, _⟩ := HCE.out _ ht2
        have f2 := ht2.blk.frozen (k * 4 + 2)
        have hb3 : (w2.setCell ⟨G, k * 4 + 2, none⟩ (.string (S xt))).cell? ⟨wr.heap.size, 3, none⟩ = some (.slice a1 xl.length c1) := by
          rw [set_other (.inl (by omega)), cell_of_row w2 wr.heap.size 3 _ _ (0, 0) (HBX.out w2 (by simpa using b2))]
          rfl
        clear b2 ht2
        go_wp2_with fail
        refine (HCN.out _ HB3.out).mono ?_
        rintro e w4 ⟨⟨a4, c4, rfl, hf4⟩, b4⟩
        have ht4 := HT3.out.below b4
        have hz4 := b4.size
        have HF4 := Lib.hid (hf4.mono (show w.heap.size ≤ _ by simp [World.setCell]; omega))
        have HT5 := Lib.hid (HLS.out _ ht4 a4 c4 HF4.out)
        have HB5 := Lib.hid ((HB3.out.trans (b4.mono HB3.out.size)).setCell (p := ⟨G, k * 4 + 3, none⟩) hGe (.slice a4 xl.length c4))
        obtain ⟨a5, c5, _, _, _, q5, _⟩ := HCE.out _ ht4
        have f5 := ht4.blk.frozen (k * 4 + 3)
        clear b4 ht4 hf4 q2 f2 hb3
        go_wp2_with fail
        go_roundw
        case rel => exact ⟨k + 1, by omega, by go_num, HT5.out, HB5.out⟩
        case measure => simp [intOf]; omega
      · obtain rfl : k = vs.length := by omega
        clear ht hb
        go_wp2_with fail
        go_ret
        exact ⟨⟨_, c', rfl, .inr ⟨G, rfl, HT.out⟩⟩, HB.out⟩
end Go.Proofs.YtlmmfhbdebfgkaaGreatDoor.Va
namespace Go.Proofs.YtlmmfhbdebfgkaaGreatDoor.Ev
open Go.RowKit
open Ex Lx Va Ty
def LAt (ok : Nat → Prop) (w : World) (a : Option Addr) (l : List Int) (c : Nat) : Prop := NumsAt w a l ∧ l.length ≤ c ∧ ∀ g off, a = some ⟨g, off, none⟩ → l ≠ [] → ok g
theorem LAt.below {ok : Nat → Prop} {w w' : World} {a : Option Addr} {l : List Int} {c : Nat} (h : LAt ok w a l c) (k : Below w.heap.size w w') : LAt ok w' a l c := ⟨h.1.below k, h.2⟩
theorem LAt.mono {ok ok' : Nat → Prop} {w : World} {a : Option Addr} {l : List Int} {c : Nat} (h : LAt ok w a l c) (hk : ∀ g, ok g → ok' g) : LAt ok' w a l c := ⟨h.1, h.2.1, fun g off e hl => hk g (h.2.2 g off e hl)⟩
theorem LAt.keep {ok : Nat → Prop} {w w' : World} {a : Option Addr} {l : List Int} {c : Nat} (h : LAt ok w a l c) (k : Kept ok w w') : LAt ok w' a l c := by
  refine ⟨fun i hi => ?_, h.2⟩
  obtain ⟨g, off, e, hc, hl⟩ := h.1 i hi
  exact ⟨g, off, e, (k.cell (h.2.2 g off e (by intro e; subst e; exact absurd hi (by simp))) hl).trans hc, Nat.lt_of_lt_of_le hl k.size⟩
theorem LAt.of_fr {B : Nat} {ok : Nat → Prop} {w : World} {a : Option Addr} {l : List Int} {c : Nat} (h : FrAt B w a l c) (hB : ∀ g, B ≤ g → ok g) : LAt ok w a l c := ⟨h.1, h.2.1, fun g off e hl => hB g (h.2.2 g off e hl)⟩
theorem fr_nil (B : Nat) (w : World) : FrAt B w none [] 0 := ⟨fun i hi => absurd hi (by simp), Nat.le_refl _, fun _ _ _ h => absurd rfl h⟩
def VAt (ok : Nat → Prop) (w : World) (b o : Nat) (v : V) : Prop := ∃ a c, w.cell? ⟨b, o, none⟩ = some (.int .i64 v.kind) ∧ w.cell? ⟨b, o + 1, none⟩ = some (.int .i64 v.num) ∧ w.cell? ⟨b, o + 2, none⟩ = some (.string (S v.text)) ∧
  w.cell? ⟨b, o + 3, none⟩ = some (.slice a v.list.length c) ∧ LAt ok w a v.list c
def VsAt (ok : Nat → Prop) (w : World) (a : Option Addr) (vs : List V) : Prop := ∀ i, (h : i < vs.length) → ∃ b off, a = some ⟨b, off, none⟩ ∧ VAt ok w b (off + i * 4) vs[i] ∧ b < w.heap.size
theorem VAt.below {ok : Nat → Prop} {w w' : World} {b o : Nat} {v : V} (h : VAt ok w b o v) (hl : b < w.heap.size) (k : Below w.heap.size w w') : VAt ok w' b o v := by
  obtain ⟨a, cap, h0, h1, h2, h3, h4⟩ := h
  exact ⟨a, cap, (k.cell (p := ⟨b, o, none⟩) hl).trans h0, (k.cell (p := ⟨b, o + 1, none⟩) hl).trans h1, (k.cell (p := ⟨b, o + 2, none⟩) hl).trans h2, (k.cell (p := ⟨b, o + 3, none⟩) hl).trans h3, h4.below k⟩
theorem VsAt.below {ok : Nat → Prop} {w w' : World} {a : Option Addr} {vs : List V} (h : VsAt ok w a vs) (k : Below w.heap.size w w') : VsAt ok w' a vs := fun i hi => by
  obtain ⟨b, off, e, hv, hl⟩ := h i hi
  exact ⟨b, off, e, hv.below hl k, Nat.lt_of_lt_of_le hl k.size⟩
theorem VsAt.vals {ok : Nat → Prop} {w : World} {a : Option Addr} {vs : List V} (h : VsAt ok w a vs) : ValsAt w a vs := fun i hi => by
  obtain ⟨b, off, e, ⟨q, c, h0, h1, h2, h3, h4⟩, hl⟩ := h i hi
  exact ⟨b, off, e, ⟨q, c, h0, h1, h2, h3, h4.1⟩, hl⟩
def VRow (ok : Nat → Prop) (w : World) (H n : Nat) (l : List V) : Prop :=
  ∃ cur, w.heap[H]? = some (.cells cur 52 (0, 0)) ∧ cur.size = n * 4 ∧ ∀ i, (h : i < l.length) → ∃ a c, cur[i * 4]? = some (.int .i64 l[i].kind) ∧ cur[i * 4 + 1]? = some (.int .i64 l[i].num) ∧ cur[i * 4 + 2]? = some (.string (S l[i].text)) ∧ cur[i * 4 + 3]? = some (.slice a l[i].list.length c) ∧ LAt ok w a l[i].list c
theorem make_v (ok : Nat → Prop) (w : World) (n : Nat) (hn : n ≤ 100000) : ∃ w2 : World, (Instr.makeSlice 53 (.int .i64 (n : Int)) (.int .i64 (n : Int))).run Tryz.prog w = .ok (.slice (some ⟨w.heap.size, 0, none⟩) n n) w2 ∧ VRow ok w2 w.heap.size n [] ∧ Below w.heap.size w w2 := by
  obtain ⟨i0, hi, hz0, hz1, hz2⟩ := info_parts infoVal
  obtain ⟨w2, hmk, hown, hgr⟩ := run_make_full (P := Tryz.prog) w w.heap.size 53 52 i0 _ 4 Tryz.underlying53 hi hz0 hz1 .i64 .i64 n (by rw [hz2]; omega) (by unfold maxLen; omega) (Nat.le_refl _)
  refine ⟨w2, hmk, ?_, (Below.refl _ _).grown hgr (Nat.le_refl _) (by simp)⟩
  rcases hown.2 with ⟨h1, _⟩ | ⟨g, cap, cur, h1, _, h3, _, _, h6, _⟩
  · cases h1
  · injection h1 with e1 e2 e3
    injection e1 with e1
    injection e1 with e1 _ _
    subst e1 e3
    exact ⟨cur, h3, h6, fun i hi => absurd hi (Nat.not_lt_zero _)⟩
theorem VRow.lt {ok : Nat → Prop} {w : World} {H n : Nat} {l : List V} (h : VRow ok w H n l) : H < w.heap.size := by
  obtain ⟨cur, hb, _⟩ := h
  exact (Array.getElem?_eq_some_iff.1 hb).1
theorem VRow.later {ok : Nat → Prop} {w w' : World} {H n : Nat} {l : List V} (h : VRow ok w H n l) (k : Below w.heap.size w w') : VRow ok w' H n l := by
  have hlt := h.lt
  obtain ⟨cur, hb, hs, hc⟩ := h
  refine ⟨cur, (k.block H hlt).trans hb, hs, fun i hi => ?_⟩
  obtain ⟨a, c, h0, h1, h2, h3, h4⟩ := hc i hi
  exact ⟨a, c, h0, h1, h2, h3, h4.below k⟩
theorem VRow.fz {ok : Nat → Prop} {w : World} {H n : Nat} {l : List V} (h : VRow ok w H n l) (j : Nat) : w.frozen? ⟨H, j, none⟩ = false := by
  obtain ⟨cur, hb, _⟩ := h
  exact frozen_of_row w H j _ _ hb
theorem VRow.room {ok : Nat → Prop} {w : World} {H n : Nat} {l : List V} (h : VRow ok w H n l) (i j : Nat) (hi : i < n) (hj : j < 4) : ∃ u, w.cell? ⟨H, i * 4 + j, none⟩ = some u := by
  obtain ⟨cur, hb, hs, _⟩ := h
  rw [cell_of_row w H (i * 4 + j) _ _ (0, 0) hb]
  exact ⟨_, Array.getElem?_eq_getElem (by omega)⟩
def putV (w : World) (H i : Nat) (v : V) (a : Option Addr) (c : Nat) : World :=
  (((w.setCell ⟨H, i * 4, none⟩ (.int .i64 v.kind)).setCell ⟨H, i * 4 + 1, none⟩ (.int .i64 v.num)).setCell ⟨H, i * 4 + 2, none⟩ (.string (S v.text))).setCell ⟨H, i * 4 + 3, none⟩ (.slice a v.list.length c)
theorem putV_kept (ok : Nat → Prop) (w : World) (H i : Nat) (v : V) (a : Option Addr) (c : Nat) (h : ¬ ok H) : Kept ok w (putV w H i v a c) :=
  (((Kept.set w H _ _ h).trans (Kept.set _ H _ _ h)).trans (Kept.set _ H _ _ h)).trans (Kept.set _ H _ _ h)
theorem putV_below {B : Nat} {w0 w : World} (h : Below B w0 w) (H i : Nat) (hB : B ≤ H) (v : V) (a : Option Addr) (c : Nat) : Below B w0 (putV w H i v a c) :=
  (((h.setCell (p := ⟨H, i * 4, none⟩) hB _).setCell (p := ⟨H, i * 4 + 1, none⟩) hB _).setCell (p := ⟨H, i * 4 + 2, none⟩) hB _).setCell (p := ⟨H, i * 4 + 3, none⟩) hB _
theorem VRow.put {ok : Nat → Prop} {w : World} {H n : Nat} {l : List V} (h : VRow ok w H n l) (hok : ¬ ok H) (i : Nat) (hi : i = l.length) (hn : i < n) (v : V) (a : Option Addr) (c : Nat) (hv : LAt ok w a v.list c) :
    VRow ok (putV w H i v a c) H n (l ++ [v]) := by
  subst hi
  have hk := putV_kept ok w H l.length v a c hok
  obtain ⟨cur, hb, hs, hc⟩ := h
  refine ⟨_, heap_setCell_same _ H _ _ _ _ (heap_setCell_same _ H _ _ _ _ (heap_setCell_same _ H _ _ _ _ (heap_setCell_same w H _ _ _ _ hb))), by simp [hs], fun j hj => ?_⟩
  rw [List.length_append] at hj
  simp only [List.length_singleton] at hj
  by_cases e : j < l.length
  · obtain ⟨a', c', h0, h1, h2, h3, h4⟩ := hc j e
    rw [List.getElem_append_left e]
    refine ⟨a', c', ?_, ?_, ?_, ?_, h4.keep hk⟩
    · rw [Array.getElem?_setIfInBounds_ne (by omega), Array.getElem?_setIfInBounds_ne (by omega), Array.getElem?_setIfInBounds_ne (by omega), Array.getElem?_setIfInBounds_ne (by omega)]; exact h0
    · rw [Array.getElem?_setIfInBounds_ne (by omega), Array.getElem?_setIfInBounds_ne (by omega), Array.getElem?_setIfInBounds_ne (by omega), Array.getElem?_setIfInBounds_ne (by omega)]; exact h1
    · rw [Array.getElem?_setIfInBounds_ne (by omega), Array.getElem?_setIfInBounds_ne (by omega), Array.getElem?_setIfInBounds_ne (by omega), Array.getElem?_setIfInBounds_ne (by omega)]; exact h2
    · rw [Array.getElem?_setIfInBounds_ne (by omega), Array.getElem?_setIfInBounds_ne (by omega), Array.getElem?_setIfInBounds_ne (by omega), Array.getElem?_setIfInBounds_ne (by omega)]; exact h3
  · obtain rfl : j = l.length := by omega
    rw [List.getElem_append_right (by omega)]
    simp only [Nat.sub_self, List.getElem_cons_zero]
    refine ⟨a, c, ?_, ?_, ?_, ?_, hv.keep hk⟩
    · rw [Array.getElem?_setIfInBounds_ne (by omega), Array.getElem?_setIfInBounds_ne (by omega), Array.getElem?_setIfInBounds_ne (by omega), Array.getElem?_setIfInBounds_self_of_lt (by omega)]
    · rw [Array.getElem?_setIfInBounds_ne (by omega), Array.getElem?_setIfInBounds_ne (by omega), Array.getElem?_setIfInBounds_self_of_lt (by simp; omega)]
    · rw [Array.getElem?_setIfInBounds_ne (by omega), Array.getElem?_setIfInBounds_self_of_lt (by simp; omega)]
    · rw [Array.getElem?_setIfInBounds_self_of_lt (by simp; omega)]
theorem VRow.at_ {ok : Nat → Prop} {w : World} {H n : Nat} {l : List V} (h : VRow ok w H n l) : VsAt ok w (some ⟨H, 0, none⟩) l := fun i hi => by
  have hlt := h.lt
  obtain ⟨cur, hb, hs, hc⟩ := h
  obtain ⟨a, c, h0, h1, h2, h3, h4⟩ := hc i hi
  refine ⟨H, 0, rfl, ⟨a, c, ?_, ?_, ?_, ?_, h4⟩, hlt⟩
  · rw [Nat.zero_add]; exact (cell_of_row w H _ _ _ (0, 0) hb).trans h0
  · rw [Nat.zero_add]; exact (cell_of_row w H _ _ _ (0, 0) hb).trans h1
  · rw [Nat.zero_add]; exact (cell_of_row w H _ _ _ (0, 0) hb).trans h2
  · rw [Nat.zero_add]; exact (cell_of_row w H _ _ _ (0, 0) hb).trans h3
def VB (w : World) (H : Nat) (a b c d : Value) : Prop := w.heap[H]? = some (.cells #[a, b, c, d] 52 (0, 0))
section
variable {w w' : World} {H : Nat} {a b c d : Value}
theorem VB.c0 (h : VB w H a b c d) : w.cell? ⟨H, 0, none⟩ = some a := cell_of_row w H 0 _ _ (0, 0) h
theorem VB.c1 (h : VB w H a b c d) : w.cell? ⟨H, 1, none⟩ = some b := cell_of_row w H 1 _ _ (0, 0) h
theorem VB.c2 (h : VB w H a b c d) : w.cell? ⟨H, 2, none⟩ = some c := cell_of_row w H 2 _ _ (0, 0) h
theorem VB.c3 (h : VB w H a b c d) : w.cell? ⟨H, 3, none⟩ = some d := cell_of_row w H 3 _ _ (0, 0) h
theorem VB.fz (h : VB w H a b c d) (j : Nat) : w.frozen? ⟨H, j, none⟩ = false := frozen_of_row w H j _ _ h
theorem VB.lt (h : VB w H a b c d) : H < w.heap.size := World.block_lt_of_cell? w _ h.c0
theorem VB.later (h : VB w H a b c d) (k : Below w.heap.size w w') : VB w' H a b c d := (k.block H h.lt).trans h
theorem VB.put (h : VB w H a b c d) (a' b' c' d' : Value) : VB (put4 w H a' b' c' d') H a' b' c' d' :=
  heap_setCell_same _ H 3 _ _ _ (heap_setCell_same _ H 2 _ _ _ (heap_setCell_same _ H 1 _ _ _ (heap_setCell_same w H 0 _ _ _ h)))
end
theorem VB.new (W : World) (a b c d : Value) (k : Nat) (h : W.heap.size = k) : VB (W.alloc (.cells #[a, b, c, d] 52)) k a b c d := new_box W _ _ k h
theorem below_put {B : Nat} {w w' : World} (h : Below B w w') (H : Nat) (hH : B ≤ H) (x y z u : Value) : Below B w (put4 w' H x y z u) :=
  (((h.setCell (p := ⟨H, 0, none⟩) hH x).setCell (p := ⟨H, 1, none⟩) hH y).setCell (p := ⟨H, 2, none⟩) hH z).setCell (p := ⟨H, 3, none⟩) hH u
theorem res_val {fn : Func} {p : Tmp} (h : fn.results = #[.cell p 52]) (tmps : Array Value) (w : World) (g : Nat) (a b c d : Value)
    (hp : tmps.getD p undef = .pointer (some ⟨g, 0, none⟩)) (hg : VB w g a b c d) : (results fn tmps).run Tryz.prog w = .ok (.agg #[a, b, c, d]) w :=
  results_cell_row h tmps w g _ _ _ _ hp hg Tryz.underlying52 rfl (by kernel_rfl)
theorem fr_put {B H : Nat} {w : World} {a : Option Addr} {l : List Int} {c : Nat} (h : FrAt B w a l c) (hH : H < B) (x y z u : Value) : FrAt B (put4 w H x y z u) a l c :=
  LAt.keep (ok := (B ≤ ·)) h (Kept.put w H x y z u (by show ¬ B ≤ H; omega))
def CameIn (ok : Nat → Prop) (x : V × Nat) (e : Ending) (w : World) : Prop := (x.2 = 0 ∧ ∃ a c, e = .returned (valC x.1 a c) ∧ LAt ok w a x.1.list c) ∨ (x.2 ≠ 0 ∧ e = panE x.2)
def CameF (B : Nat) (x : V × Nat) (e : Ending) (w : World) : Prop := (x.2 = 0 ∧ ∃ a c, e = .returned (valC x.1 a c) ∧ FrAt B w a x.1.list c) ∨ (x.2 ≠ 0 ∧ e = panE x.2)
end Go.Proofs.YtlmmfhbdebfgkaaGreatDoor.Ev
