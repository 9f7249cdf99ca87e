/-
  The program's Twin, walked.
-/
import Derived.Test.YtfkmpegbidojoaaVlTwinB
namespace Go.Proofs.Ytfkmpegbidojoaa.Va
open Go.RowKit

set_option linter.unusedSimpArgs false
set_option maxRecDepth 100000 in
set_option maxHeartbeats 1600000 in
theorem cloneVals_any (vs : List V) (hne : vs ≠ []) (hn : vs.length ≤ 100000) (b off cap : Nat) (w : World) (hx : ValsAt w (some ⟨b, off, none⟩) vs) :
    Calls Try.prog 49 #[.slice (some ⟨b, off, none⟩) vs.length cap] w fun e w' => (∃ G c', e = .returned (.slice (some ⟨G, 0, none⟩) vs.length c') ∧ TwP w.heap.size G vs 0 w') ∧ Below w.heap.size w w' := by
  obtain ⟨G, c', w', hr, ht, hb⟩ := app_vals w vs hne hn b off cap hx
  have HRUN := Lib.hid hr
  have HT := Lib.hid ht
  have HB := Lib.hid hb
  have hnil := fun (wr : World) => Lib.run_eql_slice_nil (P := Try.prog) wr 28 64 (some ⟨b, off, none⟩) vs.length cap 0 0 Try.underlying28
  clear hr ht hb hx
  go_enter Try.func49, Try.ntmps49
  go_wp2_with (at_builtin; refine wpList_app rfl _ _ _ _ rfl rfl rfl _ _ HRUN.out ?_)
  go_ret
  exact ⟨⟨G, c', rfl, HT.out⟩, HB.out⟩

/-- Of no values: what comes is none, or an empty row. -/
theorem cloneNone_any (a : Option Addr) (cap : Nat) (w : World) :
    Calls Try.prog 49 #[.slice a 0 cap] w fun e w' => (∃ a' c', e = .returned (.slice a' 0 c')) ∧ Below w.heap.size w w' := by
  cases a with
  | none =>
    have hnil := fun (wr : World) => Lib.run_eql_slice_nil (P := Try.prog) wr 28 64 none 0 cap 0 0 Try.underlying28
    go_enter Try.func49, Try.ntmps49
    go_wp2_with fail
    go_ret
    exact ⟨⟨none, 0, rfl⟩, Below.refl _ _⟩
  | some p =>
    obtain ⟨i0, hi, hz0, hz1, hz2⟩ := info_parts infoVal
    have hb0 := (Below.refl w.heap.size w).alloc (Nat.le_refl _) (.cells #[] 64)
    have hown := World.ownsRow_made (base := w.heap.size) (e := 64) (size := 4) w #[] 0 (Nat.le_refl _) (by unfold maxLen; omega) rfl
    obtain ⟨v', w', hr, ho, hg, _⟩ := run_append_own (P := Try.prog) (w.alloc (.cells #[] 64)) w.heap.size 28 28 64 i0 _ 4 56 Try.underlying28 hi hz0 hz1 hz2 rfl (by decide) (.slice (some ⟨w.heap.size, 0, none⟩) 0 0) 0 [] hown p 0 cap [] rfl (fun j u hj => by simp at hj) (fun u hu => by simp at hu) (by unfold maxLen; omega) (by omega) (by simp)
    have hbel := hb0.grown hg (by simp) (fun k hk => by have := (hown.lt k hk).1; omega)
    obtain ⟨a', c', rfl⟩ : ∃ a' c', v' = .slice a' 0 c' := by
      rcases ho.2 with ⟨e, _⟩ | ⟨g, cp, cur, e, _⟩
      · exact ⟨_, _, e⟩
      · exact ⟨_, _, e⟩
    have HRUN := Lib.hid hr
    have HB := Lib.hid hbel
    have hnil := fun (wr : World) => Lib.run_eql_slice_nil (P := Try.prog) wr 28 64 (some p) 0 cap 0 0 Try.underlying28
    clear hb0 hown hr ho hg hbel
    go_enter Try.func49, Try.ntmps49
    go_wp2_with (at_builtin; refine wpList_app rfl _ _ _ _ rfl rfl rfl _ _ HRUN.out ?_)
    go_ret
    exact ⟨⟨a', c', rfl⟩, HB.out⟩

/-- A value that a machine bears. -/
structure VTw (v : V) : Prop where
  text : v.text.length ≤ 140737488355328
  list : v.list.length ≤ 17592186044416

set_option linter.unusedSimpArgs false
set_option maxRecDepth 100000 in
set_option maxHeartbeats 3200000 in
theorem Twin_big (vs : List V) (hn : vs.length ≤ 1000) (ok : ∀ v ∈ vs, VTw v) (a : Option Addr) (cap : Nat) (w : World) (hx : ValsAt w a vs) :
    Calls Try.prog 44 #[.slice a vs.length cap] w fun e w' => (∃ a' c', e = .returned (.slice a' vs.length c') ∧ TwR w.heap.size w' a' vs) ∧ Below w.heap.size w w' := by
  by_cases h0 : vs = []
  · subst h0
    have HC := Lib.hid (cloneNone_any a cap w)
    clear hx ok hn
    go_enter Try.func44, Try.ntmps44
    go_wp2_with fail
    refine HC.out.mono ?_
    rintro e w1 ⟨⟨a', c', rfl⟩, b1⟩
    have B1 := Lib.hid b1
    clear b1
    go_wp2_with fail
    refine wp_loop_rounds 1 ?_
    rw [rounds_succ]
    go_wp2_with fail
    go_ret
    exact ⟨⟨a', c', rfl, .inl rfl⟩, B1.out⟩
  · have hpos := List.length_pos_iff.2 h0
    obtain ⟨b, off, rfl, _, hbl⟩ := hx 0 hpos
    have HX := Lib.hid hx
    have HOK := Lib.hid ok
    have HC := Lib.hid (cloneVals_any vs h0 (by omega) b off cap w hx)
    have hni : (vs.length : Int) ≤ 1000 := by omega
    clear hx ok h0
    go_enter Try.func44, Try.ntmps44
    go_wp2_with fail
    refine HC.out.mono ?_
    rintro e w1 ⟨⟨G, c', rfl, ht⟩, b1⟩
    have B1 := Lib.hid b1
    have T1 := Lib.hid ht
    clear b1 ht
    go_wp2_with fail
    go_loopw [10] (fun i wr => ∃ k : Nat, k ≤ vs.length ∧ i = .int .i64 k ∧ TwP w.heap.size G vs k wr ∧ Below w.heap.size w wr) (fun i _ => vs.length - (intOf i).toNat)
    case atStart => exact ⟨0, by omega, rfl, T1.out, B1.out⟩
    case round =>
      obtain ⟨k, hk, rfl, ht, hb⟩ := hrel
      have HT := Lib.hid ht
      have HB := Lib.hid hb
      by_cases hlt : k < vs.length
      · obtain ⟨b', off', e', hv, hgl⟩ := HX.out k hlt
        obtain ⟨rfl, rfl⟩ : b = b' ∧ off = off' := by injection e' with e'; injection e' with e1 e2 _; exact ⟨e1, e2⟩
        obtain ⟨a1, c1, s0, s1, s2, s3, pn⟩ := hv
        have p0 := (hb.cell (p := ⟨b, off + k * 4, none⟩) hgl).trans s0
        have p1 := (hb.cell (p := ⟨b, off + k * 4 + 1, none⟩) hgl).trans s1
        have p2 := (hb.cell (p := ⟨b, off + k * 4 + 2, none⟩) hgl).trans s2
        have p3 := (hb.cell (p := ⟨b, off + k * 4 + 3, none⟩) hgl).trans s3
        have okv := HOK.out vs[k] (List.getElem_mem _)
        have hvk : vs[k]? = some vs[k] := List.getElem?_eq_getElem hlt
        have hki : (k : Int) < (vs.length : Int) := by omega
        generalize vs[k] = x at *
        have hB0 := (Below.refl wr.heap.size wr).alloc (Nat.le_refl _) (.cells #[.int .i64 x.kind, .int .i64 x.num, .string (S x.text), .slice a1 x.list.length c1] 64)
        have HVK := Lib.hid hvk
        have HTX := Lib.hid (fun (wr' : World) (h : TwP w.heap.size G vs k wr') => h.text x HVK.out)
        have HLS := Lib.hid (fun (wr' : World) (h : TwP w.heap.size G vs k wr') a' c' hf => h.list x HVK.out a' c' hf)
        have HCE := Lib.hid (fun (wr' : World) (h : TwP w.heap.size G vs k wr') => h.cells k x HVK.out)
        have HSC := Lib.hid (strClone_any (S x.text) (by rw [S_size]; have := okv.text; omega))
        have HCN := Lib.hid (fun (wr' : World) (h : Below w.heap.size w wr') => cloneNums_any x.list (by have := okv.list; omega) a1 c1 wr' (pn.below h))
        have HT2 := Lib.hid (ht.below hB0)
        have HB2 := Lib.hid (hb.trans (hB0.mono hb.size))
        have hbz := hb.size
        have hGl := ht.blk.lt
        have hGe := ht.ge
        have hbox := fun (w2 : World) (h : Below (wr.heap.size + 1) (wr.alloc (.cells #[.int .i64 x.kind, .int .i64 x.num, .string (S x.text), .slice a1 x.list.length c1] 64)) w2) => (h.block wr.heap.size (by omega)).trans (heap_alloc_new wr _)
        have HBX := Lib.hid hbox
        obtain ⟨xk, xn, xt, xl⟩ := x
        simp only at p0 p1 p2 p3
        clear okv hvk s0 s1 s2 s3 hgl ht hb hB0 e' hbox pn
        go_wp2_with fail
        refine (HSC.out _).mono ?_
        rintro e w2 ⟨rfl, b2⟩
        have hz2 := b2.size
        simp at hz2
        have ht2 := HT2.out.below b2
        have HT3 := Lib.hid (HTX.out _ ht2)
        have HB3 := Lib.hid ((HB2.out.trans (b2.mono HB2.out.size)).setCell (p := ⟨G, k * 4 + 2, none⟩) hGe (.string (S xt)))
        obtain ⟨a2, c2, _, _, q2, _, _⟩ := HCE.out _ ht2
        have f2 := ht2.blk.frozen (k * 4 + 2)
        have hb3 : (w2.setCell ⟨G, k * 4 + 2, none⟩ (.string (S xt))).cell? ⟨wr.heap.size, 3, none⟩ = some (.slice a1 xl.length c1) := by
          rw [set_other (.inl (by omega)), cell_of_row w2 wr.heap.size 3 _ _ (0, 0) (HBX.out w2 (by simpa using b2))]
          rfl
        clear b2 ht2
        go_wp2_with fail
        refine (HCN.out _ HB3.out).mono ?_
        rintro e w4 ⟨⟨a4, c4, rfl, hf4⟩, b4⟩
        have ht4 := HT3.out.below b4
        have hz4 := b4.size
        have HF4 := Lib.hid (hf4.mono (show w.heap.size ≤ _ by simp [World.setCell]; omega))
        have HT5 := Lib.hid (HLS.out _ ht4 a4 c4 HF4.out)
        have HB5 := Lib.hid ((HB3.out.trans (b4.mono HB3.out.size)).setCell (p := ⟨G, k * 4 + 3, none⟩) hGe (.slice a4 xl.length c4))
        obtain ⟨a5, c5, _, _, _, q5, _⟩ := HCE.out _ ht4
        have f5 := ht4.blk.frozen (k * 4 + 3)
        clear b4 ht4 hf4 q2 f2 hb3
        go_wp2_with fail
        go_roundw
        case rel => exact ⟨k + 1, by omega, by go_num, HT5.out, HB5.out⟩
        case measure => simp [intOf]; omega
      · obtain rfl : k = vs.length := by omega
        clear ht hb
        go_wp2_with fail
        go_ret
        exact ⟨⟨_, c', rfl, .inr ⟨G, rfl, HT.out⟩⟩, HB.out⟩

theorem Twin_any (vs : List V) (hn : vs.length ≤ 1000) (ok : ∀ v ∈ vs, VIn v) (a : Option Addr) (cap : Nat) (w : World) (hx : ValsAt w a vs) :
    Calls Try.prog 44 #[.slice a vs.length cap] w fun e w' => (∃ a' c', e = .returned (.slice a' vs.length c') ∧ TwR w.heap.size w' a' vs) ∧ Below w.heap.size w w' :=
  Twin_big vs hn (fun v hv => ⟨by have := (ok v hv).text; omega, by have := (ok v hv).list; omega⟩) a cap w hx

end Go.Proofs.Ytfkmpegbidojoaa.Va
