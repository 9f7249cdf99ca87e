/-
  Twins of dead letters, walked.
-/
import Derived.Test.YtfkmpegbidojoaaMdDwP
namespace Go.Proofs.Ytfkmpegbidojoaa.Md
open Go.RowKit
open Va
set_option linter.unusedVariables false
set_option linter.unusedSimpArgs false

/-- A letter that may be handled. -/
structure Dok (x : DeadP) : Prop where
  big : DBig x
  key : x.mail.key.length ≤ 1000
  fields : x.mail.fields.length ≤ 1000
def BD (w : World) (H : Nat) (a b c d e f : Value) : Prop := w.heap[H]? = some (.cells #[a, b, c, d, e, f] 46 (0, 0))
section
variable {w : World} {H : Nat} {a b c d e f : Value}
theorem BD.c0 (h : BD w H a b c d e f) : w.cell? ⟨H, 0, none⟩ = some a := cell_of_row w H 0 _ _ (0, 0) h
theorem BD.c1 (h : BD w H a b c d e f) : w.cell? ⟨H, 1, none⟩ = some b := cell_of_row w H 1 _ _ (0, 0) h
theorem BD.c2 (h : BD w H a b c d e f) : w.cell? ⟨H, 2, none⟩ = some c := cell_of_row w H 2 _ _ (0, 0) h
theorem BD.c3 (h : BD w H a b c d e f) : w.cell? ⟨H, 3, none⟩ = some d := cell_of_row w H 3 _ _ (0, 0) h
theorem BD.c4 (h : BD w H a b c d e f) : w.cell? ⟨H, 4, none⟩ = some e := cell_of_row w H 4 _ _ (0, 0) h
theorem BD.c5 (h : BD w H a b c d e f) : w.cell? ⟨H, 5, none⟩ = some f := cell_of_row w H 5 _ _ (0, 0) h
theorem BD.fz (h : BD w H a b c d e f) (j : Nat) : w.frozen? ⟨H, j, none⟩ = false := frozen_of_row w H j _ _ h
theorem BD.lt (h : BD w H a b c d e f) : H < w.heap.size := lt_of_heapV h
theorem BD.blk (h : BD w H a b c d e f) : Blk w H 46 := ⟨_, h⟩
theorem BD.below {w' : World} (h : BD w H a b c d e f) (k : Below w.heap.size w w') : BD w' H a b c d e f := (k.block H h.lt).trans h
theorem BD.other {g o : Nat} {v : Value} (h : BD w H a b c d e f) (hne : H ≠ g) : BD (w.setCell ⟨g, o, none⟩ v) H a b c d e f := (Below.heap_setCell _ _ _ _ hne).trans h
end
theorem oneC (v : Value) (h : v.oneCell' = true) : ∃ u, some v = some u ∧ u.oneCell' = true := ⟨v, rfl, h⟩
/-- The cells of a row of letters. -/
theorem deads_cells {w : World} {b off : Nat} {l : List DeadP} (h : DeadsAt w (some ⟨b, off, none⟩) l) : ∀ j, j < l.length * 6 → ∃ u, w.cell? ⟨b, off + j, none⟩ = some u ∧ u.oneCell' = true := fun j hj => by
  obtain ⟨b', off', ka, kc, fa, fc, e, ⟨h0, h1, h2, h3, h4, h5, _⟩, _⟩ := h (j / 6) (by omega)
  obtain ⟨rfl, rfl⟩ : b = b' ∧ off = off' := by injection e with e; injection e with e1 e2 _; exact ⟨e1, e2⟩
  have hj6 : j = j / 6 * 6 + j % 6 := by omega
  have hm : j % 6 = 0 ∨ j % 6 = 1 ∨ j % 6 = 2 ∨ j % 6 = 3 ∨ j % 6 = 4 ∨ j % 6 = 5 := by omega
  rcases hm with hm | hm | hm | hm | hm | hm
  · exact ⟨_, by rw [hj6, hm, Nat.add_zero]; exact h0, rfl⟩
  · exact ⟨_, by rw [hj6, hm, ← Nat.add_assoc]; exact h1, rfl⟩
  · exact ⟨_, by rw [hj6, hm, ← Nat.add_assoc]; exact h2, rfl⟩
  · exact ⟨_, by rw [hj6, hm, ← Nat.add_assoc]; exact h3, rfl⟩
  · exact ⟨_, by rw [hj6, hm, ← Nat.add_assoc]; exact h4, rfl⟩
  · exact ⟨_, by rw [hj6, hm, ← Nat.add_assoc]; exact h5, rfl⟩
/-- What was copied is a row of letters, none of them done. -/
theorem dwp_start {w w' : World} {b off G : Nat} {l : List DeadP} (hx : DeadsAt w (some ⟨b, off, none⟩) l) (hG : w.heap.size ≤ G) (hb : Blk w' G 46) (hc : ∀ j, j < l.length * 6 → w'.cell? ⟨G, j, none⟩ = w.cell? ⟨b, off + j, none⟩) : DwP w.heap.size G l 0 w' := by
  refine ⟨hG, hb, fun i x hi => ?_⟩
  have hil := (List.getElem?_eq_some_iff.1 hi).1
  obtain ⟨b', off', ka, kc, fa, fc, e, hd, _⟩ := hx i hil
  obtain ⟨rfl, rfl⟩ : b = b' ∧ off = off' := by injection e with e; injection e with e1 e2 _; exact ⟨e1, e2⟩
  have hxi : l[i] = x := by rw [List.getElem?_eq_getElem hil] at hi; exact Option.some.inj hi
  rw [hxi] at hd
  obtain ⟨h0, h1, h2, h3, h4, h5, _⟩ := hd
  exact ⟨ka, kc, fa, fc, ⟨(hc _ (by omega)).trans h0, (hc _ (by omega)).trans h1, (hc _ (by omega)).trans h2, (hc _ (by omega)).trans h3, (hc _ (by omega)).trans h4, (hc _ (by omega)).trans h5⟩, fun hk => absurd hk (by omega)⟩

set_option maxRecDepth 100000 in
set_option maxHeartbeats 1600000 in
theorem dclone_any (l : List DeadP) (hne : 0 < l.length) (hn : l.length ≤ 100000) (b off cap : Nat) (w : World) (hx : DeadsAt w (some ⟨b, off, none⟩) l) :
    Calls Try.prog 46 #[.slice (some ⟨b, off, none⟩) l.length cap] w fun e w' => (∃ G c', e = .returned (.slice (some ⟨G, 0, none⟩) l.length c') ∧ DwP w.heap.size G l 0 w' ∧ l.length ≤ c') ∧ Below w.heap.size w w' := by
  obtain ⟨G, c', w', hr, hG, hnc, hb, hc, hbel⟩ := app_row 44 46 _ 6 88 Try.underlying44 infoD rfl (by decide) w l.length hne (by omega) (by omega) b off cap (deads_cells hx)
  have HRUN := Lib.hid hr
  have HT := Lib.hid (dwp_start hx hG hb hc)
  have HB := Lib.hid hbel
  have hnil := fun (wr : World) => Lib.run_eql_slice_nil (P := Try.prog) wr 44 46 (some ⟨b, off, none⟩) l.length cap 0 0 Try.underlying44
  clear hr hG hb hc hbel hx
  go_enter Try.func46, Try.ntmps46
  go_wp2_with (at_builtin; refine wpList_app rfl _ _ _ _ rfl rfl rfl _ _ HRUN.out ?_)
  go_ret
  exact ⟨⟨G, c', rfl, HT.out, hnc⟩, HB.out⟩
/-- Of no letters: what comes is none, or an empty row. -/
theorem dcloneNone_any (a : Option Addr) (cap : Nat) (w : World) :
    Calls Try.prog 46 #[.slice a 0 cap] w fun e w' => (∃ a' c', e = .returned (.slice a' 0 c')) ∧ Below w.heap.size w w' := by
  cases a with
  | none =>
    have hnil := fun (wr : World) => Lib.run_eql_slice_nil (P := Try.prog) wr 44 46 none 0 cap 0 0 Try.underlying44
    go_enter Try.func46, Try.ntmps46
    go_wp2_with fail
    go_ret
    exact ⟨⟨none, 0, rfl⟩, Below.refl _ _⟩
  | some p =>
    obtain ⟨i0, hi, hz0, hz1, hz2⟩ := info_ptD infoD
    have hb0 := (Below.refl w.heap.size w).alloc (Nat.le_refl _) (.cells #[] 46)
    have hown := World.ownsRow_made (base := w.heap.size) (e := 46) (size := 6) w #[] 0 (Nat.le_refl _) (by unfold maxLen; omega) rfl
    obtain ⟨v', w', hr, ho, hg, _⟩ := run_append_own (P := Try.prog) (w.alloc (.cells #[] 46)) w.heap.size 44 44 46 i0 _ 6 88 Try.underlying44 hi hz0 hz1 hz2 rfl (by decide) (.slice (some ⟨w.heap.size, 0, none⟩) 0 0) 0 [] hown p 0 cap [] rfl (fun j u hj => by simp at hj) (fun u hu => by simp at hu) (by unfold maxLen; omega) (by omega) (by simp)
    have hbel := hb0.grown hg (by simp) (fun k hk => by have := (hown.lt k hk).1; omega)
    obtain ⟨a', c', rfl⟩ : ∃ a' c', v' = .slice a' 0 c' := by
      rcases ho.2 with ⟨e, _⟩ | ⟨g, cp, cur, e, _⟩
      · exact ⟨_, _, e⟩
      · exact ⟨_, _, e⟩
    have HRUN := Lib.hid hr
    have HB := Lib.hid hbel
    have hnil := fun (wr : World) => Lib.run_eql_slice_nil (P := Try.prog) wr 44 46 (some p) 0 cap 0 0 Try.underlying44
    clear hb0 hown hr ho hg hbel
    go_enter Try.func46, Try.ntmps46
    go_wp2_with (at_builtin; refine wpList_app rfl _ _ _ _ rfl rfl rfl _ _ HRUN.out ?_)
    go_ret
    exact ⟨⟨a', c', rfl⟩, HB.out⟩

set_option maxRecDepth 100000 in
set_option maxHeartbeats 8000000 in
theorem twins_any (l : List DeadP) (hn : l.length ≤ 1000) (ok : ∀ x ∈ l, Dok x) (a : Option Addr) (cap : Nat) (w : World) (hx : DeadsAt w a l) :
    Calls Try.prog 36 #[.slice a l.length cap] w fun e w' => (∃ a' c', e = .returned (.slice a' l.length c') ∧ DwR w.heap.size w' a' l ∧ l.length ≤ c') ∧ Below w.heap.size w w' := by
  by_cases h0 : l = []
  · subst h0
    have HC := Lib.hid (dcloneNone_any a cap w)
    clear hx ok hn
    go_enter Try.func36, Try.ntmps36
    go_wp2_with fail
    refine HC.out.mono ?_
    rintro e w1 ⟨⟨a', c', rfl⟩, b1⟩
    have B1 := Lib.hid b1
    clear b1
    go_wp2_with fail
    refine wp_loop_rounds 1 ?_
    rw [rounds_succ]
    go_wp2_with fail
    go_ret
    exact ⟨⟨a', c', rfl, .inl rfl, Nat.zero_le _⟩, B1.out⟩
  · have hpos := List.length_pos_iff.2 h0
    obtain ⟨b, off, _, _, _, _, rfl, _, hbl⟩ := hx 0 hpos
    have HX := Lib.hid hx
    have HOK := Lib.hid ok
    have HC := Lib.hid (dclone_any l hpos (by omega) b off cap w hx)
    have hni : (l.length : Int) ≤ 1000 := by omega
    clear hx ok h0
    go_enter Try.func36, Try.ntmps36
    go_wp2_with fail
    refine HC.out.mono ?_
    rintro e w1 ⟨⟨G, c', rfl, ht, hnc⟩, b1⟩
    have HNC := Lib.hid hnc
    clear hnc
    have B1 := Lib.hid b1
    have T1 := Lib.hid ht
    clear b1 ht
    go_wp2_with fail
    go_loopw [11] (fun i wr => ∃ k : Nat, k ≤ l.length ∧ i = .int .i64 k ∧ DwP w.heap.size G l k wr ∧ Below w.heap.size w wr) (fun i _ => l.length - (intOf i).toNat)
    case atStart => exact ⟨0, by omega, rfl, T1.out, B1.out⟩
    case round =>
      obtain ⟨k, hk, rfl, ht, hb⟩ := hrel
      have HT := Lib.hid ht
      have HB := Lib.hid hb
      by_cases hlt : k < l.length
      · obtain ⟨b', off', ka, kc, fa, fc, e', ⟨v0, v1, v2, v3, v4, v5, hka, hfa⟩, hgl⟩ := HX.out k hlt
        obtain ⟨rfl, rfl⟩ : b = b' ∧ off = off' := by injection e' with e'; injection e' with e1 e2 _; exact ⟨e1, e2⟩
        have okx := HOK.out l[k] (List.getElem_mem _)
        have hxk : l[k]? = some l[k] := List.getElem?_eq_getElem hlt
        obtain ⟨x, hxe⟩ : ∃ x, x = l[k] := ⟨_, rfl⟩
        rw [← hxe] at v0 v1 v2 v3 v4 v5 hka hfa okx hxk
        have p0 := (hb.cell (p := ⟨b, off + k * 6, none⟩) hgl).trans v0
        have p1 := (hb.cell (p := ⟨b, off + k * 6 + 1, none⟩) hgl).trans v1
        have p2 := (hb.cell (p := ⟨b, off + k * 6 + 2, none⟩) hgl).trans v2
        have p3 := (hb.cell (p := ⟨b, off + k * 6 + 3, none⟩) hgl).trans v3
        have p4 := (hb.cell (p := ⟨b, off + k * 6 + 4, none⟩) hgl).trans v4
        have p5 := (hb.cell (p := ⟨b, off + k * 6 + 5, none⟩) hgl).trans v5
        have hki : (k : Int) < (l.length : Int) := by omega
        have k0 := (Below.refl wr.heap.size wr).alloc (Nat.le_refl _) (.cells #[.int .i64 x.n, .int .i64 x.mail.id, .string (S x.mail.chan), .slice ka x.mail.key.length kc, .slice fa x.mail.fields.length fc, .int .i64 x.reason] 46)
        have h1 : BD (wr.alloc (.cells #[.int .i64 x.n, .int .i64 x.mail.id, .string (S x.mail.chan), .slice ka x.mail.key.length kc, .slice fa x.mail.fields.length fc, .int .i64 x.reason] 46)) wr.heap.size (.int .i64 x.n) (.int .i64 x.mail.id) (.string (S x.mail.chan)) (.slice ka x.mail.key.length kc) (.slice fa x.mail.fields.length fc) (.int .i64 x.reason) := heap_alloc_new wr _
        obtain ⟨W1, hW1⟩ : ∃ W1, W1 = wr.alloc (.cells #[.int .i64 x.n, .int .i64 x.mail.id, .string (S x.mail.chan), .slice ka x.mail.key.length kc, .slice fa x.mail.fields.length fc, .int .i64 x.reason] 46) := ⟨_, rfl⟩
        have e2 := h1.c2
        have HW1 := Lib.hid hW1
        rw [← hW1] at k0 h1
        have HGW := Lib.hid ht.blk.lt
        have hGH : wr.heap.size ≠ G := fun e => by have := ht.blk.lt; omega
        have HGH := Lib.hid hGH
        have HD1 := Lib.hid h1
        have T2 := Lib.hid (ht.below k0)
        have B2 := Lib.hid (hb.trans (k0.mono hb.size))
        have HXK := Lib.hid hxk
        have HSC := Lib.hid (strClone_any (S x.mail.chan) (by rw [S_size]; have := okx.big.mail.chan; omega))
        have HTK := Lib.hid (fun W (k : Below w.heap.size w W) => Twin_big x.mail.key okx.key (fun v hv => (okx.big.mail.key v hv).tw) ka kc W (hka.below k))
        have HTF := Lib.hid (fun W (k : Below w.heap.size w W) => Twin_big x.mail.fields okx.fields (fun v hv => (okx.big.mail.fields v hv).tw) fa fc W (hfa.below k))
        clear ht hb v0 v1 v2 v3 v4 v5 hka hfa okx hxk hxe k0 h1 hW1 hGH
        go_wp2_with fail
        rw [← HW1.out]
        refine (HSC.out _).mono ?_
        rintro e w2 ⟨rfl, b2⟩
        have ht2 := T2.out.below b2
        have hd2 := HD1.out.below b2
        obtain ⟨_, _, _, _, ⟨_, _, g2, _⟩, _⟩ := ht2.cells k x HXK.out
        have fg2 := ht2.blk.frozen (k * 6 + 2)
        have T3 := Lib.hid (ht2.text x HXK.out)
        have D3 := Lib.hid (hd2.other (g := G) (o := k * 6 + 2) (v := .string (S x.mail.chan)) HGH.out)
        have B3 := Lib.hid ((B2.out.trans (b2.mono B2.out.size)).setCell (p := ⟨G, k * 6 + 2, none⟩) ht2.ge (.string (S x.mail.chan)))
        clear e2 b2 ht2 hd2 p0 p1 p2 p3 p4 p5
        go_wp2_with fail
        clear g2 fg2
        obtain ⟨W3, hW3⟩ : ∃ W3, W3 = w2.setCell ⟨G, k * 6 + 2, none⟩ (.string (S x.mail.chan)) := ⟨_, rfl⟩
        rw [← hW3] at T3 D3 B3 ⊢
        clear hW3
        have hS0 : W3.drew.cell? ⟨wr.heap.size, 3, none⟩ = some (.slice ka x.mail.key.length kc) ∧ W3.drew.cell? ⟨wr.heap.size, 4, none⟩ = some (.slice fa x.mail.fields.length fc) := ⟨D3.out.c3, D3.out.c4⟩
        have kd : Below W3.heap.size W3 W3.drew := ⟨rfl, rfl, rfl, Nat.le_refl _, fun _ _ => rfl⟩
        have T4 := Lib.hid (T3.out.below kd)
        have D4 := Lib.hid (D3.out.below kd)
        have B4 := Lib.hid (B3.out.trans (kd.mono B3.out.size))
        clear kd T3 D3 B3
        refine Cd.until_start 12 (fun w7 => w7.cell? ⟨wr.heap.size, 3, none⟩ = some (.slice ka x.mail.key.length kc) ∧ w7.cell? ⟨wr.heap.size, 4, none⟩ = some (.slice fa x.mail.fields.length fc)) (by kernel_rfl) ?_
        refine Cd.untilT (v := ?_) 0 (by decide +kernel) (by decide +kernel) (by decide +kernel) (by kernel_rfl) (by simp only [List.getElem?_toArray, List.getElem?_cons_succ, List.getElem?_cons_zero]; rfl) (by rfl) (by exact fun _ _ _ h => h) (by first | exact fun _ => hS0 | exact fun h => absurd h (by decide +kernel)) ?_ ?_
        rotate_left 1
        focus (intro w8; go_simp; (try with_reducible rfl); done)
        try simp only [Act.put, List.setIfInBounds_toArray, List.set_cons_zero, List.set_cons_succ]
        refine Cd.untilT (v := ?_) 1 (by decide +kernel) (by decide +kernel) (by decide +kernel) (by kernel_rfl) (by simp only [List.getElem?_toArray, List.getElem?_cons_succ, List.getElem?_cons_zero]; rfl) (by rfl) (by exact fun _ _ _ h => h) (by first | exact fun _ => hS0 | exact fun h => absurd h (by decide +kernel)) ?_ ?_
        rotate_left 1
        focus (intro w8; go_simp; (try with_reducible rfl); done)
        try simp only [Act.put, List.setIfInBounds_toArray, List.set_cons_zero, List.set_cons_succ]
        refine Cd.untilT (v := ?_) 2 (by decide +kernel) (by decide +kernel) (by decide +kernel) (by kernel_rfl) (by simp only [List.getElem?_toArray, List.getElem?_cons_succ, List.getElem?_cons_zero]; rfl) (by rfl) (by exact fun _ _ _ h => h) (by first | exact fun _ => hS0 | exact fun h => absurd h (by decide +kernel)) ?_ ?_
        rotate_left 1
        focus (intro w8; go_simp; (try with_reducible rfl); done)
        try simp only [Act.put, List.setIfInBounds_toArray, List.set_cons_zero, List.set_cons_succ]
        refine Cd.untilT (v := ?_) 3 (by decide +kernel) (by decide +kernel) (by decide +kernel) (by kernel_rfl) (by simp only [List.getElem?_toArray, List.getElem?_cons_succ, List.getElem?_cons_zero]; rfl) (by rfl) (by exact fun _ _ _ h => h) (by first | exact fun _ => hS0 | exact fun h => absurd h (by decide +kernel)) ?_ ?_
        rotate_left 1
        focus (intro w8; go_simp; (try with_reducible rfl); done)
        try simp only [Act.put, List.setIfInBounds_toArray, List.set_cons_zero, List.set_cons_succ]
        refine Cd.untilW (v := ?_) 4 [12] (by decide) (by decide +kernel) (by decide +kernel) (by decide +kernel) (by decide +kernel) (by kernel_rfl) (by simp only [List.getElem?_toArray, List.getElem?_cons_succ, List.getElem?_cons_zero]; rfl) (by rfl) (by exact fun _ _ _ h => h) (by exact hS0) ?_ ?_
        rotate_left 1
        focus (intro w8 hSw; (try dsimp only at hSw); (try obtain ⟨hSa, hSb⟩ := hSw); go_simp; (try with_reducible rfl); done)
        try simp only [Act.put, List.setIfInBounds_toArray, List.set_cons_zero, List.set_cons_succ]
        refine Cd.untilT (v := ?_) 6 (by decide +kernel) (by decide +kernel) (by decide +kernel) (by kernel_rfl) (by simp only [List.getElem?_toArray, List.getElem?_cons_succ, List.getElem?_cons_zero]; rfl) (by rfl) (by exact fun _ _ _ h => h) (by first | exact fun _ => hS0 | exact fun h => absurd h (by decide +kernel)) ?_ ?_
        rotate_left 1
        focus (intro w8; go_simp; (try with_reducible rfl); done)
        try simp only [Act.put, List.setIfInBounds_toArray, List.set_cons_zero, List.set_cons_succ]
        refine Cd.untilT (v := ?_) 7 (by decide +kernel) (by decide +kernel) (by decide +kernel) (by kernel_rfl) (by simp only [List.getElem?_toArray, List.getElem?_cons_succ, List.getElem?_cons_zero]; rfl) (by rfl) (by exact fun _ _ _ h => h) (by first | exact fun _ => hS0 | exact fun h => absurd h (by decide +kernel)) ?_ ?_
        rotate_left 1
        focus (intro w8; go_simp; (try with_reducible rfl); done)
        try simp only [Act.put, List.setIfInBounds_toArray, List.set_cons_zero, List.set_cons_succ]
        refine Cd.untilW (v := ?_) 8 [9, 12] (by decide) (by decide +kernel) (by decide +kernel) (by decide +kernel) (by decide +kernel) (by kernel_rfl) (by simp only [List.getElem?_toArray, List.getElem?_cons_succ, List.getElem?_cons_zero]; rfl) (by rfl) (by exact fun _ _ _ h => h) (by exact hS0) ?_ ?_
        rotate_left 1
        focus (intro w8 hSw; (try dsimp only at hSw); (try obtain ⟨hSa, hSb⟩ := hSw); go_simp; (try with_reducible rfl); done)
        try simp only [Act.put, List.setIfInBounds_toArray, List.set_cons_zero, List.set_cons_succ]
        refine Cd.until_one (i := 5) (by decide +kernel) (by simp only [List.getElem?_toArray, List.getElem?_cons_succ, List.getElem?_cons_zero]; rfl) ?_
        intro K hK
        go_simp
        go_at_call 44; (with_reducible refine (HTK.out _ B4.out).mono ?_); rintro e w5 ⟨⟨ka5, kc5, rfl, tk5⟩, b5⟩
        clear hS0
        have d5 := D4.out.below b5
        have hS0 : w5.cell? ⟨wr.heap.size, 3, none⟩ = some (.slice ka x.mail.key.length kc) ∧ w5.cell? ⟨wr.heap.size, 4, none⟩ = some (.slice fa x.mail.fields.length fc) := ⟨d5.c3, d5.c4⟩
        have D5 := Lib.hid d5
        have T5 := Lib.hid (T4.out.below b5)
        have B5 := Lib.hid (B4.out.trans (b5.mono B4.out.size))
        have TK5 := Lib.hid (TwR.mono (lo := w.heap.size) tk5 B4.out.size)
        clear b5 tk5 d5
        refine hK.out _ _ (by first | exact fun _ => hS0 | exact fun h => absurd h (by decide +kernel)) ?_
        try simp only [Act.put, List.setIfInBounds_toArray, List.set_cons_zero, List.set_cons_succ]
        clear hK K
        refine Cd.until_one (i := 9) (by decide +kernel) (by simp only [List.getElem?_toArray, List.getElem?_cons_succ, List.getElem?_cons_zero]; rfl) ?_
        intro K hK
        go_simp
        go_at_call 44; (with_reducible refine (HTF.out _ B5.out).mono ?_); rintro e w6 ⟨⟨fa6, fc6, rfl, tf6⟩, b6⟩
        clear hS0
        have d6 := D5.out.below b6
        have hS0 : w6.cell? ⟨wr.heap.size, 3, none⟩ = some (.slice ka x.mail.key.length kc) ∧ w6.cell? ⟨wr.heap.size, 4, none⟩ = some (.slice fa x.mail.fields.length fc) := ⟨d6.c3, d6.c4⟩
        have ht6 := T5.out.below b6
        obtain ⟨_, _, _, _, ⟨_, _, _, g3, _⟩, _⟩ := ht6.cells k x HXK.out
        have fg3 := ht6.blk.frozen (k * 6 + 3)
        have T6 := Lib.hid (ht6.key x HXK.out ka5 kc5)
        have B6 := Lib.hid ((B5.out.trans (b6.mono B5.out.size)).setCell (p := ⟨G, k * 6 + 3, none⟩) ht6.ge (.slice ka5 x.mail.key.length kc5))
        have TK6 := Lib.hid (TwR.setD (o := k * 6 + 3) (v := .slice ka5 x.mail.key.length kc5) (TK5.out.below b6) ht6.blk)
        have TF6 := Lib.hid (TwR.setD (o := k * 6 + 3) (v := .slice ka5 x.mail.key.length kc5) (TwR.mono (lo := w.heap.size) tf6 B5.out.size) ht6.blk)
        have C6 := Lib.hid (set_same (v := .slice ka5 x.mail.key.length kc5) g3)
        clear b6 tf6 d6 ht6
        refine hK.out _ _ (by first | exact fun _ => hS0 | exact fun h => absurd h (by decide +kernel)) ?_
        try simp only [Act.put, List.setIfInBounds_toArray, List.set_cons_zero, List.set_cons_succ]
        clear hK K
        refine Cd.untilT (v := ?_) 10 (by decide +kernel) (by decide +kernel) (by decide +kernel) (by kernel_rfl) (by simp only [List.getElem?_toArray, List.getElem?_cons_succ, List.getElem?_cons_zero]; rfl) (by rfl) (by exact fun _ _ _ h => h) (by first | exact fun _ => hS0 | exact fun h => absurd h (by decide +kernel)) ?_ ?_
        rotate_left 1
        focus (intro w8; go_simp; (try with_reducible rfl); done)
        try simp only [Act.put, List.setIfInBounds_toArray, List.set_cons_zero, List.set_cons_succ]
        refine Cd.untilT (v := ?_) 11 (by decide +kernel) (by decide +kernel) (by decide +kernel) (by kernel_rfl) (by simp only [List.getElem?_toArray, List.getElem?_cons_succ, List.getElem?_cons_zero]; rfl) (by rfl) (by exact fun _ _ _ h => h) (by first | exact fun _ => hS0 | exact fun h => absurd h (by decide +kernel)) ?_ ?_
        rotate_left 1
        focus (intro w8; go_simp; (try with_reducible rfl); done)
        try simp only [Act.put, List.setIfInBounds_toArray, List.set_cons_zero, List.set_cons_succ]
        refine Cd.until_one (i := 12) (by decide +kernel) (by simp only [List.getElem?_toArray, List.getElem?_cons_succ, List.getElem?_cons_zero]; rfl) ?_
        intro K hK
        go_simp
        refine hK.out _ _ (by first | exact fun _ => hS0 | exact fun h => absurd h (by decide +kernel)) ?_
        try simp only [Act.put, List.setIfInBounds_toArray, List.set_cons_zero, List.set_cons_succ]
        clear hK K
        clear g3 fg3 hS0
        obtain ⟨W7, hW7⟩ : ∃ W7, W7 = w6.setCell ⟨G, k * 6 + 3, none⟩ (.slice ka5 x.mail.key.length kc5) := ⟨_, rfl⟩
        rw [← hW7] at T6 B6 TK6 TF6 C6 ⊢
        clear hW7
        refine Cd.untilT (v := ?_) 13 (by decide +kernel) (by decide +kernel) (by decide +kernel) (by kernel_rfl) (by simp only [List.getElem?_toArray, List.getElem?_cons_succ, List.getElem?_cons_zero]; rfl) (by rfl) (by exact fun _ _ _ h => h) (by first | exact fun _ => hS0 | exact fun h => absurd h (by decide +kernel)) ?_ ?_
        rotate_left 1
        focus (intro w8; go_simp; (try with_reducible rfl); done)
        try simp only [Act.put, List.setIfInBounds_toArray, List.set_cons_zero, List.set_cons_succ]
        refine Cd.untilT (v := ?_) 14 (by decide +kernel) (by decide +kernel) (by decide +kernel) (by kernel_rfl) (by simp only [List.getElem?_toArray, List.getElem?_cons_succ, List.getElem?_cons_zero]; rfl) (by rfl) (by exact fun _ _ _ h => h) (by first | exact fun _ => hS0 | exact fun h => absurd h (by decide +kernel)) ?_ ?_
        rotate_left 1
        focus (intro w8; go_simp; (try with_reducible rfl); done)
        try simp only [Act.put, List.setIfInBounds_toArray, List.set_cons_zero, List.set_cons_succ]
        obtain ⟨_, _, _, _, ⟨_, _, _, _, g4, _⟩, _⟩ := T6.out.cells k x HXK.out
        have fg4 := T6.out.blk.frozen (k * 6 + 4)
        refine Cd.until_one (i := 15) (by decide +kernel) (by simp only [List.getElem?_toArray, List.getElem?_cons_succ, List.getElem?_cons_zero]; rfl) ?_
        intro K hK
        go_simp
        refine hK.out _ _ (by first | exact fun _ => hS0 | exact fun h => absurd h (by decide +kernel)) ?_
        try simp only [Act.put, List.setIfInBounds_toArray, List.set_cons_zero, List.set_cons_succ]
        clear hK K
        clear g4 fg4
        have T8 := Lib.hid (T6.out.fields x HXK.out ka5 kc5 fa6 fc6 C6.out TK6.out TF6.out)
        have B8 := Lib.hid (B6.out.setCell (p := ⟨G, k * 6 + 4, none⟩) T6.out.ge (.slice fa6 x.mail.fields.length fc6))
        refine Cd.until_done (by decide +kernel) ?_ _
        go_wp2_with fail
        go_roundw
        case rel => exact ⟨k + 1, by omega, by go_num, T8.out, B8.out⟩
        case measure => simp [intOf]; omega
      · obtain rfl : k = l.length := by omega
        clear ht hb
        go_wp2_with fail
        go_ret
        exact ⟨⟨_, c', rfl, .inr ⟨G, rfl, HT.out⟩, HNC.out⟩, HB.out⟩

end Go.Proofs.Ytfkmpegbidojoaa.Md
