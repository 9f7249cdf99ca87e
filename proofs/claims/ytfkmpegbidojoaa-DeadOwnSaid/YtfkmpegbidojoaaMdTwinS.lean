/-
  Twins of dead letters, and the room behind them.
-/
import Derived.Test.YtfkmpegbidojoaaMdTwins
namespace Go.Proofs.Ytfkmpegbidojoaa.Md
open Go.RowKit
open Va
set_option linter.unusedVariables false
set_option linter.unusedSimpArgs false

/-- A block of letters of so many places. -/
def Siz (w : World) (G c : Nat) : Prop := c ≤ maxLen ∧ ∃ cs : Array Value, w.heap[G]? = some (.cells cs 46 (0, 0)) ∧ cs.size = c * 6
theorem Siz.agree {w w' : World} {G c : Nat} (h : Siz w G c) (e : w'.heap[G]? = w.heap[G]?) : Siz w' G c := by
  obtain ⟨h1, cs, h2, h3⟩ := h
  exact ⟨h1, cs, e.trans h2, h3⟩
theorem Siz.lt {w : World} {G c : Nat} (h : Siz w G c) : G < w.heap.size := by
  obtain ⟨_, cs, h2, _⟩ := h
  exact lt_of_heapV h2
theorem Siz.set {w : World} {G c g o : Nat} {v : Value} (h : Siz w G c) : Siz (w.setCell ⟨g, o, none⟩ v) G c := by
  by_cases e : G = g
  · subst e
    obtain ⟨h1, cs, h2, h3⟩ := h
    exact ⟨h1, _, heap_setCell_same w G o _ _ _ h2, by simpa using h3⟩
  · exact h.agree (Below.heap_setCell _ _ _ _ e)
structure DwS (c lo G : Nat) (l : List DeadP) (k : Nat) (w : World) : Prop extends DwP lo G l k w where
  siz : Siz w G c
section
variable {c lo G k : Nat} {l : List DeadP} {w : World}
theorem DwS.below {w' : World} (h : DwS c lo G l k w) (b : Below w.heap.size w w') : DwS c lo G l k w' := ⟨h.toDwP.below b, h.siz.agree (b.block G h.siz.lt)⟩
theorem DwS.text (h : DwS c lo G l k w) (x : DeadP) (hx : l[k]? = some x) : DwS c lo G l k (w.setCell ⟨G, k * 6 + 2, none⟩ (.string (S x.mail.chan))) := ⟨h.toDwP.text x hx, h.siz.set⟩
theorem DwS.key (h : DwS c lo G l k w) (x : DeadP) (hx : l[k]? = some x) (ka' : Option Addr) (kc' : Nat) : DwS c lo G l k (w.setCell ⟨G, k * 6 + 3, none⟩ (.slice ka' x.mail.key.length kc')) := ⟨h.toDwP.key x hx ka' kc', h.siz.set⟩
theorem DwS.fields (h : DwS c lo G l k w) (x : DeadP) (hx : l[k]? = some x) (ka' : Option Addr) (kc' : Nat) (fa' : Option Addr) (fc' : Nat) (hk3 : w.cell? ⟨G, k * 6 + 3, none⟩ = some (.slice ka' x.mail.key.length kc')) (tk : TwR lo w ka' x.mail.key) (tf : TwR lo w fa' x.mail.fields) :
    DwS c lo G l (k + 1) (w.setCell ⟨G, k * 6 + 4, none⟩ (.slice fa' x.mail.fields.length fc')) := ⟨h.toDwP.fields x hx ka' kc' fa' fc' hk3 tk tf, h.siz.set⟩
theorem DwS.mono {lo' : Nat} (h : DwS c lo' G l k w) (hl : lo ≤ lo') : DwS c lo G l k w :=
  ⟨⟨Nat.le_trans hl h.ge, h.blk, fun i x hi => by
    obtain ⟨ka, kc, fa, fc, h1, h2⟩ := h.cells i x hi
    exact ⟨ka, kc, fa, fc, h1, fun hk => ⟨TwR.mono (h2 hk).1 hl, TwR.mono (h2 hk).2 hl⟩⟩⟩, h.siz⟩
end
set_option maxRecDepth 100000 in
/-- append of a row onto an empty one of the call's own: its cells, in a block of the call's own. -/
theorem app_rowS (t e : TypeId) (z : Value) (size bytes : Nat) (ht : Try.prog.underlying t = some (.slice e)) (hinfo : (Try.prog.info? e).map (fun i => (i.zero, i.size, i.bytes)) = some (some z, size, bytes)) (hzs : z.cells.size = size) (hsz : 0 < size)
    (w : World) (n : Nat) (hn : 0 < n) (hb : n * bytes ≤ 140737488355328) (hm : n ≤ 140737488355328) (b off cap : Nat) (hcell : ∀ j, j < n * size → ∃ u, w.cell? ⟨b, off + j, none⟩ = some u ∧ u.oneCell' = true) :
    ∃ G c' w', (Builtin.append_ #[t, t] t #[.slice (some ⟨w.heap.size, 0, none⟩) 0 0, .slice (some ⟨b, off, none⟩) n cap]).run Try.prog (w.alloc (.cells #[] e)) = .ok (.slice (some ⟨G, 0, none⟩) n c') w' ∧
      w.heap.size ≤ G ∧ n ≤ c' ∧ (c' ≤ maxLen ∧ ∃ cs : Array Value, w'.heap[G]? = some (.cells cs e (0, 0)) ∧ cs.size = c' * size) ∧ (∀ j, j < n * size → w'.cell? ⟨G, j, none⟩ = w.cell? ⟨b, off + j, none⟩) ∧ Below w.heap.size w w' := by
  obtain ⟨i0, hi, hz0, hz1, hz2⟩ := info_ptD hinfo
  have hb0 := (Below.refl w.heap.size w).alloc (Nat.le_refl _) (.cells #[] e)
  have hown := World.ownsRow_made (base := w.heap.size) (e := e) (size := size) w #[] 0 (Nat.le_refl _) (by unfold maxLen; omega) (by simp)
  have hcell1 : ∀ j, j < n * size → ∃ u, (w.alloc (.cells #[] e)).cell? ⟨b, off + j, none⟩ = some u ∧ u.oneCell' = true := fun j hj => by
    obtain ⟨u, h1, h2⟩ := hcell j hj
    exact ⟨u, (hb0.cell (p := ⟨b, off + j, none⟩) (World.block_lt_of_cell? w _ h1)).trans h1, h2⟩
  obtain ⟨news, hnl, hnews⟩ : ∃ news : List Value, news.length = n * size ∧ ∀ j, j < n * size → ∃ u, news[j]? = some u ∧ (w.alloc (.cells #[] e)).cell? ⟨b, off + j, none⟩ = some u ∧ u.oneCell' = true := by
    refine ⟨(List.range (n * size)).map fun j => ((w.alloc (.cells #[] e)).cell? ⟨b, off + j, none⟩).getD undef, by simp, fun j hj => ?_⟩
    obtain ⟨u, h1, h2⟩ := hcell1 j hj
    exact ⟨u, by simp [hj, h1], h1, h2⟩
  have hnat : ∀ j u, news[j]? = some u → (w.alloc (.cells #[] e)).cell? ((⟨b, off, none⟩ : Addr).add j) = some u := fun j u hu => by
    have hj := (List.getElem?_eq_some_iff.1 hu).1
    obtain ⟨u', h1, h2, _⟩ := hnews j (by omega)
    obtain rfl := Option.some.inj (hu.symm.trans h1)
    have hadd : (⟨b, off, none⟩ : Addr).add j = ⟨b, off + j, none⟩ := by unfold Addr.add; split <;> simp_all
    rw [hadd]; exact h2
  have h1 : ∀ u ∈ news, u.oneCell' = true := fun u hu => by
    obtain ⟨j, hj, rfl⟩ := List.getElem_of_mem hu
    obtain ⟨u', h1, _, h3⟩ := hnews j (by omega)
    rw [List.getElem?_eq_getElem hj] at h1
    obtain rfl := Option.some.inj h1
    exact h3
  obtain ⟨v', w', hr, ho, hg, _⟩ := run_append_own (P := Try.prog) (w.alloc (.cells #[] e)) w.heap.size t t e i0 _ size bytes ht hi hz0 hz1 hz2 hzs hsz (.slice (some ⟨w.heap.size, 0, none⟩) 0 0) 0 [] hown ⟨b, off, none⟩ n cap news hnl hnat h1 (by unfold maxLen; omega) (by rw [Nat.zero_add]; exact hb) (by simp)
  have hbel := hb0.grown hg (by simp) (fun k hk => by have := (hown.lt k hk).1; omega)
  rw [List.nil_append, Nat.zero_add] at ho
  rcases ho.2 with ⟨_, h0⟩ | ⟨G, c', cur, rfl, hB, hG, hnc, hcm, hcs, _⟩
  · omega
  · refine ⟨G, c', w', hr, hB, hnc, ⟨hcm, cur, hG, hcs⟩, fun j hj => ?_, hbel⟩
    obtain ⟨u', n1, n2, _⟩ := hnews j hj
    obtain ⟨u2, m1, _⟩ := hcell j hj
    have e2 : (w.alloc (.cells #[] e)).cell? ⟨b, off + j, none⟩ = w.cell? ⟨b, off + j, none⟩ := hb0.cell (p := ⟨b, off + j, none⟩) (World.block_lt_of_cell? w _ m1)
    have hadd : (⟨G, 0, none⟩ : Addr).add j = ⟨G, j, none⟩ := by unfold Addr.add; split <;> simp_all
    have := World.ownsRow.cells ho (g := G) rfl j u' n1
    rw [hadd] at this
    rw [this, ← e2, n2]

set_option maxRecDepth 100000 in
set_option maxHeartbeats 1600000 in
theorem dcloneS_any (l : List DeadP) (hne : 0 < l.length) (hn : l.length ≤ 100000) (b off cap : Nat) (w : World) (hx : DeadsAt w (some ⟨b, off, none⟩) l) :
    Calls Try.prog 46 #[.slice (some ⟨b, off, none⟩) l.length cap] w fun e w' => (∃ G c', e = .returned (.slice (some ⟨G, 0, none⟩) l.length c') ∧ DwS c' w.heap.size G l 0 w' ∧ l.length ≤ c') ∧ Below w.heap.size w w' := by
  obtain ⟨G, c', w', hr, hG, hnc, hb, hc, hbel⟩ := app_rowS 44 46 _ 6 88 Try.underlying44 infoD rfl (by decide) w l.length hne (by omega) (by omega) b off cap (deads_cells hx)
  have HRUN := Lib.hid hr
  have HT := Lib.hid (show DwS c' w.heap.size G l 0 w' from ⟨dwp_start hx hG (by obtain ⟨_, cs, h1, _⟩ := hb; exact ⟨cs, h1⟩) hc, hb⟩)
  have HB := Lib.hid hbel
  have hnil := fun (wr : World) => Lib.run_eql_slice_nil (P := Try.prog) wr 44 46 (some ⟨b, off, none⟩) l.length cap 0 0 Try.underlying44
  clear hr hG hb hc hbel hx
  go_enter Try.func46, Try.ntmps46
  go_wp2_with (at_builtin; refine wpList_app rfl _ _ _ _ rfl rfl rfl _ _ HRUN.out ?_)
  go_ret
  exact ⟨⟨G, c', rfl, HT.out, hnc⟩, HB.out⟩
set_option maxRecDepth 100000 in
set_option maxHeartbeats 8000000 in
theorem twinsS_any (l : List DeadP) (h0 : l ≠ []) (hn : l.length ≤ 1000) (ok : ∀ x ∈ l, Dok x) (a : Option Addr) (cap : Nat) (w : World) (hx : DeadsAt w a l) :
    Calls Try.prog 36 #[.slice a l.length cap] w fun e w' => (∃ G c', e = .returned (.slice (some ⟨G, 0, none⟩) l.length c') ∧ DwS c' w.heap.size G l l.length w' ∧ l.length ≤ c') ∧ Below w.heap.size w w' := by
  have hpos := List.length_pos_iff.2 h0
  obtain ⟨b, off, _, _, _, _, rfl, _, hbl⟩ := hx 0 hpos
  have HX := Lib.hid hx
  have HOK := Lib.hid ok
  have HC := Lib.hid (dcloneS_any l hpos (by omega) b off cap w hx)
  have hni : (l.length : Int) ≤ 1000 := by omega
  clear hx ok h0
  go_enter Try.func36, Try.ntmps36
  go_wp2_with fail
  refine HC.out.mono ?_
  rintro e w1 ⟨⟨G, c', rfl, ht, hnc⟩, b1⟩
  have HNC := Lib.hid hnc
  clear hnc
  have B1 := Lib.hid b1
  have T1 := Lib.hid ht
  clear b1 ht
  go_wp2_with fail
  go_loopw [11] (fun i wr => ∃ k : Nat, k ≤ l.length ∧ i = .int .i64 k ∧ DwS c' w.heap.size G l k wr ∧ Below w.heap.size w wr) (fun i _ => l.length - (intOf i).toNat)
  case atStart => exact ⟨0, by omega, rfl, T1.out, B1.out⟩
  case round =>
    obtain ⟨k, hk, rfl, ht, hb⟩ := hrel
    have HT := Lib.hid ht
    have HB := Lib.hid hb
    by_cases hlt : k < l.length
    · obtain ⟨b', off', ka, kc, fa, fc, e', ⟨v0, v1, v2, v3, v4, v5, hka, hfa⟩, hgl⟩ := HX.out k hlt
      obtain ⟨rfl, rfl⟩ : b = b' ∧ off = off' := by injection e' with e'; injection e' with e1 e2 _; exact ⟨e1, e2⟩
      have okx := HOK.out l[k] (List.getElem_mem _)
      have hxk : l[k]? = some l[k] := List.getElem?_eq_getElem hlt
      obtain ⟨x, hxe⟩ : ∃ x, x = l[k] := ⟨_, rfl⟩
      rw [← hxe] at v0 v1 v2 v3 v4 v5 hka hfa okx hxk
      have p0 := (hb.cell (p := ⟨b, off + k * 6, none⟩) hgl).trans v0
      have p1 := (hb.cell (p := ⟨b, off + k * 6 + 1, none⟩) hgl).trans v1
      have p2 := (hb.cell (p := ⟨b, off + k * 6 + 2, none⟩) hgl).trans v2
      have p3 := (hb.cell (p := ⟨b, off + k * 6 + 3, none⟩) hgl).trans v3
      have p4 := (hb.cell (p := ⟨b, off + k * 6 + 4, none⟩) hgl).trans v4
      have p5 := (hb.cell (p := ⟨b, off + k * 6 + 5, none⟩) hgl).trans v5
      have hki : (k : Int) < (l.length : Int) := by omega
      have k0 := (Below.refl wr.heap.size wr).alloc (Nat.le_refl _) (.cells #[.int .i64 x.n, .int .i64 x.mail.id, .string (S x.mail.chan), .slice ka x.mail.key.length kc, .slice fa x.mail.fields.length fc, .int .i64 x.reason] 46)
      have h1 : BD (wr.alloc (.cells #[.int .i64 x.n, .int .i64 x.mail.id, .string (S x.mail.chan), .slice ka x.mail.key.length kc, .slice fa x.mail.fields.length fc, .int .i64 x.reason] 46)) wr.heap.size (.int .i64 x.n) (.int .i64 x.mail.id) (.string (S x.mail.chan)) (.slice ka x.mail.key.length kc) (.slice fa x.mail.fields.length fc) (.int .i64 x.reason) := heap_alloc_new wr _
      obtain ⟨W1, hW1⟩ : ∃ W1, W1 = wr.alloc (.cells #[.int .i64 x.n, .int .i64 x.mail.id, .string (S x.mail.chan), .slice ka x.mail.key.length kc, .slice fa x.mail.fields.length fc, .int .i64 x.reason] 46) := ⟨_, rfl⟩
      have e2 := h1.c2
      have HW1 := Lib.hid hW1
      rw [← hW1] at k0 h1
      have HGW := Lib.hid ht.blk.lt
      have hGH : wr.heap.size ≠ G := fun e => by have := ht.blk.lt; omega
      have HGH := Lib.hid hGH
      have HD1 := Lib.hid h1
      have T2 := Lib.hid (ht.below k0)
      have B2 := Lib.hid (hb.trans (k0.mono hb.size))
      have HXK := Lib.hid hxk
      have HSC := Lib.hid (strClone_any (S x.mail.chan) (by rw [S_size]; have := okx.big.mail.chan; omega))
      have HTK := Lib.hid (fun W (k : Below w.heap.size w W) => Twin_big x.mail.key okx.key (fun v hv => (okx.big.mail.key v hv).tw) ka kc W (hka.below k))
      have HTF := Lib.hid (fun W (k : Below w.heap.size w W) => Twin_big x.mail.fields okx.fields (fun v hv => (okx.big.mail.fields v hv).tw) fa fc W (hfa.below k))
      clear ht hb v0 v1 v2 v3 v4 v5 hka hfa okx hxk hxe k0 h1 hW1 hGH
      go_wp2_with fail
      rw [← HW1.out]
      refine (HSC.out _).mono ?_
      rintro e w2 ⟨rfl, b2⟩
      have ht2 := T2.out.below b2
      have hd2 := HD1.out.below b2
      obtain ⟨_, _, _, _, ⟨_, _, g2, _⟩, _⟩ := ht2.cells k x HXK.out
      have fg2 := ht2.blk.frozen (k * 6 + 2)
      have T3 := Lib.hid (ht2.text x HXK.out)
      have D3 := Lib.hid (hd2.other (g := G) (o := k * 6 + 2) (v := .string (S x.mail.chan)) HGH.out)
      have B3 := Lib.hid ((B2.out.trans (b2.mono B2.out.size)).setCell (p := ⟨G, k * 6 + 2, none⟩) ht2.ge (.string (S x.mail.chan)))
      clear e2 b2 ht2 hd2 p0 p1 p2 p3 p4 p5
      go_wp2_with fail
      clear g2 fg2
      obtain ⟨W3, hW3⟩ : ∃ W3, W3 = w2.setCell ⟨G, k * 6 + 2, none⟩ (.string (S x.mail.chan)) := ⟨_, rfl⟩
      rw [← hW3] at T3 D3 B3 ⊢
      clear hW3
      have hS0 : W3.drew.cell? ⟨wr.heap.size, 3, none⟩ = some (.slice ka x.mail.key.length kc) ∧ W3.drew.cell? ⟨wr.heap.size, 4, none⟩ = some (.slice fa x.mail.fields.length fc) := ⟨D3.out.c3, D3.out.c4⟩
      have kd : Below W3.heap.size W3 W3.drew := ⟨rfl, rfl, rfl, Nat.le_refl _, fun _ _ => rfl⟩
      have T4 := Lib.hid (T3.out.below kd)
      have D4 := Lib.hid (D3.out.below kd)
      have B4 := Lib.hid (B3.out.trans (kd.mono B3.out.size))
      clear kd T3 D3 B3
      refine Cd.until_start 12 (fun w7 => w7.cell? ⟨wr.heap.size, 3, none⟩ = some (.slice ka x.mail.key.length kc) ∧ w7.cell? ⟨wr.heap.size, 4, none⟩ = some (.slice fa x.mail.fields.length fc)) (by kernel_rfl) ?_
      refine Cd.untilT (v := ?_) 0 (by decide +kernel) (by decide +kernel) (by decide +kernel) (by kernel_rfl) (by simp only [List.getElem?_toArray, List.getElem?_cons_succ, List.getElem?_cons_zero]; rfl) (by rfl) (by exact fun _ _ _ h => h) (by first | exact fun _ => hS0 | exact fun h => absurd h (by decide +kernel)) ?_ ?_
      rotate_left 1
      focus (intro w8; go_simp; (try with_reducible rfl); done)
      try simp only [Act.put, List.setIfInBounds_toArray, List.set_cons_zero, List.set_cons_succ]
      refine Cd.untilT (v := ?_) 1 (by decide +kernel) (by decide +kernel) (by decide +kernel) (by kernel_rfl) (by simp only [List.getElem?_toArray, List.getElem?_cons_succ, List.getElem?_cons_zero]; rfl) (by rfl) (by exact fun _ _ _ h => h) (by first | exact fun _ => hS0 | exact fun h => absurd h (by decide +kernel)) ?_ ?_
      rotate_left 1
      focus (intro w8; go_simp; (try with_reducible rfl); done)
      try simp only [Act.put, List.setIfInBounds_toArray, List.set_cons_zero, List.set_cons_succ]
      refine Cd.untilT (v := ?_) 2 (by decide +kernel) (by decide +kernel) (by decide +kernel) (by kernel_rfl) (by simp only [List.getElem?_toArray, List.getElem?_cons_succ, List.getElem?_cons_zero]; rfl) (by rfl) (by exact fun _ _ _ h => h) (by first | exact fun _ => hS0 | exact fun h => absurd h (by decide +kernel)) ?_ ?_
      rotate_left 1
      focus (intro w8; go_simp; (try with_reducible rfl); done)
      try simp only [Act.put, List.setIfInBounds_toArray, List.set_cons_zero, List.set_cons_succ]
      refine Cd.untilT (v := ?_) 3 (by decide +kernel) (by decide +kernel) (by decide +kernel) (by kernel_rfl) (by simp only [List.getElem?_toArray, List.getElem?_cons_succ, List.getElem?_cons_zero]; rfl) (by rfl) (by exact fun _ _ _ h => h) (by first | exact fun _ => hS0 | exact fun h => absurd h (by decide +kernel)) ?_ ?_
      rotate_left 1
      focus (intro w8; go_simp; (try with_reducible rfl); done)
      try simp only [Act.put, List.setIfInBounds_toArray, List.set_cons_zero, List.set_cons_succ]
      refine Cd.untilW (v := ?_) 4 [12] (by decide) (by decide +kernel) (by decide +kernel) (by decide +kernel) (by decide +kernel) (by kernel_rfl) (by simp only [List.getElem?_toArray, List.getElem?_cons_succ, List.getElem?_cons_zero]; rfl) (by rfl) (by exact fun _ _ _ h => h) (by exact hS0) ?_ ?_
      rotate_left 1
      focus (intro w8 hSw; (try dsimp only at hSw); (try obtain ⟨hSa, hSb⟩ := hSw); go_simp; (try with_reducible rfl); done)
      try simp only [Act.put, List.setIfInBounds_toArray, List.set_cons_zero, List.set_cons_succ]
      refine Cd.untilT (v := ?_) 6 (by decide +kernel) (by decide +kernel) (by decide +kernel) (by kernel_rfl) (by simp only [List.getElem?_toArray, List.getElem?_cons_succ, List.getElem?_cons_zero]; rfl) (by rfl) (by exact fun _ _ _ h => h) (by first | exact fun _ => hS0 | exact fun h => absurd h (by decide +kernel)) ?_ ?_
      rotate_left 1
      focus (intro w8; go_simp; (try with_reducible rfl); done)
      try simp only [Act.put, List.setIfInBounds_toArray, List.set_cons_zero, List.set_cons_succ]
      refine Cd.untilT (v := ?_) 7 (by decide +kernel) (by decide +kernel) (by decide +kernel) (by kernel_rfl) (by simp only [List.getElem?_toArray, List.getElem?_cons_succ, List.getElem?_cons_zero]; rfl) (by rfl) (by exact fun _ _ _ h => h) (by first | exact fun _ => hS0 | exact fun h => absurd h (by decide +kernel)) ?_ ?_
      rotate_left 1
      focus (intro w8; go_simp; (try with_reducible rfl); done)
      try simp only [Act.put, List.setIfInBounds_toArray, List.set_cons_zero, List.set_cons_succ]
      refine Cd.untilW (v := ?_) 8 [9, 12] (by decide) (by decide +kernel) (by decide +kernel) (by decide +kernel) (by decide +kernel) (by kernel_rfl) (by simp only [List.getElem?_toArray, List.getElem?_cons_succ, List.getElem?_cons_zero]; rfl) (by rfl) (by exact fun _ _ _ h => h) (by exact hS0) ?_ ?_
      rotate_left 1
      focus (intro w8 hSw; (try dsimp only at hSw); (try obtain ⟨hSa, hSb⟩ := hSw); go_simp; (try with_reducible rfl); done)
      try simp only [Act.put, List.setIfInBounds_toArray, List.set_cons_zero, List.set_cons_succ]
      refine Cd.until_one (i := 5) (by decide +kernel) (by simp only [List.getElem?_toArray, List.getElem?_cons_succ, List.getElem?_cons_zero]; rfl) ?_
      intro K hK
      go_simp
      go_at_call 44; (with_reducible refine (HTK.out _ B4.out).mono ?_); rintro e w5 ⟨⟨ka5, kc5, rfl, tk5⟩, b5⟩
      clear hS0
      have d5 := D4.out.below b5
      have hS0 : w5.cell? ⟨wr.heap.size, 3, none⟩ = some (.slice ka x.mail.key.length kc) ∧ w5.cell? ⟨wr.heap.size, 4, none⟩ = some (.slice fa x.mail.fields.length fc) := ⟨d5.c3, d5.c4⟩
      have D5 := Lib.hid d5
      have T5 := Lib.hid (T4.out.below b5)
      have B5 := Lib.hid (B4.out.trans (b5.mono B4.out.size))
      have TK5 := Lib.hid (TwR.mono (lo := w.heap.size) tk5 B4.out.size)
      clear b5 tk5 d5
      refine hK.out _ _ (by first | exact fun _ => hS0 | exact fun h => absurd h (by decide +kernel)) ?_
      try simp only [Act.put, List.setIfInBounds_toArray, List.set_cons_zero, List.set_cons_succ]
      clear hK K
      refine Cd.until_one (i := 9) (by decide +kernel) (by simp only [List.getElem?_toArray, List.getElem?_cons_succ, List.getElem?_cons_zero]; rfl) ?_
      intro K hK
      go_simp
      go_at_call 44; (with_reducible refine (HTF.out _ B5.out).mono ?_); rintro e w6 ⟨⟨fa6, fc6, rfl, tf6⟩, b6⟩
      clear hS0
      have d6 := D5.out.below b6
      have hS0 : w6.cell? ⟨wr.heap.size, 3, none⟩ = some (.slice ka x.mail.key.length kc) ∧ w6.cell? ⟨wr.heap.size, 4, none⟩ = some (.slice fa x.mail.fields.length fc) := ⟨d6.c3, d6.c4⟩
      have ht6 := T5.out.below b6
      obtain ⟨_, _, _, _, ⟨_, _, _, g3, _⟩, _⟩ := ht6.cells k x HXK.out
      have fg3 := ht6.blk.frozen (k * 6 + 3)
      have T6 := Lib.hid (ht6.key x HXK.out ka5 kc5)
      have B6 := Lib.hid ((B5.out.trans (b6.mono B5.out.size)).setCell (p := ⟨G, k * 6 + 3, none⟩) ht6.ge (.slice ka5 x.mail.key.length kc5))
      have TK6 := Lib.hid (TwR.setD (o := k * 6 + 3) (v := .slice ka5 x.mail.key.length kc5) (TK5.out.below b6) ht6.blk)
      have TF6 := Lib.hid (TwR.setD (o := k * 6 + 3) (v := .slice ka5 x.mail.key.length kc5) (TwR.mono (lo := w.heap.size) tf6 B5.out.size) ht6.blk)
      have C6 := Lib.hid (set_same (v := .slice ka5 x.mail.key.length kc5) g3)
      clear b6 tf6 d6 ht6
      refine hK.out _ _ (by first | exact fun _ => hS0 | exact fun h => absurd h (by decide +kernel)) ?_
      try simp only [Act.put, List.setIfInBounds_toArray, List.set_cons_zero, List.set_cons_succ]
      clear hK K
      refine Cd.untilT (v := ?_) 10 (by decide +kernel) (by decide +kernel) (by decide +kernel) (by kernel_rfl) (by simp only [List.getElem?_toArray, List.getElem?_cons_succ, List.getElem?_cons_zero]; rfl) (by rfl) (by exact fun _ _ _ h => h) (by first | exact fun _ => hS0 | exact fun h => absurd h (by decide +kernel)) ?_ ?_
      rotate_left 1
      focus (intro w8; go_simp; (try with_reducible rfl); done)
      try simp only [Act.put, List.setIfInBounds_toArray, List.set_cons_zero, List.set_cons_succ]
      refine Cd.untilT (v := ?_) 11 (by decide +kernel) (by decide +kernel) (by decide +kernel) (by kernel_rfl) (by simp only [List.getElem?_toArray, List.getElem?_cons_succ, List.getElem?_cons_zero]; rfl) (by rfl) (by exact fun _ _ _ h => h) (by first | exact fun _ => hS0 | exact fun h => absurd h (by decide +kernel)) ?_ ?_
      rotate_left 1
      focus (intro w8; go_simp; (try with_reducible rfl); done)
      try simp only [Act.put, List.setIfInBounds_toArray, List.set_cons_zero, List.set_cons_succ]
      refine Cd.until_one (i := 12) (by decide +kernel) (by simp only [List.getElem?_toArray, List.getElem?_cons_succ, List.getElem?_cons_zero]; rfl) ?_
      intro K hK
      go_simp
      refine hK.out _ _ (by first | exact fun _ => hS0 | exact fun h => absurd h (by decide +kernel)) ?_
      try simp only [Act.put, List.setIfInBounds_toArray, List.set_cons_zero, List.set_cons_succ]
      clear hK K
      clear g3 fg3 hS0
      obtain ⟨W7, hW7⟩ : ∃ W7, W7 = w6.setCell ⟨G, k * 6 + 3, none⟩ (.slice ka5 x.mail.key.length kc5) := ⟨_, rfl⟩
      rw [← hW7] at T6 B6 TK6 TF6 C6 ⊢
      clear hW7
      refine Cd.untilT (v := ?_) 13 (by decide +kernel) (by decide +kernel) (by decide +kernel) (by kernel_rfl) (by simp only [List.getElem?_toArray, List.getElem?_cons_succ, List.getElem?_cons_zero]; rfl) (by rfl) (by exact fun _ _ _ h => h) (by first | exact fun _ => hS0 | exact fun h => absurd h (by decide +kernel)) ?_ ?_
      rotate_left 1
      focus (intro w8; go_simp; (try with_reducible rfl); done)
      try simp only [Act.put, List.setIfInBounds_toArray, List.set_cons_zero, List.set_cons_succ]
      refine Cd.untilT (v := ?_) 14 (by decide +kernel) (by decide +kernel) (by decide +kernel) (by kernel_rfl) (by simp only [List.getElem?_toArray, List.getElem?_cons_succ, List.getElem?_cons_zero]; rfl) (by rfl) (by exact fun _ _ _ h => h) (by first | exact fun _ => hS0 | exact fun h => absurd h (by decide +kernel)) ?_ ?_
      rotate_left 1
      focus (intro w8; go_simp; (try with_reducible rfl); done)
      try simp only [Act.put, List.setIfInBounds_toArray, List.set_cons_zero, List.set_cons_succ]
      obtain ⟨_, _, _, _, ⟨_, _, _, _, g4, _⟩, _⟩ := T6.out.cells k x HXK.out
      have fg4 := T6.out.blk.frozen (k * 6 + 4)
      refine Cd.until_one (i := 15) (by decide +kernel) (by simp only [List.getElem?_toArray, List.getElem?_cons_succ, List.getElem?_cons_zero]; rfl) ?_
      intro K hK
      go_simp
      refine hK.out _ _ (by first | exact fun _ => hS0 | exact fun h => absurd h (by decide +kernel)) ?_
      try simp only [Act.put, List.setIfInBounds_toArray, List.set_cons_zero, List.set_cons_succ]
      clear hK K
      clear g4 fg4
      have T8 := Lib.hid (T6.out.fields x HXK.out ka5 kc5 fa6 fc6 C6.out TK6.out TF6.out)
      have B8 := Lib.hid (B6.out.setCell (p := ⟨G, k * 6 + 4, none⟩) T6.out.ge (.slice fa6 x.mail.fields.length fc6))
      refine Cd.until_done (by decide +kernel) ?_ _
      go_wp2_with fail
      go_roundw
      case rel => exact ⟨k + 1, by omega, by go_num, T8.out, B8.out⟩
      case measure => simp [intOf]; omega
    · obtain rfl : k = l.length := by omega
      clear ht hb
      go_wp2_with fail
      go_ret
      exact ⟨⟨G, c', rfl, HT.out, HNC.out⟩, HB.out⟩

end Go.Proofs.Ytfkmpegbidojoaa.Md
