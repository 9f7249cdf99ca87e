/-
  The document's Take.
-/
import Derived.Test.YtfkmpegbidojoaaMdROff
namespace Go.Proofs.Ytfkmpegbidojoaa.Md
open Go.RowKit
open Va
set_option linter.unusedVariables false
set_option linter.unusedSimpArgs false

/-- What the document's Take hands out, and leaves. -/
def RTook (lo r cap : Nat) (q : Option Addr) (c : Nat) (d : List MK) (e : Ending) (w' : World) : Prop :=
  match d with
  | [] => e = .returned (.tuple #[zM, .bool false]) ∧ RefAt lo w' r cap q c []
  | y :: t => e = .returned (.tuple #[mV y.m y.ka y.kc y.fa y.fc, .bool true]) ∧ ∃ q' c', RefAt lo w' r cap q' c' t
theorem RQ.tail {lo cap : Nat} {w : World} {q : Option Addr} {y : MK} {t : List MK} (h : RQ lo w q cap (y :: t)) : ∃ g off, q = some ⟨g, off, none⟩ ∧ Blk w g 30 ∧ t.length + 1 ≤ cap ∧ (w.cell? ⟨g, off, none⟩ = some (.int .i64 y.m.id) ∧ w.cell? ⟨g, off + 1, none⟩ = some (.string (S y.m.chan)) ∧ w.cell? ⟨g, off + 2, none⟩ = some (.slice y.ka y.m.key.length y.kc) ∧ w.cell? ⟨g, off + 3, none⟩ = some (.slice y.fa y.m.fields.length y.fc)) ∧ RQ lo w (some ⟨g, off + 4, none⟩) (cap - 1) t ∧ RQ lo w (some ⟨g, off, none⟩) 0 [] := by
  rcases h.row with ⟨_, h0, _⟩ | ⟨g, off, cs, rfl, hlo, hg, hl, hs, hc⟩
  · cases h0
  · simp only [List.length_cons] at hl
    have hd : dM (y :: t) = y.cells ++ dM t := by simp [dM]
    have h00 : RQ lo w (some ⟨g, off, none⟩) 0 [] := ⟨.inr ⟨g, off, cs, rfl, hlo, hg, Nat.le_refl _, by omega, fun j u hu => by simp [dM] at hu⟩⟩
    refine ⟨g, off, rfl, ⟨cs, hg⟩, hl, ⟨hc 0 _ (by rw [hd]; rfl), hc 1 _ (by rw [hd]; rfl), hc 2 _ (by rw [hd]; rfl), hc 3 _ (by rw [hd]; rfl)⟩, ⟨.inr ⟨g, off + 4, cs, rfl, hlo, hg, by omega, by omega, fun j u hu => ?_⟩⟩, h00⟩
    have := hc (4 + j) u (by rw [hd, List.getElem?_append_right (by simp [MK.cells])]; simpa [MK.cells] using hu)
    rwa [← Nat.add_assoc] at this

theorem RQ.but {lo cap : Nat} {w w' : World} {q : Option Addr} {d : List MK} (h : RQ lo w q cap d) (H : Nat) (hq : ∀ o, q ≠ some ⟨H, o, none⟩) (k : ∀ j, j ≠ H → w'.heap[j]? = w.heap[j]?) : RQ lo w' q cap d := by
  rcases h.row with h | ⟨g, off, cs, e, hlo, hg, h1, h2, h3⟩
  · exact ⟨.inl h⟩
  · have hk := k g (fun e2 => hq off (by rw [e, e2]))
    exact ⟨.inr ⟨g, off, cs, e, hlo, hk.trans hg, h1, h2, fun j u hu => by rw [← h3 j u hu]; unfold World.cell?; simp only [hk]⟩⟩
theorem Chg.bput {r g : Nat} {q : Option Addr} {w w1 : World} (h : Chg r q w w1) (hg : w.heap.size ≤ g) (x y z u : Value) : Chg r q w (bput w1 g x y z u) :=
  ⟨h.os, h.tape, h.output, by rw [bput_size]; exact h.size, fun k hk h1 h2 => (bput_other (by omega) _ _ _ _).trans (h.block k hk h1 h2)⟩
theorem RefAt.but {lo r cap c : Nat} {w w' : World} {q : Option Addr} {d : List MK} (h : RefAt lo w r cap q c d) (H : Nat) (hr : r ≠ H) (hq : ∀ o, q ≠ some ⟨H, o, none⟩) (k : ∀ j, j ≠ H → w'.heap[j]? = w.heap[j]?) : RefAt lo w' r cap q c d :=
  ⟨(k r hr).trans h.box, h.row.but H hq k, h.gr⟩

set_option maxRecDepth 100000 in
set_option maxHeartbeats 4000000 in
theorem refTake_any {lo r cap c : Nat} {w : World} {q : Option Addr} {d : List MK} (h : RefAt lo w r cap q c d) (hn : d.length ≤ 1000) :
    Calls Try.prog 11 #[.pointer (some ⟨r, 0, none⟩)] w fun e w' => RTook lo r cap q c d e w' ∧ Chg r q w w' := by
  have k1 := (Below.refl w.heap.size w).alloc (Nat.le_refl _) (.cells #[.int .i64 0, .string ⟨#[]⟩, .slice none 0 0, .slice none 0 0] 30)
  have h1 : BM (w.alloc (.cells #[.int .i64 0, .string ⟨#[]⟩, .slice none 0 0, .slice none 0 0] 30)) w.heap.size _ _ _ _ := heap_alloc_new w _
  have r1 := h.below k1
  have hne : w.heap.size ≠ r := fun e => by have := h.lt; omega
  obtain ⟨Pst, hPst⟩ : ∃ Pst : Ending → World → Prop, Pst = fun e w' => RTook lo r cap q c d e w' ∧ Chg r q w w' := ⟨_, rfl⟩
  rw [← hPst]
  have HP := Lib.hid hPst
  have K1 := Lib.hid k1
  have R1 := Lib.hid r1
  have H1 := Lib.hid h1
  have c0 := r1.c0
  have hni : (d.length : Int) ≤ 1000 := by omega
  obtain ⟨W1, hW1⟩ : ∃ W1, W1 = w.alloc (.cells #[.int .i64 0, .string ⟨#[]⟩, .slice none 0 0, .slice none 0 0] 30) := ⟨_, rfl⟩
  have HW1 := Lib.hid hW1
  rw [← hW1] at K1 R1 H1
  clear hPst k1
  cases d with
  | nil =>
    have z0 := h1.c0
    have z1 := h1.c1
    have z2 := h1.c2
    have z3 := h1.c3
    have f0 := h1.fz 0
    have f1 := h1.fz 1
    have f2 := h1.fz 2
    have f3 := h1.fz 3
    simp only [List.length_nil] at c0
    clear hW1 h1 r1 h
    go_enter Try.func11, Try.ntmps11
    go_wp2_with fail
    rw [← HW1.out]
    refine bodyPost_ret (v := .tuple #[zM, .bool false]) (res_bm2 rfl _ _ w.heap.size _ _ _ _ _ rfl H1.out rfl) rfl ?_
    rw [HP.out]
    exact ⟨⟨rfl, R1.out⟩, Chg.of_below K1.out⟩
  | cons y t =>
    obtain ⟨g, off, rfl, hgb, htc, ⟨d0, d1, d2, d3⟩, htl, ht0⟩ := h.row.tail
    have ka := (Below.refl w.heap.size w).alloc (Nat.le_refl _) (.cells #[.int .i64 0, .string ⟨#[]⟩, .slice none 0 0, .slice none 0 0] 30)
    have e0 := (ka.cell (p := ⟨g, off, none⟩) hgb.lt).trans d0
    have e1 := (ka.cell (p := ⟨g, off + 1, none⟩) hgb.lt).trans d1
    have e2 := (ka.cell (p := ⟨g, off + 2, none⟩) hgb.lt).trans d2
    have e3 := (ka.cell (p := ⟨g, off + 3, none⟩) hgb.lt).trans d3
    have HGN := Lib.hid (show g ≠ w.heap.size from fun e => by have := hgb.lt; omega)
    clear d0 d1 d2 d3 ka
    simp only [List.length_cons] at c0 hni
    have htc1 : t.length ≤ c - 1 := by omega
    have kr : ∀ o, RefAt lo ((w.alloc (.cells #[.int .i64 0, .string ⟨#[]⟩, .slice none 0 0, .slice none 0 0] 30)).alloc o) r cap (some ⟨g, off, none⟩) c (y :: t) := fun o => r1.below ((Below.refl (w.alloc (.cells #[.int .i64 0, .string ⟨#[]⟩, .slice none 0 0, .slice none 0 0] 30)).heap.size (w.alloc (.cells #[.int .i64 0, .string ⟨#[]⟩, .slice none 0 0, .slice none 0 0] 30))).alloc (Nat.le_refl _) o)
    have kh : ∀ o, BM ((w.alloc (.cells #[.int .i64 0, .string ⟨#[]⟩, .slice none 0 0, .slice none 0 0] 30)).alloc o) w.heap.size _ _ _ _ := fun o => h1.below ((Below.refl (w.alloc (.cells #[.int .i64 0, .string ⟨#[]⟩, .slice none 0 0, .slice none 0 0] 30)).heap.size (w.alloc (.cells #[.int .i64 0, .string ⟨#[]⟩, .slice none 0 0, .slice none 0 0] 30))).alloc (Nat.le_refl _) o)
    have p0 := fun o => (kr o).c0
    simp only [List.length_cons] at p0
    have pf := fun o => (kr o).fz 0
    have h3 : BM ((w.alloc (.cells #[.int .i64 0, .string ⟨#[]⟩, .slice none 0 0, .slice none 0 0] 30)).alloc (.cells #[.int .i64 y.m.id, .string (S y.m.chan), .slice y.ka y.m.key.length y.kc, .slice y.fa y.m.fields.length y.fc] 30)) (w.alloc (.cells #[.int .i64 0, .string ⟨#[]⟩, .slice none 0 0, .slice none 0 0] 30)).heap.size _ _ _ _ := heap_alloc_new _ _
    rw [show (w.alloc (.cells #[.int .i64 0, .string ⟨#[]⟩, .slice none 0 0, .slice none 0 0] 30)).heap.size = w.heap.size + 1 by simp] at h3
    have hne2 : w.heap.size + 1 ≠ r := fun e => by have := h.lt; omega
    have kk := fun v => h3.other (g := r) (o := 0) (v := v) hne2
    have kz := fun v => (kh (.cells #[.int .i64 y.m.id, .string (S y.m.chan), .slice y.ka y.m.key.length y.kc, .slice y.fa y.m.fields.length y.fc] 30)).other (g := r) (o := 0) (v := v) hne
    have y0 := fun v => (kk v).c0
    have y1 := fun v => (kk v).c1
    have y2 := fun v => (kk v).c2
    have y3 := fun v => (kk v).c3
    have z0 := fun v => (kz v).c0
    have z1 := fun v => (kz v).c1
    have z2 := fun v => (kz v).c2
    have z3 := fun v => (kz v).c3
    have f0 := fun v => (kz v).fz 0
    have f1 := fun v => (kz v).fz 1
    have f2 := fun v => (kz v).fz 2
    have f3 := fun v => (kz v).fz 3
    have KZ := Lib.hid kz
    have KR := Lib.hid (kr (.cells #[.int .i64 y.m.id, .string (S y.m.chan), .slice y.ka y.m.key.length y.kc, .slice y.fa y.m.fields.length y.fc] 30))
    have HTL := Lib.hid htl
    have HT0 := Lib.hid ht0
    have HGR := Lib.hid h.gr
    have H0 := Lib.hid h
    have HNE := Lib.hid hne
    have K3 := Lib.hid (Below.alloc ((Below.refl w.heap.size w).alloc (Nat.le_refl _) (.cells #[.int .i64 0, .string ⟨#[]⟩, .slice none 0 0, .slice none 0 0] 30)) (by simp) (.cells #[.int .i64 y.m.id, .string (S y.m.chan), .slice y.ka y.m.key.length y.kc, .slice y.fa y.m.fields.length y.fc] 30))
    clear ht0 hW1 h1 r1 h kr kh h3 kk kz htl hne hne2 hgb K1 R1 H1 HW1 W1
    go_enter Try.func11, Try.ntmps11
    go_wp2_with fail
    · have ht : t = [] := List.eq_nil_of_length_eq_zero (by omega)
      subst ht
      refine bodyPost_ret (v := .tuple #[mV y.m y.ka y.kc y.fa y.fc, .bool true]) (res_bm2 rfl _ _ w.heap.size _ _ _ _ _ rfl ((KZ.out _).put _ _ _ _) rfl) rfl ?_
      rw [HP.out]
      exact ⟨⟨rfl, _, _, (RefAt.store (KR.out.box) HGR.out (HT0.out.below K3.out)).but w.heap.size HNE.out.symm (fun o e => by injection e with e; injection e with e; exact HGN.out e) fun j hj => bput_other hj _ _ _ _⟩, ((Chg.of_below K3.out).set _ _).bput (Nat.le_refl _) _ _ _ _⟩
    · refine bodyPost_ret (v := .tuple #[mV y.m y.ka y.kc y.fa y.fc, .bool true]) (res_bm2 rfl _ _ w.heap.size _ _ _ _ _ rfl ((KZ.out _).put _ _ _ _) rfl) rfl ?_
      rw [HP.out]
      exact ⟨⟨rfl, _, _, (RefAt.store (KR.out.box) HGR.out (HTL.out.below K3.out)).but w.heap.size HNE.out.symm (fun o e => by injection e with e; injection e with e; exact HGN.out e) fun j hj => bput_other hj _ _ _ _⟩, ((Chg.of_below K3.out).set _ _).bput (Nat.le_refl _) _ _ _ _⟩

end Go.Proofs.Ytfkmpegbidojoaa.Md
