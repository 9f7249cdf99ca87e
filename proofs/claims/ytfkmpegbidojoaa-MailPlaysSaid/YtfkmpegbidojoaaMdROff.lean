/-
  The document's Offer and Take.
-/
import Derived.Test.YtfkmpegbidojoaaMdRBox
import Derived.Test.YtfkmpegbidojoaaUntil
import Derived.Test.YtfkmpegbidojoaaMdTake
namespace Go.Proofs.Ytfkmpegbidojoaa.Md
open Go.RowKit
open Va
set_option linter.unusedVariables false
set_option linter.unusedSimpArgs false

theorem oper_apM {P : Program} {o : Oper} {a : Act} {w : World} {K : Act → World → Prop} {Q : Exit → Act → World → Prop} (s x : Operand) (t u : TypeId)
    (ho : o.op = .call { callee := .builtin .append, args := #[s, x], argTypes := #[t, u] }) {v vx : Value} (hs : a.eval s = v) (hx : a.eval x = vx) (v' : Value) (w' : World)
    (hr : (Builtin.append_ #[t, u] o.type #[v, vx]).run P w = .ok v' w') (h : K (a.put o.dst v') w') : Oper.wp P o a w K Q := by
  unfold Oper.wp execOp
  simp only [ho, resolve, invoke, builtin, Sem.run_bind, Sem.run_pure, Result.andThen_ok, List.map_toArray, List.map_cons, List.map_nil, hs, hx, hr]
  exact h
theorem rowM_one (w : World) (y : MK) : ∀ j u, (dM [y])[j]? = some u → (w.alloc (.cells #[.int .i64 y.m.id, .string (S y.m.chan), .slice y.ka y.m.key.length y.kc, .slice y.fa y.m.fields.length y.fc] 30)).cell? ⟨w.heap.size, 0 + j, none⟩ = some u := fun j u hj => by
  rw [Nat.zero_add, cell_of_row _ w.heap.size j _ _ (0, 0) (heap_alloc_new w _)]
  simpa [dM, MK.cells] using hj
/-- What the document's Offer does. -/
def ROff (lo r cap : Nat) (d : List MK) (y : MK) (e : Ending) (w' : World) : Prop :=
  ∃ q' c' d', e = .returned (.bool (decide (d.length < cap))) ∧ RefAt lo w' r cap q' c' d' ∧ d' = (if d.length < cap then d ++ [y] else d)
theorem RefAt.store {lo r cap : Nat} {q' : Option Addr} {d' : List MK} {c' : Nat} {w1 : World} {x : Value} (hb : w1.heap[r]? = some (.cells #[x, .int .i64 cap] 41 (0, 0))) (hr : lo ≤ r) (hq : RQ lo w1 q' c' d') : RefAt lo (w1.setCell ⟨r, 0, none⟩ (.slice q' d'.length c')) r cap q' c' d' :=
  ⟨heap_setCell_same w1 r 0 _ _ _ hb, hq.agree fun b _ hb2 => Below.heap_setCell _ _ _ _ (hb2.apart ⟨_, hb⟩ (by decide)), hr⟩
theorem Chg.set {r : Nat} {q : Option Addr} {w w' : World} (h : Chg r q w w') (o : Nat) (v : Value) : Chg r q w (w'.setCell ⟨r, o, none⟩ v) :=
  ⟨h.os, h.tape, h.output, by simpa [World.setCell] using h.size, fun k hk h1 h2 => (Below.heap_setCell _ _ _ _ h1).trans (h.block k hk h1 h2)⟩

set_option maxRecDepth 100000 in
set_option maxHeartbeats 4000000 in
theorem refOffer_any {lo r cap c : Nat} {w : World} {q : Option Addr} {d : List MK} (h : RefAt lo w r cap q c d) (hlo : lo ≤ w.heap.size) (hn : d.length ≤ 1000) (hcap : cap ≤ 4096) (m : MailP) (ka : Option Addr) (kc : Nat) (fa : Option Addr) (fc : Nat) :
    Calls Try.prog 16 #[.pointer (some ⟨r, 0, none⟩), .agg #[.int .i64 m.id, .string (S m.chan), .slice ka m.key.length kc, .slice fa m.fields.length fc]] w fun e w' => ROff lo r cap d ⟨m, ka, kc, fa, fc⟩ e w' ∧ Chg r q w w' := by
  have k0 := (Below.refl w.heap.size w).alloc (Nat.le_refl _) (.cells #[.int .i64 m.id, .string (S m.chan), .slice ka m.key.length kc, .slice fa m.fields.length fc] 30)
  have h0 : BM (w.alloc (.cells #[.int .i64 m.id, .string (S m.chan), .slice ka m.key.length kc, .slice fa m.fields.length fc] 30)) w.heap.size (.int .i64 m.id) (.string (S m.chan)) (.slice ka m.key.length kc) (.slice fa m.fields.length fc) := heap_alloc_new w _
  have r0 := h.below k0
  obtain ⟨W1, hW1⟩ : ∃ W1, W1 = w.alloc (.cells #[.int .i64 m.id, .string (S m.chan), .slice ka m.key.length kc, .slice fa m.fields.length fc] 30) := ⟨_, rfl⟩
  have HW1 := Lib.hid hW1
  rw [← hW1] at k0 h0 r0
  have kd : Below W1.heap.size W1 W1.drew := ⟨rfl, rfl, rfl, Nat.le_refl _, fun _ _ => rfl⟩
  have k2 := k0.trans (kd.mono k0.size)
  obtain ⟨W2, hW2⟩ : ∃ W2, W2 = W1.drew := ⟨_, rfl⟩
  have HW2 := Lib.hid hW2
  have h2 := h0.below kd
  have r2 := r0.below kd
  rw [← hW2] at k2 h2 r2
  have HS : Hid (W2.cell? ⟨r, 0, none⟩ = some (.slice q d.length c) ∧ W2.cell? ⟨r, 1, none⟩ = some (.int .i64 cap)) := Lib.hid ⟨r2.c0, r2.c1⟩
  rw [hW2] at HS
  have H2 := Lib.hid h2
  have R2 := Lib.hid r2
  have K2 := Lib.hid k2
  have HLO := Lib.hid (Nat.le_trans hlo k2.size)
  obtain ⟨Pst, hPst⟩ : ∃ Pst : Ending → World → Prop, Pst = fun e w' => ROff lo r cap d ⟨m, ka, kc, fa, fc⟩ e w' ∧ Chg r q w w' := ⟨_, rfl⟩
  rw [← hPst]
  have HP := Lib.hid hPst
  have hni : (d.length : Int) ≤ 1000 := by omega
  have hci : (cap : Int) ≤ 4096 := by omega
  clear k0 h0 r0 kd k2 hW1 hW2 h2 r2 h hlo hPst
  go_enter Try.func16, Try.ntmps16
  go_wp2_with fail
  rw [← HW1.out]
  by_cases hlt : d.length < cap
  · have hli : (d.length : Int) < (cap : Int) := by omega
    refine wp_region_held_drew (S := (fun w7 => w7.cell? ⟨r, 0, none⟩ = some (.slice q d.length c) ∧ w7.cell? ⟨r, 1, none⟩ = some (.int .i64 cap))) (by kernel_rfl) (by (try dsimp only); exact HS.out) (fun hHeld => ?_)
    refine takeW (v := ?_) 0 (by decide +kernel) (by decide +kernel) (by kernel_rfl) (by simp only [List.getElem?_toArray, List.getElem?_cons_succ, List.getElem?_cons_zero]; rfl) (by rfl) (by exact fun _ _ _ h => h) (by assumption) ?_ ?_
    rotate_left 1
    focus (intro w8 hSw; (try dsimp only at hSw); obtain ⟨s80, s81⟩ := hSw; go_simp; (try with_reducible rfl); done)
    try simp only [Act.put, List.setIfInBounds_toArray, List.set_cons_zero, List.set_cons_succ]
    refine takeW (v := ?_) 1 (by decide +kernel) (by decide +kernel) (by kernel_rfl) (by simp only [List.getElem?_toArray, List.getElem?_cons_succ, List.getElem?_cons_zero]; rfl) (by rfl) (by exact fun _ _ _ h => h) (by assumption) ?_ ?_
    rotate_left 1
    focus (intro w8 hSw; (try dsimp only at hSw); obtain ⟨s80, s81⟩ := hSw; go_simp; (try with_reducible rfl); done)
    try simp only [Act.put, List.setIfInBounds_toArray, List.set_cons_zero, List.set_cons_succ]
    refine takeW (v := ?_) 2 (by decide +kernel) (by decide +kernel) (by kernel_rfl) (by simp only [List.getElem?_toArray, List.getElem?_cons_succ, List.getElem?_cons_zero]; rfl) (by rfl) (by exact fun _ _ _ h => h) (by assumption) ?_ ?_
    rotate_left 1
    focus (intro w8 hSw; (try dsimp only at hSw); obtain ⟨s80, s81⟩ := hSw; go_simp; (try with_reducible rfl); done)
    try simp only [Act.put, List.setIfInBounds_toArray, List.set_cons_zero, List.set_cons_succ]
    refine takeW (v := ?_) 3 (by decide +kernel) (by decide +kernel) (by kernel_rfl) (by simp only [List.getElem?_toArray, List.getElem?_cons_succ, List.getElem?_cons_zero]; rfl) (by rfl) (by exact fun _ _ _ h => h) (by assumption) ?_ ?_
    rotate_left 1
    focus (intro w8 hSw; (try dsimp only at hSw); obtain ⟨s80, s81⟩ := hSw; go_simp; (try with_reducible rfl); done)
    try simp only [Act.put, List.setIfInBounds_toArray, List.set_cons_zero, List.set_cons_succ]
    refine takeW (v := ?_) 4 (by decide +kernel) (by decide +kernel) (by kernel_rfl) (by simp only [List.getElem?_toArray, List.getElem?_cons_succ, List.getElem?_cons_zero]; rfl) (by rfl) (by exact fun _ _ _ h => h) (by assumption) ?_ ?_
    rotate_left 1
    focus (intro w8 hSw; (try dsimp only at hSw); obtain ⟨s80, s81⟩ := hSw; go_simp; (try with_reducible rfl); done)
    try simp only [Act.put, List.setIfInBounds_toArray, List.set_cons_zero, List.set_cons_succ]
    refine takeW (v := ?_) 5 (by decide +kernel) (by decide +kernel) (by kernel_rfl) (by simp only [List.getElem?_toArray, List.getElem?_cons_succ, List.getElem?_cons_zero]; rfl) (by rfl) (by exact fun _ _ _ h => h) (by assumption) ?_ ?_
    rotate_left 1
    focus (intro w8 hSw; (try dsimp only at hSw); obtain ⟨s80, s81⟩ := hSw; go_simp; (try with_reducible rfl); done)
    try simp only [Act.put, List.setIfInBounds_toArray, List.set_cons_zero, List.set_cons_succ]
    refine takeW (v := ?_) 6 (by decide +kernel) (by decide +kernel) (by kernel_rfl) (by simp only [List.getElem?_toArray, List.getElem?_cons_succ, List.getElem?_cons_zero]; rfl) (by rfl) (by exact fun _ _ _ h => h) (by assumption) ?_ ?_
    rotate_left 1
    focus (intro w8 hSw; (try dsimp only at hSw); obtain ⟨s80, s81⟩ := hSw; go_simp; (try with_reducible rfl); done)
    try simp only [Act.put, List.setIfInBounds_toArray, List.set_cons_zero, List.set_cons_succ]
    refine takeW (v := ?_) 7 (by decide +kernel) (by decide +kernel) (by kernel_rfl) (by simp only [List.getElem?_toArray, List.getElem?_cons_succ, List.getElem?_cons_zero]; rfl) (by rfl) (by exact fun _ _ _ h => h) (by assumption) ?_ ?_
    rotate_left 1
    focus (intro w8 hSw; (try dsimp only at hSw); obtain ⟨s80, s81⟩ := hSw; go_simp; (try with_reducible rfl); done)
    try simp only [Act.put, List.setIfInBounds_toArray, List.set_cons_zero, List.set_cons_succ]
    refine takeW (v := ?_) 8 (by decide +kernel) (by decide +kernel) (by kernel_rfl) (by simp only [List.getElem?_toArray, List.getElem?_cons_succ, List.getElem?_cons_zero]; rfl) (by rfl) (by exact fun _ _ _ h => h) (by assumption) ?_ ?_
    rotate_left 1
    focus (intro w8 hSw; (try dsimp only at hSw); obtain ⟨s80, s81⟩ := hSw; go_simp; (try with_reducible rfl); done)
    try simp only [Act.put, List.setIfInBounds_toArray, List.set_cons_zero, List.set_cons_succ]
    refine takeW (v := .bool false) 9 (by decide +kernel) (by decide +kernel) (by kernel_rfl) (by simp only [List.getElem?_toArray, List.getElem?_cons_succ, List.getElem?_cons_zero]; rfl) (by rfl) (by exact fun _ _ _ h => h) (by assumption) ?_ ?_
    focus (intro w8 hSw; (try dsimp only at hSw); obtain ⟨s80, s81⟩ := hSw; go_simp; (try simp); (try omega))
    try simp only [Act.put, List.setIfInBounds_toArray, List.set_cons_zero, List.set_cons_succ]
    refine wpAnyH_done (by decide +kernel) ?_ _
    go_wp2_with fail
    rw [← HW2.out]
    have kd : Below W2.heap.size W2 W2.drew := ⟨rfl, rfl, rfl, Nat.le_refl _, fun _ _ => rfl⟩
    have k3 := K2.out.trans (kd.mono K2.out.size)
    have h3 := H2.out.below kd
    have r3 := R2.out.below kd
    have l3 := Nat.le_trans HLO.out kd.size
    obtain ⟨W3, hW3⟩ : ∃ W3, W3 = W2.drew := ⟨_, rfl⟩
    rw [← hW3] at kd k3 h3 r3 l3
    have HW3 := Lib.hid hW3
    clear kd
    have H3 := Lib.hid h3
    have R3 := Lib.hid r3
    have K3 := Lib.hid k3
    have L3 := Lib.hid l3
    have hS0 : W3.cell? ⟨r, 0, none⟩ = some (.slice q d.length c) ∧ W3.cell? ⟨w.heap.size, 0, none⟩ = some (.int .i64 m.id) ∧ W3.cell? ⟨w.heap.size, 1, none⟩ = some (.string (S m.chan)) ∧ W3.cell? ⟨w.heap.size, 2, none⟩ = some (.slice ka m.key.length kc) ∧ W3.cell? ⟨w.heap.size, 3, none⟩ = some (.slice fa m.fields.length fc) := ⟨r3.c0, h3.c0, h3.c1, h3.c2, h3.c3⟩
    have HKEEP := Lib.hid (fun W (k : Below W3.heap.size W3 W) => show W.cell? ⟨r, 0, none⟩ = some (.slice q d.length c) ∧ W.cell? ⟨w.heap.size, 0, none⟩ = some (.int .i64 m.id) ∧ W.cell? ⟨w.heap.size, 1, none⟩ = some (.string (S m.chan)) ∧ W.cell? ⟨w.heap.size, 2, none⟩ = some (.slice ka m.key.length kc) ∧ W.cell? ⟨w.heap.size, 3, none⟩ = some (.slice fa m.fields.length fc) from ⟨(R3.out.below k).c0, (H3.out.below k).c0, (H3.out.below k).c1, (H3.out.below k).c2, (H3.out.below k).c3⟩)
    rw [hW3] at hS0
    clear h3 r3 k3 l3 hW3
    refine Cd.until_start 7 (fun w7 => w7.cell? ⟨r, 0, none⟩ = some (.slice q d.length c) ∧ w7.cell? ⟨w.heap.size, 0, none⟩ = some (.int .i64 m.id) ∧ w7.cell? ⟨w.heap.size, 1, none⟩ = some (.string (S m.chan)) ∧ w7.cell? ⟨w.heap.size, 2, none⟩ = some (.slice ka m.key.length kc) ∧ w7.cell? ⟨w.heap.size, 3, none⟩ = some (.slice fa m.fields.length fc)) (by kernel_rfl) ?_
    refine Cd.untilT (v := ?_) 0 (by decide +kernel) (by decide +kernel) (by decide +kernel) (by kernel_rfl) (by simp only [List.getElem?_toArray, List.getElem?_cons_succ, List.getElem?_cons_zero]; rfl) (by rfl) (by exact fun _ _ _ h => h) (by first | exact fun _ => hS0 | exact fun h => absurd h (by decide +kernel)) ?_ ?_
    rotate_left 1
    focus (intro w8; go_simp; (try with_reducible rfl); done)
    try simp only [Act.put, List.setIfInBounds_toArray, List.set_cons_zero, List.set_cons_succ]
    refine Cd.untilT (v := ?_) 1 (by decide +kernel) (by decide +kernel) (by decide +kernel) (by kernel_rfl) (by simp only [List.getElem?_toArray, List.getElem?_cons_succ, List.getElem?_cons_zero]; rfl) (by rfl) (by exact fun _ _ _ h => h) (by first | exact fun _ => hS0 | exact fun h => absurd h (by decide +kernel)) ?_ ?_
    rotate_left 1
    focus (intro w8; go_simp; (try with_reducible rfl); done)
    try simp only [Act.put, List.setIfInBounds_toArray, List.set_cons_zero, List.set_cons_succ]
    refine Cd.untilT (v := ?_) 2 (by decide +kernel) (by decide +kernel) (by decide +kernel) (by kernel_rfl) (by simp only [List.getElem?_toArray, List.getElem?_cons_succ, List.getElem?_cons_zero]; rfl) (by rfl) (by exact fun _ _ _ h => h) (by first | exact fun _ => hS0 | exact fun h => absurd h (by decide +kernel)) ?_ ?_
    rotate_left 1
    focus (intro w8; go_simp; (try with_reducible rfl); done)
    try simp only [Act.put, List.setIfInBounds_toArray, List.set_cons_zero, List.set_cons_succ]
    refine Cd.untilT (v := ?_) 3 (by decide +kernel) (by decide +kernel) (by decide +kernel) (by kernel_rfl) (by simp only [List.getElem?_toArray, List.getElem?_cons_succ, List.getElem?_cons_zero]; rfl) (by rfl) (by exact fun _ _ _ h => h) (by first | exact fun _ => hS0 | exact fun h => absurd h (by decide +kernel)) ?_ ?_
    rotate_left 1
    focus (intro w8; go_simp; (try with_reducible rfl); done)
    try simp only [Act.put, List.setIfInBounds_toArray, List.set_cons_zero, List.set_cons_succ]
    refine Cd.untilW (v := ?_) 4 [7] (by decide) (by decide +kernel) (by decide +kernel) (by decide +kernel) (by decide +kernel) (by kernel_rfl) (by simp only [List.getElem?_toArray, List.getElem?_cons_succ, List.getElem?_cons_zero]; rfl) (by rfl) (by exact fun _ _ _ h => h) (by exact hS0) ?_ ?_
    rotate_left 1
    focus (intro w8 hSw; (try dsimp only at hSw); (try obtain ⟨hSa, hSb⟩ := hSw); go_simp; (try with_reducible rfl); done)
    try simp only [Act.put, List.setIfInBounds_toArray, List.set_cons_zero, List.set_cons_succ]
    refine Cd.untilW (v := ?_) 5 [6, 7] (by decide) (by decide +kernel) (by decide +kernel) (by decide +kernel) (by decide +kernel) (by kernel_rfl) (by simp only [List.getElem?_toArray, List.getElem?_cons_succ, List.getElem?_cons_zero]; rfl) (by rfl) (by exact fun _ _ _ h => h) (by exact hS0) ?_ ?_
    rotate_left 1
    focus (intro w8 hSw; (try dsimp only at hSw); (try obtain ⟨hSa, hSb⟩ := hSw); go_simp; (try with_reducible rfl); done)
    try simp only [Act.put, List.setIfInBounds_toArray, List.set_cons_zero, List.set_cons_succ]
    rw [← HW3.out] at hS0 ⊢
    refine Cd.until_one (i := 6) (by decide +kernel) (by simp only [List.getElem?_toArray, List.getElem?_cons_succ, List.getElem?_cons_zero]; rfl) ?_
    intro K hK
    go_simp
    clear hS0
    have k4 := (Below.refl W3.heap.size W3).alloc (Nat.le_refl _) (.cells #[.int .i64 m.id, .string (S m.chan), .slice ka m.key.length kc, .slice fa m.fields.length fc] 30)
    have hS0 := HKEEP.out _ k4
    refine hK.out _ _ (by first | exact fun _ => hS0 | exact fun h => absurd h (by decide +kernel)) ?_
    try simp only [Act.put, List.setIfInBounds_toArray, List.set_cons_zero, List.set_cons_succ]
    clear hK K
    have r4 := R3.out.below k4
    obtain ⟨q', c', w5, hrun, hq5, g5⟩ := r4.row.app (r := (W3.alloc (.cells #[.int .i64 m.id, .string (S m.chan), .slice ka m.key.length kc, .slice fa m.fields.length fc] 30)).heap.size) (Nat.le_trans L3.out k4.size) (by omega) ⟨m, ka, kc, fa, fc⟩ W3.heap.size (rowM_one W3 ⟨m, ka, kc, fa, fc⟩)
    have g4 : Chg r q w (W3.alloc (.cells #[.int .i64 m.id, .string (S m.chan), .slice ka m.key.length kc, .slice fa m.fields.length fc] 30)) := Chg.of_below (K3.out.trans (k4.mono K3.out.size))
    have hr5 := (g5.block r r4.lt (by have := r4.lt; omega) (r4.row.ne fun hb => r4.blk.apart hb (by decide) rfl)).trans r4.box
    have g5' : Chg r q (W3.alloc (.cells #[.int .i64 m.id, .string (S m.chan), .slice ka m.key.length kc, .slice fa m.fields.length fc] 30)) w5 := ⟨g5.os, g5.tape, g5.output, g5.size, fun k hk _ h2 => g5.block k hk (by omega) h2⟩
    have G5 := Lib.hid (g4.trans g5')
    obtain ⟨D, hD⟩ : ∃ D, D = d ++ [(⟨m, ka, kc, fa, fc⟩ : MK)] := ⟨_, rfl⟩
    have hDl : D.length = d.length + 1 := by rw [hD]; simp
    rw [← hD] at hq5
    rw [← hDl] at hrun
    have HD := Lib.hid hD
    have Q5 := Lib.hid hq5
    have HB5 := Lib.hid hr5
    have c05 := cell_of_row w5 r 0 _ _ (0, 0) hr5
    have f05 := frozen_of_row w5 r 0 _ _ hr5
    clear r4 k4 g4 g5 g5' hq5 hr5 hDl hD hS0
    refine Cd.until_one (i := 7) (by decide +kernel) (by simp only [List.getElem?_toArray, List.getElem?_cons_succ, List.getElem?_cons_zero]; rfl) ?_
    intro K hK
    rw [if_pos (by rfl)]
    refine oper_apM _ _ _ _ rfl rfl rfl _ _ hrun ?_
    refine hK.out _ _ (fun h => absurd h (by decide +kernel)) ?_
    try simp only [Act.put, List.setIfInBounds_toArray, List.set_cons_zero, List.set_cons_succ]
    clear hK K hrun
    refine Cd.until_one (i := 8) (by decide +kernel) (by simp only [List.getElem?_toArray, List.getElem?_cons_succ, List.getElem?_cons_zero]; rfl) ?_
    intro K hK
    go_simp
    refine hK.out _ _ (fun h => absurd h (by decide +kernel)) ?_
    try simp only [Act.put, List.setIfInBounds_toArray, List.set_cons_zero, List.set_cons_succ]
    clear hK K
    refine Cd.until_one (i := 9) (by decide +kernel) (by simp only [List.getElem?_toArray, List.getElem?_cons_succ, List.getElem?_cons_zero]; rfl) ?_
    intro K hK
    go_simp
    refine hK.out _ _ (fun h => absurd h (by decide +kernel)) ?_
    try simp only [Act.put, List.setIfInBounds_toArray, List.set_cons_zero, List.set_cons_succ]
    clear hK K
    refine Cd.until_one (i := 10) (by decide +kernel) (by simp only [List.getElem?_toArray, List.getElem?_cons_succ, List.getElem?_cons_zero]; rfl) ?_
    intro K hK
    go_simp
    refine hK.out _ _ (fun h => absurd h (by decide +kernel)) ?_
    try simp only [Act.put, List.setIfInBounds_toArray, List.set_cons_zero, List.set_cons_succ]
    clear hK K c05 f05
    refine Cd.until_done (by decide +kernel) ?_ _
    go_wp2_with fail
    rw [HP.out]
    exact ⟨⟨q', c', D, by simp [hlt], RefAt.store HB5.out R3.out.gr Q5.out, by rw [if_pos hlt]; exact HD.out⟩, G5.out.set _ _⟩
  · have hli : (cap : Int) ≤ (d.length : Int) := by omega
    refine wp_region_held_drew (S := (fun w7 => w7.cell? ⟨r, 0, none⟩ = some (.slice q d.length c) ∧ w7.cell? ⟨r, 1, none⟩ = some (.int .i64 cap))) (by kernel_rfl) (by (try dsimp only); exact HS.out) (fun hHeld => ?_)
    refine takeW (v := ?_) 0 (by decide +kernel) (by decide +kernel) (by kernel_rfl) (by simp only [List.getElem?_toArray, List.getElem?_cons_succ, List.getElem?_cons_zero]; rfl) (by rfl) (by exact fun _ _ _ h => h) (by assumption) ?_ ?_
    rotate_left 1
    focus (intro w8 hSw; (try dsimp only at hSw); obtain ⟨s80, s81⟩ := hSw; go_simp; (try with_reducible rfl); done)
    try simp only [Act.put, List.setIfInBounds_toArray, List.set_cons_zero, List.set_cons_succ]
    refine takeW (v := ?_) 1 (by decide +kernel) (by decide +kernel) (by kernel_rfl) (by simp only [List.getElem?_toArray, List.getElem?_cons_succ, List.getElem?_cons_zero]; rfl) (by rfl) (by exact fun _ _ _ h => h) (by assumption) ?_ ?_
    rotate_left 1
    focus (intro w8 hSw; (try dsimp only at hSw); obtain ⟨s80, s81⟩ := hSw; go_simp; (try with_reducible rfl); done)
    try simp only [Act.put, List.setIfInBounds_toArray, List.set_cons_zero, List.set_cons_succ]
    refine takeW (v := ?_) 2 (by decide +kernel) (by decide +kernel) (by kernel_rfl) (by simp only [List.getElem?_toArray, List.getElem?_cons_succ, List.getElem?_cons_zero]; rfl) (by rfl) (by exact fun _ _ _ h => h) (by assumption) ?_ ?_
    rotate_left 1
    focus (intro w8 hSw; (try dsimp only at hSw); obtain ⟨s80, s81⟩ := hSw; go_simp; (try with_reducible rfl); done)
    try simp only [Act.put, List.setIfInBounds_toArray, List.set_cons_zero, List.set_cons_succ]
    refine takeW (v := ?_) 3 (by decide +kernel) (by decide +kernel) (by kernel_rfl) (by simp only [List.getElem?_toArray, List.getElem?_cons_succ, List.getElem?_cons_zero]; rfl) (by rfl) (by exact fun _ _ _ h => h) (by assumption) ?_ ?_
    rotate_left 1
    focus (intro w8 hSw; (try dsimp only at hSw); obtain ⟨s80, s81⟩ := hSw; go_simp; (try with_reducible rfl); done)
    try simp only [Act.put, List.setIfInBounds_toArray, List.set_cons_zero, List.set_cons_succ]
    refine takeW (v := ?_) 4 (by decide +kernel) (by decide +kernel) (by kernel_rfl) (by simp only [List.getElem?_toArray, List.getElem?_cons_succ, List.getElem?_cons_zero]; rfl) (by rfl) (by exact fun _ _ _ h => h) (by assumption) ?_ ?_
    rotate_left 1
    focus (intro w8 hSw; (try dsimp only at hSw); obtain ⟨s80, s81⟩ := hSw; go_simp; (try with_reducible rfl); done)
    try simp only [Act.put, List.setIfInBounds_toArray, List.set_cons_zero, List.set_cons_succ]
    refine takeW (v := ?_) 5 (by decide +kernel) (by decide +kernel) (by kernel_rfl) (by simp only [List.getElem?_toArray, List.getElem?_cons_succ, List.getElem?_cons_zero]; rfl) (by rfl) (by exact fun _ _ _ h => h) (by assumption) ?_ ?_
    rotate_left 1
    focus (intro w8 hSw; (try dsimp only at hSw); obtain ⟨s80, s81⟩ := hSw; go_simp; (try with_reducible rfl); done)
    try simp only [Act.put, List.setIfInBounds_toArray, List.set_cons_zero, List.set_cons_succ]
    refine takeW (v := ?_) 6 (by decide +kernel) (by decide +kernel) (by kernel_rfl) (by simp only [List.getElem?_toArray, List.getElem?_cons_succ, List.getElem?_cons_zero]; rfl) (by rfl) (by exact fun _ _ _ h => h) (by assumption) ?_ ?_
    rotate_left 1
    focus (intro w8 hSw; (try dsimp only at hSw); obtain ⟨s80, s81⟩ := hSw; go_simp; (try with_reducible rfl); done)
    try simp only [Act.put, List.setIfInBounds_toArray, List.set_cons_zero, List.set_cons_succ]
    refine takeW (v := ?_) 7 (by decide +kernel) (by decide +kernel) (by kernel_rfl) (by simp only [List.getElem?_toArray, List.getElem?_cons_succ, List.getElem?_cons_zero]; rfl) (by rfl) (by exact fun _ _ _ h => h) (by assumption) ?_ ?_
    rotate_left 1
    focus (intro w8 hSw; (try dsimp only at hSw); obtain ⟨s80, s81⟩ := hSw; go_simp; (try with_reducible rfl); done)
    try simp only [Act.put, List.setIfInBounds_toArray, List.set_cons_zero, List.set_cons_succ]
    refine takeW (v := ?_) 8 (by decide +kernel) (by decide +kernel) (by kernel_rfl) (by simp only [List.getElem?_toArray, List.getElem?_cons_succ, List.getElem?_cons_zero]; rfl) (by rfl) (by exact fun _ _ _ h => h) (by assumption) ?_ ?_
    rotate_left 1
    focus (intro w8 hSw; (try dsimp only at hSw); obtain ⟨s80, s81⟩ := hSw; go_simp; (try with_reducible rfl); done)
    try simp only [Act.put, List.setIfInBounds_toArray, List.set_cons_zero, List.set_cons_succ]
    refine takeW (v := .bool true) 9 (by decide +kernel) (by decide +kernel) (by kernel_rfl) (by simp only [List.getElem?_toArray, List.getElem?_cons_succ, List.getElem?_cons_zero]; rfl) (by rfl) (by exact fun _ _ _ h => h) (by assumption) ?_ ?_
    focus (intro w8 hSw; (try dsimp only at hSw); obtain ⟨s80, s81⟩ := hSw; go_simp; (try simp); (try omega))
    try simp only [Act.put, List.setIfInBounds_toArray, List.set_cons_zero, List.set_cons_succ]
    refine wpAnyH_done (by decide +kernel) ?_ _
    go_wp2_with fail
    rw [← HW2.out]
    rw [HP.out]
    exact ⟨⟨q, c, d, by simp [hlt], R2.out, by rw [if_neg hlt]⟩, Chg.of_below K2.out⟩

end Go.Proofs.Ytfkmpegbidojoaa.Md
