/-
  The document's own Put of dead letters.
-/
import Derived.Test.YtfkmpegbidojoaaMdRef
namespace Go.Proofs.Ytfkmpegbidojoaa.Md
open Go.RowKit
open Va
set_option linter.unusedVariables false
set_option linter.unusedSimpArgs false

theorem oper_ap {P : Program} {o : Oper} {a : Act} {w : World} {K : Act → World → Prop} {Q : Exit → Act → World → Prop} (s x : Operand) (t u : TypeId)
    (ho : o.op = .call { callee := .builtin .append, args := #[s, x], argTypes := #[t, u] }) {v vx : Value} (hs : a.eval s = v) (hx : a.eval x = vx) (v' : Value) (w' : World)
    (hr : (Builtin.append_ #[t, u] o.type #[v, vx]).run P w = .ok v' w') (h : K (a.put o.dst v') w') : Oper.wp P o a w K Q := by
  unfold Oper.wp execOp
  simp only [ho, resolve, invoke, builtin, Sem.run_bind, Sem.run_pure, Result.andThen_ok, List.map_toArray, List.map_cons, List.map_nil, hs, hx, hr]
  exact h
/-- The letters behind an empty row of the call's own, wherever that lies. -/
theorem app_l (l : List DeadP) (hl : l.length ≤ 1000) (a : Option Addr) (cap : Nat) (w0 W : World) (hx : DeadsAt w0 a l) (el : List DK) (hel : el.map (·.x) = l) (hev : ∀ y ∈ el, ValsAt w0 y.ka y.x.mail.key ∧ ValsAt w0 y.fa y.x.mail.fields) (her : ∀ b off, a = some ⟨b, off, none⟩ → RowsOf w0 b off el)
    (hb : Below w0.heap.size w0 W) (B E : Nat) (hB : w0.heap.size ≤ B) (hE : W.heap[E]? = some (.cells #[] 46 (0, 0))) (hBE : B ≤ E) :
    ∃ q c w', (Builtin.append_ #[44, 44] 44 #[.slice (some ⟨E, 0, none⟩) 0 0, .slice a l.length cap]).run Try.prog W = .ok (.slice q l.length c) w' ∧ DO B w0 w' q el c ∧ Below B W w' ∧ (∀ k, k < W.heap.size → k ≠ E → w'.heap[k]? = W.heap[k]?) := by
  have hlt := lt_of_heapV hE
  have hd0 : DO B w0 W (some ⟨E, 0, none⟩) [] 0 := ⟨⟨rfl, .inr ⟨E, 0, #[], rfl, hBE, hE, Nat.zero_le _, by unfold maxLen; omega, rfl, rfl⟩⟩, fun y hy => by simp at hy⟩
  have hll : el.length = l.length := by rw [← hel]; simp
  cases a with
  | none =>
    have h0 : l = [] := by
      cases l with
      | nil => rfl
      | cons x r => obtain ⟨_, _, _, _, _, _, e, _⟩ := hx 0 (by simp); cases e
    subst h0
    have he0 : el = [] := by simpa using hel
    subst he0
    exact ⟨_, _, W, hd0.app_nil cap, hd0, Below.refl _ _, fun _ _ _ => rfl⟩
  | some p =>
    obtain ⟨q2, c2, w2, h1, h2, h3, h4⟩ := hd0.appA (by omega) el (by simp; omega) p cap (fun j u hu => by
      have h9 := src_rows hx hel her j u hu
      exact (hb.cell (p := p.add j) (World.block_lt_of_cell? w0 _ h9)).trans h9) hev
    rw [hll] at h1
    simp only [List.length_nil, Nat.zero_add, List.nil_append] at h1 h2
    exact ⟨q2, c2, w2, h1, h2, h3, fun k hk hne => h4.block k hk (fun e => hne (by injection e with e))⟩
/-- What the document's Put answers. -/
def RPutted (l : List DeadP) (n : Int) (m : MailP) (r most : Int) (w : World) (e : Ending) (w' : World) : Prop :=
  if putE l n r most = 0 then ∃ q cp, e = .returned (.tuple #[.slice q (l.length + 1) cp, .int .i64 0]) ∧ DeadsAt w' q (l ++ [⟨n, m, r⟩])
  else e = .returned (.tuple #[.slice none 0 0, .int .i64 (putE l n r most)])
theorem findL_isSome (l : List DeadP) (n : Int) : (findL l n).isSome = l.any fun x => x.n == n := by
  unfold findL
  cases h : l.find? (fun x => x.n == n) with
  | none =>
    have := List.find?_eq_none.1 h
    exact (List.any_eq_false.2 fun x hx => this x hx).symm
  | some x => exact (List.any_eq_true.2 ⟨x, List.mem_of_find?_eq_some h, by simpa using List.find?_some h⟩).symm

set_option maxRecDepth 100000 in
set_option maxHeartbeats 8000000 in
theorem rput_any (l : List DeadP) (hl : l.length ≤ 900) (n : Int) (m : MailP) (r most : Int) (a : Option Addr) (cap : Nat) (ka : Option Addr) (kc : Nat) (fa : Option Addr) (fc : Nat) (w : World) (hx : DeadsAt w a l) (hka : ValsAt w ka m.key) (hfa : ValsAt w fa m.fields) :
    Calls Try.prog 22 #[.slice a l.length cap, .int .i64 n, .agg #[.int .i64 m.id, .string (S m.chan), .slice ka m.key.length kc, .slice fa m.fields.length fc], .int .i64 r, .int .i64 most] w fun e w' => RPutted l n m r most w e w' ∧ Below w.heap.size w w' := by
  have hli : (l.length : Int) ≤ 900 := by omega
  have k0 := (Below.refl w.heap.size w).alloc (Nat.le_refl _) (.cells #[.int .i64 m.id, .string (S m.chan), .slice ka m.key.length kc, .slice fa m.fields.length fc] 30)
  have h0 : BM (w.alloc (.cells #[.int .i64 m.id, .string (S m.chan), .slice ka m.key.length kc, .slice fa m.fields.length fc] 30)) w.heap.size (.int .i64 m.id) (.string (S m.chan)) (.slice ka m.key.length kc) (.slice fa m.fields.length fc) := heap_alloc_new w _
  obtain ⟨W0, hW0⟩ : ∃ W0, W0 = w.alloc (.cells #[.int .i64 m.id, .string (S m.chan), .slice ka m.key.length kc, .slice fa m.fields.length fc] 30) := ⟨_, rfl⟩
  have HW0 := Lib.hid hW0
  rw [← hW0] at k0 h0
  have HK0 := Lib.hid k0
  have H0 := Lib.hid h0
  have HX := Lib.hid hx
  have HKF := Lib.hid (And.intro hka hfa)
  have HF := Lib.hid (rfind_any l (by omega) n a cap W0 (hx.below k0))
  have HIS := Lib.hid (findL_isSome l n)
  obtain ⟨Pst, hPst⟩ : ∃ Pst : Ending → World → Prop, Pst = fun e w' => RPutted l n m r most w e w' ∧ Below w.heap.size w w' := ⟨_, rfl⟩
  rw [← hPst]
  have HP := Lib.hid hPst
  clear k0 h0 hW0 hx hka hfa hPst
  by_cases hr1 : r < 1
  · have HPE : Hid (putE l n r most = 2) := Lib.hid (by unfold putE; rw [if_pos ((wordL_nil r).2 (.inl hr1))])
    go_enter Try.func22, Try.ntmps22
    go_wp2_with fail
    rw [← HW0.out]
    rw [HP.out]
    refine ⟨?_, HK0.out⟩
    unfold RPutted
    rw [if_neg (by rw [HPE.out]; decide), HPE.out]
    rfl
  by_cases hr5 : r > 5
  · have HPE : Hid (putE l n r most = 2) := Lib.hid (by unfold putE; rw [if_pos ((wordL_nil r).2 (.inr hr5))])
    go_enter Try.func22, Try.ntmps22
    go_wp2_with fail
    rw [← HW0.out]
    rw [HP.out]
    refine ⟨?_, HK0.out⟩
    unfold RPutted
    rw [if_neg (by rw [HPE.out]; decide), HPE.out]
  have HW : Hid (wordL r ≠ []) := Lib.hid (by rw [Ne, wordL_nil]; omega)
  cases hfo : findL l n with
  | some x =>
    rw [hfo] at HF HIS
    have HPE : Hid (putE l n r most = 21) := Lib.hid (by unfold putE; rw [if_neg HW.out, ← HIS.out]; rfl)
    clear hfo
    go_enter Try.func22, Try.ntmps22
    go_wp2_with fail
    rw [← HW0.out]
    refine HF.out.mono ?_
    rintro e w1 ⟨⟨ka1, kc1, fa1, fc1, rfl, _, _⟩, b1⟩
    unfold dV
    have B1 := Lib.hid (HK0.out.trans (b1.mono HK0.out.size))
    have k2 := (Below.refl w1.heap.size w1).alloc (Nat.le_refl _) (.cells #[.int .i64 x.n, .int .i64 x.mail.id, .string (S x.mail.chan), .slice ka1 x.mail.key.length kc1, .slice fa1 x.mail.fields.length fc1, .int .i64 x.reason] 46)
    have B2 := Lib.hid (B1.out.trans (k2.mono B1.out.size))
    clear b1 k2
    go_wp2_with fail
    rw [HP.out]
    refine ⟨?_, B2.out⟩
    unfold RPutted
    rw [if_neg (by rw [HPE.out]; decide), HPE.out]
    rfl
  | none =>
    rw [hfo] at HF HIS
    clear hfo
    go_enter Try.func22, Try.ntmps22
    go_wp2_with fail
    rw [← HW0.out]
    refine HF.out.mono ?_
    rintro e w1 ⟨rfl, b1⟩
    unfold zD
    have B1 := Lib.hid (HK0.out.trans (b1.mono HK0.out.size))
    have k2 := (Below.refl w1.heap.size w1).alloc (Nat.le_refl _) (.cells #[.int .i64 0, .int .i64 0, .string ⟨#[]⟩, .slice none 0 0, .slice none 0 0, .int .i64 0] 46)
    have B2 := Lib.hid (B1.out.trans (k2.mono B1.out.size))
    have H2 := Lib.hid ((H0.out.below b1).below k2)
    clear b1 k2
    by_cases hq : most ≤ l.length
    · have HPE : Hid (putE l n r most = 42) := Lib.hid (by unfold putE; rw [if_neg HW.out, ← HIS.out]; simp; omega)
      go_wp2_with fail
      rw [HP.out]
      refine ⟨?_, B2.out⟩
      unfold RPutted
      rw [if_neg (by rw [HPE.out]; decide), HPE.out]
      rfl
    · have HPE : Hid (putE l n r most = 0) := Lib.hid (by unfold putE; rw [if_neg HW.out, ← HIS.out]; simp; omega)
      have hq2 : (l.length : Int) < most := by omega
      clear hq
      go_wp2_with fail
      obtain ⟨W2, hW2⟩ : ∃ W2, W2 = w1.alloc (.cells #[.int .i64 0, .int .i64 0, .string ⟨#[]⟩, .slice none 0 0, .slice none 0 0, .int .i64 0] 46) := ⟨_, rfl⟩
      rw [← hW2] at B2 H2 ⊢
      clear hW2
      have kd : Below W2.heap.size W2 W2.drew := ⟨rfl, rfl, rfl, Nat.le_refl _, fun _ _ => rfl⟩
      have B3 := Lib.hid (B2.out.trans (kd.mono B2.out.size))
      have H3 := Lib.hid (H2.out.below kd)
      clear kd
      obtain ⟨W3, hW3⟩ : ∃ W3, W3 = W2.drew := ⟨_, rfl⟩
      have HW3 := Lib.hid hW3
      rw [← hW3] at B3 H3
      obtain ⟨el, hel, hev, her⟩ := rows_of HX.out
      have hll : el.length = l.length := by rw [← hel]; simp
      have HFIN : Hid (∀ q c w', DeadsAt w' q (l ++ [⟨n, m, r⟩]) → Below w.heap.size w w' → Pst (.returned (.tuple #[.slice q (l.length + 1) c, .int .i64 0])) w') := Lib.hid (fun q c w' h1 h2 => by
        rw [HP.out]
        refine ⟨?_, h2⟩
        unfold RPutted
        rw [if_pos HPE.out]
        exact ⟨q, c, rfl, h1⟩)
      -- the row of the new letter, and the empty one, in either order
      have hSz := B3.out.size
      have HAPP := Lib.hid (fun (W : World) (E : Nat) (hb : Below w.heap.size w W) (hE : W.heap[E]? = some (.cells #[] 46 (0, 0))) (hBE : w.heap.size ≤ E) => app_l l (by omega) a cap w W HX.out el hel hev her hb w.heap.size E (Nat.le_refl _) hE hBE)
      have HAPY := Lib.hid (fun (W : World) (q : Option Addr) (c K : Nat) (hb : Below w.heap.size w W) (hd : DO w.heap.size w W q el c) (hr : RowsOf W K 0 [⟨⟨n, m, r⟩, ka, kc, fa, fc⟩]) => show ∃ q' c' w', (Builtin.append_ #[44, 44] 44 #[.slice q l.length c, .slice (some ⟨K, 0, none⟩) 1 1]).run Try.prog W = .ok (.slice q' (l.length + 1) c') w' ∧ DeadsAt w' q' (l ++ [⟨n, m, r⟩]) ∧ Below w.heap.size w w' from by
        obtain ⟨q', c', w', h1, h2, h3, _⟩ := hd.app hb.size [⟨⟨n, m, r⟩, ka, kc, fa, fc⟩] (by simp; omega) K 0 1 hr (fun z hz => by
          have : z = ⟨⟨n, m, r⟩, ka, kc, fa, fc⟩ := by simpa using hz
          rw [this]; exact HKF.out)
        rw [hll] at h1
        refine ⟨q', c', w', h1, ?_, hb.trans h3⟩
        have := h2.deads (hb.trans h3)
        rwa [List.map_append, hel] at this)
      clear hel hev her hll
      have hS0 : W3.cell? ⟨w.heap.size, 0, none⟩ = some (.int .i64 m.id) ∧ W3.cell? ⟨w.heap.size, 1, none⟩ = some (.string (S m.chan)) ∧ W3.cell? ⟨w.heap.size, 2, none⟩ = some (.slice ka m.key.length kc) ∧ W3.cell? ⟨w.heap.size, 3, none⟩ = some (.slice fa m.fields.length fc) := ⟨H3.out.c0, H3.out.c1, H3.out.c2, H3.out.c3⟩
      rw [hW3] at hS0
      clear hW3
      refine Cd.until_start 7 (fun w7 => w7.cell? ⟨w.heap.size, 0, none⟩ = some (.int .i64 m.id) ∧ w7.cell? ⟨w.heap.size, 1, none⟩ = some (.string (S m.chan)) ∧ w7.cell? ⟨w.heap.size, 2, none⟩ = some (.slice ka m.key.length kc) ∧ w7.cell? ⟨w.heap.size, 3, none⟩ = some (.slice fa m.fields.length fc)) (by kernel_rfl) ?_
      refine Cd.untilT (v := ?_) 1 (by decide +kernel) (by decide +kernel) (by decide +kernel) (by kernel_rfl) (by simp only [List.getElem?_toArray, List.getElem?_cons_succ, List.getElem?_cons_zero]; rfl) (by rfl) (by exact fun _ _ _ h => h) (by first | exact fun _ => hS0 | exact fun h => absurd h (by decide +kernel)) ?_ ?_
      rotate_left 1
      focus (intro w8; go_simp; (try with_reducible rfl); done)
      try simp only [Act.put, List.setIfInBounds_toArray, List.set_cons_zero, List.set_cons_succ]
      refine Cd.untilT (v := ?_) 3 (by decide +kernel) (by decide +kernel) (by decide +kernel) (by kernel_rfl) (by simp only [List.getElem?_toArray, List.getElem?_cons_succ, List.getElem?_cons_zero]; rfl) (by rfl) (by exact fun _ _ _ h => h) (by first | exact fun _ => hS0 | exact fun h => absurd h (by decide +kernel)) ?_ ?_
      rotate_left 1
      focus (intro w8; go_simp; (try with_reducible rfl); done)
      try simp only [Act.put, List.setIfInBounds_toArray, List.set_cons_zero, List.set_cons_succ]
      refine Cd.untilW (v := ?_) 4 [6, 7] (by decide) (by decide +kernel) (by decide +kernel) (by decide +kernel) (by decide +kernel) (by kernel_rfl) (by simp only [List.getElem?_toArray, List.getElem?_cons_succ, List.getElem?_cons_zero]; rfl) (by rfl) (by exact fun _ _ _ h => h) (by exact hS0) ?_ ?_
      rotate_left 1
      focus (intro w8 hSw; (try dsimp only at hSw); (try obtain ⟨hSa, hSb⟩ := hSw); go_simp; (try with_reducible rfl); done)
      try simp only [Act.put, List.setIfInBounds_toArray, List.set_cons_zero, List.set_cons_succ]
      refine Cd.untilT (v := ?_) 5 (by decide +kernel) (by decide +kernel) (by decide +kernel) (by kernel_rfl) (by simp only [List.getElem?_toArray, List.getElem?_cons_succ, List.getElem?_cons_zero]; rfl) (by rfl) (by exact fun _ _ _ h => h) (by first | exact fun _ => hS0 | exact fun h => absurd h (by decide +kernel)) ?_ ?_
      rotate_left 1
      focus (intro w8; go_simp; (try with_reducible rfl); done)
      try simp only [Act.put, List.setIfInBounds_toArray, List.set_cons_zero, List.set_cons_succ]
      refine Cd.untilT (v := ?_) 6 (by decide +kernel) (by decide +kernel) (by decide +kernel) (by kernel_rfl) (by simp only [List.getElem?_toArray, List.getElem?_cons_succ, List.getElem?_cons_zero]; rfl) (by rfl) (by exact fun _ _ _ h => h) (by first | exact fun _ => hS0 | exact fun h => absurd h (by decide +kernel)) ?_ ?_
      rotate_left 1
      focus (intro w8; go_simp; (try with_reducible rfl); done)
      try simp only [Act.put, List.setIfInBounds_toArray, List.set_cons_zero, List.set_cons_succ]
      rw [← HW3.out] at hS0 ⊢
      have HKEEP := Lib.hid (fun W (k : Below W3.heap.size W3 W) => show W.cell? ⟨w.heap.size, 0, none⟩ = some (.int .i64 m.id) ∧ W.cell? ⟨w.heap.size, 1, none⟩ = some (.string (S m.chan)) ∧ W.cell? ⟨w.heap.size, 2, none⟩ = some (.slice ka m.key.length kc) ∧ W.cell? ⟨w.heap.size, 3, none⟩ = some (.slice fa m.fields.length fc) from ⟨(H3.out.below k).c0, (H3.out.below k).c1, (H3.out.below k).c2, (H3.out.below k).c3⟩)
      clear hS0
      refine Cd.until_two (i := 0) (j := 7) (by decide +kernel) (by simp only [List.getElem?_toArray, List.getElem?_cons_succ, List.getElem?_cons_zero]; rfl) (by simp only [List.getElem?_toArray, List.getElem?_cons_succ, List.getElem?_cons_zero]; rfl) ?_ ?_
      · intro K hK
        go_simp
        refine hK.out _ _ (fun _ => HKEEP.out _ ((Below.refl W3.heap.size W3).alloc (Nat.le_refl _) _)) ?_
        try simp only [Act.put, List.setIfInBounds_toArray, List.set_cons_zero, List.set_cons_succ]
        clear hK K
        have ba : Below w.heap.size w (W3.alloc (.cells #[] 46)) := B3.out.alloc hSz _
        have ha := heap_alloc_new W3 (.cells #[] 46)
        refine Cd.until_two (i := 2) (j := 7) (by decide +kernel) (by simp only [List.getElem?_toArray, List.getElem?_cons_succ, List.getElem?_cons_zero]; rfl) (by simp only [List.getElem?_toArray, List.getElem?_cons_succ, List.getElem?_cons_zero]; rfl) ?_ ?_
        · intro K hK
          obtain ⟨q1, c1, w5, hrun1, hd1, hb1, hk1⟩ := HAPP.out (W3.alloc (.cells #[] 46)) W3.heap.size ba ha hSz
          rw [if_pos (by rfl)]
          refine oper_ap _ _ _ _ rfl rfl rfl _ _ hrun1 ?_
          have g5 : Below W3.heap.size W3 w5 := ⟨hb1.os, hb1.tape, hb1.output, Nat.le_trans (by simp) hb1.size, fun k hk => (hk1 k (by simp; omega) (by omega)).trans (((Below.refl W3.heap.size W3).alloc (Nat.le_refl _) (.cells #[] 46)).block k hk)⟩
          refine hK.out _ _ (fun _ => HKEEP.out _ (g5)) ?_
          try simp only [Act.put, List.setIfInBounds_toArray, List.set_cons_zero, List.set_cons_succ]
          clear hK K
          have b5 := ba.trans hb1
          refine Cd.until_one (i := 7) (by decide +kernel) (by simp only [List.getElem?_toArray, List.getElem?_cons_succ, List.getElem?_cons_zero]; rfl) ?_
          intro K hK
          go_simp
          refine hK.out _ _ (fun h => absurd h (by decide +kernel)) ?_
          try simp only [Act.put, List.setIfInBounds_toArray, List.set_cons_zero, List.set_cons_succ]
          clear hK K
          have k6 := (Below.refl w5.heap.size w5).alloc (Nat.le_refl _) (.cells #[.int .i64 n, .int .i64 m.id, .string (S m.chan), .slice ka m.key.length kc, .slice fa m.fields.length fc, .int .i64 r] 46)
          obtain ⟨q2, c2, w7, hrun2, hd2, hb2⟩ := HAPY.out (w5.alloc (.cells #[.int .i64 n, .int .i64 m.id, .string (S m.chan), .slice ka m.key.length kc, .slice fa m.fields.length fc, .int .i64 r] 46)) q1 c1 w5.heap.size (b5.alloc b5.size _) (hd1.below k6) (rows_one w5 ⟨⟨n, m, r⟩, ka, kc, fa, fc⟩ w5.heap.size rfl)
          clear k6 b5 g5 hrun1 hd1 hb1 hk1 ba ha
          refine Cd.until_one (i := 8) (by decide +kernel) (by simp only [List.getElem?_toArray, List.getElem?_cons_succ, List.getElem?_cons_zero]; rfl) ?_
          intro K hK
          rw [if_pos (by rfl)]
          refine oper_ap _ _ _ _ rfl rfl rfl _ _ hrun2 ?_
          refine hK.out _ _ (fun h => absurd h (by decide +kernel)) ?_
          try simp only [Act.put, List.setIfInBounds_toArray, List.set_cons_zero, List.set_cons_succ]
          clear hK K
          refine Cd.until_one (i := 9) (by decide +kernel) (by simp only [List.getElem?_toArray, List.getElem?_cons_succ, List.getElem?_cons_zero]; rfl) ?_
          intro K hK
          go_simp
          refine hK.out _ _ (fun h => absurd h (by decide +kernel)) ?_
          try simp only [Act.put, List.setIfInBounds_toArray, List.set_cons_zero, List.set_cons_succ]
          clear hK K
          refine Cd.until_one (i := 10) (by decide +kernel) (by simp only [List.getElem?_toArray, List.getElem?_cons_succ, List.getElem?_cons_zero]; rfl) ?_
          intro K hK
          go_simp
          refine hK.out _ _ (fun h => absurd h (by decide +kernel)) ?_
          try simp only [Act.put, List.setIfInBounds_toArray, List.set_cons_zero, List.set_cons_succ]
          clear hK K
          refine Cd.until_done (by decide +kernel) ?_ _
          have HD2 := Lib.hid hd2
          have HB2 := Lib.hid hb2
          clear hrun2 hd2 hb2
          go_wp2_with fail
          exact HFIN.out _ _ _ HD2.out HB2.out
        · intro K hK
          go_simp
          refine hK.out _ _ (fun h => absurd h (by decide +kernel)) ?_
          try simp only [Act.put, List.setIfInBounds_toArray, List.set_cons_zero, List.set_cons_succ]
          clear hK K
          have kk := (Below.refl (W3.alloc (.cells #[] 46)).heap.size (W3.alloc (.cells #[] 46))).alloc (Nat.le_refl _) (.cells #[.int .i64 n, .int .i64 m.id, .string (S m.chan), .slice ka m.key.length kc, .slice fa m.fields.length fc, .int .i64 r] 46)
          have ba2 := ba.trans (kk.mono ba.size)
          have ha2 := (kk.block W3.heap.size (by simp)).trans ha
          have hr2 := rows_one (W3.alloc (.cells #[] 46)) ⟨⟨n, m, r⟩, ka, kc, fa, fc⟩ (W3.heap.size + 1) (by simp)
          obtain ⟨q1, c1, w5, hrun1, hd1, hb1, hk1⟩ := HAPP.out _ W3.heap.size ba2 ha2 hSz
          refine Cd.until_one (i := 2) (by decide +kernel) (by simp only [List.getElem?_toArray, List.getElem?_cons_succ, List.getElem?_cons_zero]; rfl) ?_
          intro K hK
          rw [if_pos (by rfl)]
          refine oper_ap _ _ _ _ rfl rfl rfl _ _ hrun1 ?_
          refine hK.out _ _ (fun h => absurd h (by decide +kernel)) ?_
          try simp only [Act.put, List.setIfInBounds_toArray, List.set_cons_zero, List.set_cons_succ]
          clear hK K
          have hr3 : RowsOf w5 (W3.heap.size + 1) 0 [⟨⟨n, m, r⟩, ka, kc, fa, fc⟩] := fun j u hu => by
            have h9 := hr2 j u hu
            have hbk := hk1 (W3.heap.size + 1) (by simp) (by omega)
            rw [← h9]
            unfold World.cell?
            simp only [hbk]
          obtain ⟨q2, c2, w7, hrun2, hd2, hb2⟩ := HAPY.out w5 q1 c1 (W3.heap.size + 1) (ba2.trans hb1) hd1 hr3
          clear kk ba2 ha2 hr2 hr3 hrun1 hd1 hb1 hk1 ba ha
          refine Cd.until_one (i := 8) (by decide +kernel) (by simp only [List.getElem?_toArray, List.getElem?_cons_succ, List.getElem?_cons_zero]; rfl) ?_
          intro K hK
          rw [if_pos (by rfl)]
          refine oper_ap _ _ _ _ rfl rfl rfl _ _ hrun2 ?_
          refine hK.out _ _ (fun h => absurd h (by decide +kernel)) ?_
          try simp only [Act.put, List.setIfInBounds_toArray, List.set_cons_zero, List.set_cons_succ]
          clear hK K
          refine Cd.until_one (i := 9) (by decide +kernel) (by simp only [List.getElem?_toArray, List.getElem?_cons_succ, List.getElem?_cons_zero]; rfl) ?_
          intro K hK
          go_simp
          refine hK.out _ _ (fun h => absurd h (by decide +kernel)) ?_
          try simp only [Act.put, List.setIfInBounds_toArray, List.set_cons_zero, List.set_cons_succ]
          clear hK K
          refine Cd.until_one (i := 10) (by decide +kernel) (by simp only [List.getElem?_toArray, List.getElem?_cons_succ, List.getElem?_cons_zero]; rfl) ?_
          intro K hK
          go_simp
          refine hK.out _ _ (fun h => absurd h (by decide +kernel)) ?_
          try simp only [Act.put, List.setIfInBounds_toArray, List.set_cons_zero, List.set_cons_succ]
          clear hK K
          refine Cd.until_done (by decide +kernel) ?_ _
          have HD2 := Lib.hid hd2
          have HB2 := Lib.hid hb2
          clear hrun2 hd2 hb2
          go_wp2_with fail
          exact HFIN.out _ _ _ HD2.out HB2.out
      · intro K hK
        go_simp
        refine hK.out _ _ (fun h => absurd h (by decide +kernel)) ?_
        try simp only [Act.put, List.setIfInBounds_toArray, List.set_cons_zero, List.set_cons_succ]
        clear hK K
        have ba : Below w.heap.size w (W3.alloc (.cells #[.int .i64 n, .int .i64 m.id, .string (S m.chan), .slice ka m.key.length kc, .slice fa m.fields.length fc, .int .i64 r] 46)) := B3.out.alloc hSz _
        have hr1 := rows_one W3 ⟨⟨n, m, r⟩, ka, kc, fa, fc⟩ W3.heap.size rfl
        refine Cd.until_one (i := 0) (by decide +kernel) (by simp only [List.getElem?_toArray, List.getElem?_cons_succ, List.getElem?_cons_zero]; rfl) ?_
        intro K hK
        go_simp
        refine hK.out _ _ (fun h => absurd h (by decide +kernel)) ?_
        try simp only [Act.put, List.setIfInBounds_toArray, List.set_cons_zero, List.set_cons_succ]
        clear hK K
        have kk := (Below.refl (W3.alloc (.cells #[.int .i64 n, .int .i64 m.id, .string (S m.chan), .slice ka m.key.length kc, .slice fa m.fields.length fc, .int .i64 r] 46)).heap.size (W3.alloc (.cells #[.int .i64 n, .int .i64 m.id, .string (S m.chan), .slice ka m.key.length kc, .slice fa m.fields.length fc, .int .i64 r] 46))).alloc (Nat.le_refl _) (.cells #[] 46)
        have ba2 := ba.trans (kk.mono ba.size)
        have ha2 := heap_alloc_new (W3.alloc (.cells #[.int .i64 n, .int .i64 m.id, .string (S m.chan), .slice ka m.key.length kc, .slice fa m.fields.length fc, .int .i64 r] 46)) (.cells #[] 46)
        rw [show (W3.alloc (.cells #[.int .i64 n, .int .i64 m.id, .string (S m.chan), .slice ka m.key.length kc, .slice fa m.fields.length fc, .int .i64 r] 46)).heap.size = W3.heap.size + 1 by simp] at ha2
        have hr2 : RowsOf ((W3.alloc (.cells #[.int .i64 n, .int .i64 m.id, .string (S m.chan), .slice ka m.key.length kc, .slice fa m.fields.length fc, .int .i64 r] 46)).alloc (.cells #[] 46)) W3.heap.size 0 [⟨⟨n, m, r⟩, ka, kc, fa, fc⟩] := fun j u hu => (kk.cell (p := ⟨W3.heap.size, 0 + j, none⟩) (by simp)).trans (hr1 j u hu)
        obtain ⟨q1, c1, w5, hrun1, hd1, hb1, hk1⟩ := HAPP.out _ (W3.heap.size + 1) ba2 ha2 (by omega)
        refine Cd.until_one (i := 2) (by decide +kernel) (by simp only [List.getElem?_toArray, List.getElem?_cons_succ, List.getElem?_cons_zero]; rfl) ?_
        intro K hK
        rw [if_pos (by rfl)]
        refine oper_ap _ _ _ _ rfl rfl rfl _ _ hrun1 ?_
        refine hK.out _ _ (fun h => absurd h (by decide +kernel)) ?_
        try simp only [Act.put, List.setIfInBounds_toArray, List.set_cons_zero, List.set_cons_succ]
        clear hK K
        have hr3 : RowsOf w5 W3.heap.size 0 [⟨⟨n, m, r⟩, ka, kc, fa, fc⟩] := fun j u hu => by
          have h9 := hr2 j u hu
          have hbk := hk1 W3.heap.size (by simp; omega) (by omega)
          rw [← h9]
          unfold World.cell?
          simp only [hbk]
        obtain ⟨q2, c2, w7, hrun2, hd2, hb2⟩ := HAPY.out w5 q1 c1 W3.heap.size (ba2.trans hb1) hd1 hr3
        clear kk ba2 ha2 hr1 hr2 hr3 hrun1 hd1 hb1 hk1 ba
        refine Cd.until_one (i := 8) (by decide +kernel) (by simp only [List.getElem?_toArray, List.getElem?_cons_succ, List.getElem?_cons_zero]; rfl) ?_
        intro K hK
        rw [if_pos (by rfl)]
        refine oper_ap _ _ _ _ rfl rfl rfl _ _ hrun2 ?_
        refine hK.out _ _ (fun h => absurd h (by decide +kernel)) ?_
        try simp only [Act.put, List.setIfInBounds_toArray, List.set_cons_zero, List.set_cons_succ]
        clear hK K
        refine Cd.until_one (i := 9) (by decide +kernel) (by simp only [List.getElem?_toArray, List.getElem?_cons_succ, List.getElem?_cons_zero]; rfl) ?_
        intro K hK
        go_simp
        refine hK.out _ _ (fun h => absurd h (by decide +kernel)) ?_
        try simp only [Act.put, List.setIfInBounds_toArray, List.set_cons_zero, List.set_cons_succ]
        clear hK K
        refine Cd.until_one (i := 10) (by decide +kernel) (by simp only [List.getElem?_toArray, List.getElem?_cons_succ, List.getElem?_cons_zero]; rfl) ?_
        intro K hK
        go_simp
        refine hK.out _ _ (fun h => absurd h (by decide +kernel)) ?_
        try simp only [Act.put, List.setIfInBounds_toArray, List.set_cons_zero, List.set_cons_succ]
        clear hK K
        refine Cd.until_done (by decide +kernel) ?_ _
        have HD2 := Lib.hid hd2
        have HB2 := Lib.hid hb2
        clear hrun2 hd2 hb2
        go_wp2_with fail
        exact HFIN.out _ _ _ HD2.out HB2.out

end Go.Proofs.Ytfkmpegbidojoaa.Md
