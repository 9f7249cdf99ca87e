/-
  TypingMore, walked.
-/
import Derived.Test.YtmjpmekjpbmieaaDoorZTyOwnW
import Derived.Test.YtmjpmekjpbmieaaDoorZTyJoin
import Derived.Test.YtmjpmekjpbmieaaDoorZExRefC
namespace Go.Proofs.YtmjpmekjpbmieaaDoor.Ty
open Go.RowKit
open Ex Lx
set_option linter.unusedVariables false

theorem EnumsAt.of_own {w : World} {B : Nat} {q : Option Addr} {n : Nat} {d : List EC} {cap : Nat} (hn : n = d.length) (h : w.ownsRow B 44 2 (.slice q n cap) n (enumC d)) (hs : ∀ y ∈ d, StrsAt w y.q y.e.syms) : EnumsAt w q (d.map (·.e)) := fun i hi => by
  subst hn
  have hi2 : i < d.length := by simpa using hi
  rcases h.2 with ⟨_, h0⟩ | ⟨g, cap2, cur, e, hB, hg, r⟩
  · omega
  · injection e with e1 _ _
    subst e1
    have hadd : ∀ j, (⟨g, 0, none⟩ : Addr).add j = ⟨g, j, none⟩ := fun j => by unfold Addr.add; split <;> simp_all
    obtain ⟨h0, h1⟩ := enumC_get d i hi2
    have c := fun j u (hu : (enumC d)[j]? = some u) => World.ownsRow.cells h (g := g) rfl j u hu
    simp only [List.getElem_map]
    refine ⟨g, 0, d[i].q, d[i].c, rfl, (Array.getElem?_eq_some_iff.1 hg).1, ?_, ?_, hs _ (List.getElem_mem hi2)⟩
    · have := c _ _ h0; rw [hadd] at this; rw [Nat.zero_add]; exact this
    · have := c _ _ h1; rw [hadd] at this; rw [Nat.zero_add]; exact this
theorem AttrsAt.of_own' {w : World} {B : Nat} {q : Option Addr} {n : Nat} {d : List AttrP} {cap : Nat} (hn : n = d.length) (h : w.ownsRow B 46 3 (.slice q n cap) n (attrC d)) : AttrsAt w q d := by
  subst hn; exact AttrsAt.of_own h
def JnQ (B n : Nat) (w : World) (l : List AttrP) (e : Ending) (w' : World) : Prop := ∃ q c, e = .returned (.slice q n c) ∧ w'.ownsRow B 46 3 (.slice q n c) n (attrC l) ∧ Below w.heap.size w w'
theorem join_at (B n : Nat) (a b : List AttrP) (hn : n = (a ++ b).length) (pa pb : Option Addr) (ca cb : Nat) (w : World) (hB : B ≤ w.heap.size) (ha : AttrsAt w pa a) (hb : AttrsAt w pb b) (h1 : a.length ≤ 100) (h2 : b.length ≤ 100) :
    Calls Tryd.prog 11 #[.slice pa a.length ca, .slice pb b.length cb] w (JnQ B n w (a ++ b)) := by
  subst hn
  exact (join_any a b pa pb ca cb w ha hb h1 h2).mono fun e w' ⟨q, c, e1, o1, b1⟩ => ⟨q, c, e1, own_low o1 hB, b1⟩
theorem tyne : (44 : TypeId) ≠ 46 := by decide
theorem tyneT : (44 : TypeId) ≠ 33 := by decide
theorem TB.grown {w w' : World} {B s n H : Nat} {v a b c : Value} {xs : List Value} (h : TB w H a b c) (h1 : w.ownsRow B 44 s v n xs) (g : w.grownBy w' v.ownBlock) : TB w' H a b c := by
  refine (g.block H h.lt ?_).trans h
  rcases h1.2 with ⟨rfl, _⟩ | ⟨b1, cap1, cur1, rfl, _, hb1, _⟩
  · simp [Value.ownBlock]
  · simp only [Value.ownBlock, ne_eq, Option.some.injEq]
    intro hbb
    subst hbb
    have h' : w.heap[H]? = _ := h
    rw [hb1] at h'
    injection h' with h'
    injection h' with _ h' _
    exact tyneT h'
/-- The first copy of the enums. -/
theorem more_ap1 (B : Nat) (xs : List EC) (n : Nat) (hn : n = xs.length) (p : Option Addr) (c : Nat) (w : World) (hB : B ≤ w.heap.size) (hl : xs.length ≤ 100) (hs : ∀ i, (hi : i < xs.length) → ∃ b o, p = some ⟨b, o, none⟩ ∧ b < w.heap.size ∧ w.cell? ⟨b, o + i * 2, none⟩ = some (.string (S xs[i].e.name)) ∧ w.cell? ⟨b, o + i * 2 + 1, none⟩ = some (.slice xs[i].q xs[i].e.syms.length xs[i].c)) :
    ∃ y : Option Addr × Nat × World, (Builtin.append_ #[22, 22] 22 #[.slice none 0 0, .slice p n c]).run Tryd.prog w = .ok (.slice y.1 n y.2.1) y.2.2 ∧ y.2.2.ownsRow B 44 2 (.slice y.1 n y.2.1) n (enumC xs) ∧ Below w.heap.size w y.2.2 := by
  subst hn
  obtain ⟨q, c', w', r, o, g⟩ := app_enums w.heap.size none [] 0 w (World.ownsRow_nil _ _ _ _) (Nat.le_refl _) p xs c hs (by simp) (by omega)
  rw [List.nil_append] at r o
  exact ⟨(q, c', w'), r, own_low o hB, (Below.refl _ _).grown g (Nat.le_refl _) (by simp [Value.ownBlock])⟩
theorem more_ap2 (B : Nat) (xs ys : List EC) (n k nE : Nat) (hn : n = xs.length) (hk : k = ys.length) (hE : nE = (xs ++ ys).length) (p : Option Addr) (c : Nat) (w : World) (hB : B ≤ w.heap.size) (hl : xs.length ≤ 100) (hl2 : ys.length ≤ 100) (q1 : Option Addr) (c1 : Nat) (h1 : w.ownsRow B 44 2 (.slice q1 n c1) n (enumC xs)) (hs : ∀ i, (hi : i < ys.length) → ∃ b o, p = some ⟨b, o, none⟩ ∧ b < w.heap.size ∧ w.cell? ⟨b, o + i * 2, none⟩ = some (.string (S ys[i].e.name)) ∧ w.cell? ⟨b, o + i * 2 + 1, none⟩ = some (.slice ys[i].q ys[i].e.syms.length ys[i].c)) :
    ∃ y : Option Addr × Nat × World, (Builtin.append_ #[22, 22] 22 #[.slice q1 n c1, .slice p k c]).run Tryd.prog w = .ok (.slice y.1 nE y.2.1) y.2.2 ∧ y.2.2.ownsRow B 44 2 (.slice y.1 nE y.2.1) nE (enumC (xs ++ ys)) ∧ w.grownBy y.2.2 (Value.slice q1 n c1).ownBlock := by
  subst hn hk hE
  obtain ⟨q, c', w', r, o, g⟩ := app_enums B q1 xs c1 w h1 hB p ys c hs (by omega) (by omega)
  exact ⟨(q, c', w'), r, o, g⟩
theorem step_appE {P : Program} {ops : Array Oper} {o : Oper} {a : Act} {w : World} {K : Act → World → Prop} {Q : Exit → Act → World → Prop} {E : Prop} (hgd : o.guard = none) (s x : Operand) (t u : TypeId)
    (ho : o.op = .call { callee := .builtin .append, args := #[s, x], argTypes := #[t, u] }) {v vx : Value} (hs : a.eval s = v) (hx : a.eval x = vx) (n : Nat) {R : Option Addr × Nat × World → Prop}
    (h : ∃ y : Option Addr × Nat × World, (Builtin.append_ #[t, u] o.type #[v, vx]).run P w = .ok (.slice y.1 n y.2.1) y.2.2 ∧ R y) (hk : ∀ q c w', R (q, c, w') → K (a.put o.dst (.slice q n c)) w') : if Region.wanted o (yielded ops a.tmps) = true then Oper.wp P o a w K Q else E := by
  obtain ⟨⟨q, c, w'⟩, hr, hR⟩ := h
  exact step_appR hgd s x t u ho hs hx _ _ hr (hk q c w' hR)

set_option linter.unusedSimpArgs false
set_option maxRecDepth 100000 in
set_option maxHeartbeats 32000000 in
theorem TypingMore_walk (s : Sc) (pe pa pf : Option Addr) (ce ca cf : Nat) (m : Sc) (me ma mf : Option Addr) (de da df : Nat) (t : T) (p : Option Addr) (c : Nat) (w : World) (hs : ScAt w pe pa pf s) (hf : ScFit s) (hm : ScAt w me ma mf m) (hmf : ScFit m) (hfa : FAt w (fun _ => True) t.args p) (hfit : t.row.fits) (hnums : t.row.nums) (htab : Va.Tab w) (hC : ConsAt w) :
    Calls Tryd.prog 4 #[.agg #[.slice pe s.enums.length ce, .slice pa s.attrs.length ca, .slice pf s.fields.length cf], .agg #[.slice me m.enums.length de, .slice ma m.attrs.length da, .slice mf m.fields.length df], .agg #[.int .i64 t.op, .int .i64 t.num, .string (S t.text), .slice p t.args.len c]] w fun e w' => e = .returned (.bool true) ∧ Below w.heap.size w w' := by
  have hb1 := (((Below.refl w.heap.size w).alloc (Nat.le_refl _) (.cells #[.slice pe s.enums.length ce, .slice pa s.attrs.length ca, .slice pf s.fields.length cf] 25)).alloc (by simp) (.cells #[.slice me m.enums.length de, .slice ma m.attrs.length da, .slice mf m.fields.length df] 25)).alloc (by simp; omega) (.cells #[.int .i64 t.op, .int .i64 t.num, .string (S t.text), .slice p t.args.len c] 28)
  obtain ⟨W1, hW1⟩ : ∃ W1, W1 = ((w.alloc (.cells #[.slice pe s.enums.length ce, .slice pa s.attrs.length ca, .slice pf s.fields.length cf] 25)).alloc (.cells #[.slice me m.enums.length de, .slice ma m.attrs.length da, .slice mf m.fields.length df] 25)).alloc (.cells #[.int .i64 t.op, .int .i64 t.num, .string (S t.text), .slice p t.args.len c] 28) := ⟨_, rfl⟩
  have hbs : Bxs W1 w.heap.size (.slice pe s.enums.length ce) (.slice pa s.attrs.length ca) (.slice pf s.fields.length cf) := by
    rw [hW1]
    exact ((((Below.refl _ _).alloc (Nat.le_refl _) _).block _ (by simp; omega)).trans (((Below.refl _ _).alloc (Nat.le_refl _) _).block _ (by simp))).trans (heap_alloc_new w _)
  have hbm : Bxs W1 (w.heap.size + 1) (.slice me m.enums.length de) (.slice ma m.attrs.length da) (.slice mf m.fields.length df) := by
    rw [hW1]
    exact (((Below.refl _ _).alloc (Nat.le_refl _) _).block _ (by simp)).trans (new_box _ _ _ _ (by simp))
  have hbe : Bx W1 (w.heap.size + 1 + 1) (.int .i64 t.op) (.int .i64 t.num) (.string (S t.text)) (.slice p t.args.len c) := by rw [hW1]; exact new_box _ _ _ _ (by simp)
  rw [← hW1] at hb1
  have htab1 := htab.below hb1
  have hC1 := hC.keep (Kept.of_below (ok := fun _ => True) hb1) trivial
  have hs1 := hs.later hb1
  have hm1 := hm.later hb1
  have hfa1 := hfa.keep (Kept.of_below hb1)
  have AW := Lib.hid (fun wr (k : Below W1.heap.size W1 wr) => awake_any wr (htab1.below k) (hC1.keep (Kept.of_below (ok := fun _ => True) k) trivial))
  have SM := Lib.hid (fun wr (k : Below W1.heap.size W1 wr) => small_any s pe pa pf ce ca cf wr (hs1.later k).enums hf.enums hf.attrs hf.fields hf.syms)
  have MM := Lib.hid (fun wr (k : Below W1.heap.size W1 wr) => small_any m me ma mf de da df wr (hm1.later k).enums hmf.enums hmf.attrs hmf.fields hmf.syms)
  have OF := Lib.hid (fun wr (k : Below W1.heap.size W1 wr) => of_any s pe pa pf ce ca cf hf t hfit hnums p c wr (hs1.later k) (hfa1.keep (Kept.of_below k)) (htab1.below k) (hC1.keep (Kept.of_below (ok := fun _ => True) k) trivial))
  have BS := Lib.hid (fun wr (k : Below W1.heap.size W1 wr) => hbs.keep k)
  have BM := Lib.hid (fun wr (k : Below W1.heap.size W1 wr) => hbm.keep k)
  have BE := Lib.hid (fun wr (k : Below W1.heap.size W1 wr) => hbe.keep (Kept.of_below (ok := fun _ => True) k) trivial)
  have FIN := Lib.hid (fun wr (k : Below W1.heap.size W1 wr) => hb1.trans (k.mono hb1.size))
  obtain ⟨xs, hxe, hxs, hxr⟩ := hs1.enums.ec
  obtain ⟨ys, hye, hys, hyr⟩ := hm1.enums.ec
  have hxl : s.enums.length = xs.length := by rw [← hxe]; simp
  have hyl : m.enums.length = ys.length := by rw [← hye]; simp
  obtain ⟨nE, hnE⟩ : ∃ nE, nE = (xs ++ ys).length := ⟨_, rfl⟩
  obtain ⟨nA, hnA⟩ : ∃ nA, nA = (s.attrs ++ m.attrs).length := ⟨_, rfl⟩
  obtain ⟨nF, hnF⟩ : ∃ nF, nF = (s.fields ++ m.fields).length := ⟨_, rfl⟩
  have CA := Lib.hid (fun (h1 : s.attrs.length ≤ 50) (h2 : m.attrs.length ≤ 50) (B : Nat) wr (hB : B ≤ wr.heap.size) (k : Below W1.heap.size W1 wr) => join_at B nA s.attrs m.attrs hnA pa ma ca da wr hB (hs1.later k).attrs (hm1.later k).attrs (by omega) (by omega))
  have CF := Lib.hid (fun (h1 : s.fields.length ≤ 50) (h2 : m.fields.length ≤ 50) (B : Nat) wr (hB : B ≤ wr.heap.size) (k : Below W1.heap.size W1 wr) => join_at B nF s.fields m.fields hnF pf mf cf df wr hB (hs1.later k).fields (hm1.later k).fields (by omega) (by omega))
  have A1 := Lib.hid (fun (h1 : s.enums.length ≤ 50) (B : Nat) wr (hB : B ≤ wr.heap.size) (k : Below W1.heap.size W1 wr) => more_ap1 B xs s.enums.length hxl pe ce wr hB (by omega) (fun i hi => by
    obtain ⟨b, o, e, hb, g0, g1⟩ := hxr i hi
    exact ⟨b, o, e, Nat.lt_of_lt_of_le hb k.size, (k.cell (p := ⟨b, _, none⟩) hb).trans g0, (k.cell (p := ⟨b, _, none⟩) hb).trans g1⟩))
  have A2 := Lib.hid (fun (h1 : s.enums.length ≤ 50) (h2 : m.enums.length ≤ 50) (B : Nat) wr (hB : B ≤ wr.heap.size) (k : Below W1.heap.size W1 wr) q cc (h : wr.ownsRow B 44 2 (.slice q s.enums.length cc) s.enums.length (enumC xs)) => more_ap2 B xs ys s.enums.length m.enums.length nE hxl hyl hnE me de wr hB (by omega) (by omega) q cc h (fun i hi => by
    obtain ⟨b, o, e, hb, g0, g1⟩ := hyr i hi
    exact ⟨b, o, e, Nat.lt_of_lt_of_le hb k.size, (k.cell (p := ⟨b, _, none⟩) hb).trans g0, (k.cell (p := ⟨b, _, none⟩) hb).trans g1⟩))
  have OM := Lib.hid (fun (h1 : s.enums.length ≤ 50) (h2 : m.enums.length ≤ 50) (h3 : s.attrs.length ≤ 50) (h4 : m.attrs.length ≤ 50) (h5 : s.fields.length ≤ 50) (h6 : m.fields.length ≤ 50) (B : Nat) wr (k : Below W1.heap.size W1 wr) (qe qa qf : Option Addr) (c1 c2 c3 : Nat) (oe : wr.ownsRow B 44 2 (.slice qe nE c1) nE (enumC (xs ++ ys))) (oa : wr.ownsRow B 46 3 (.slice qa nA c2) nA (attrC (s.attrs ++ m.attrs))) (of_ : wr.ownsRow B 46 3 (.slice qf nF c3) nF (attrC (s.fields ++ m.fields))) =>
    show Calls Tryd.prog 8 #[.slice qe nE c1, .slice qa nA c2, .slice qf nF c3, .agg #[.int .i64 t.op, .int .i64 t.num, .string (S t.text), .slice p t.args.len c]] wr (fun e w' => e = retT (ofM (s.more m) t) ∧ Below wr.heap.size wr w') from by
      have e1 : nE = (s.more m).enums.length := by rw [hnE]; show _ = (s.enums ++ m.enums).length; rw [List.length_append, List.length_append, hxl, hyl]
      have e2 : nA = (s.more m).attrs.length := hnA
      have e3 : nF = (s.more m).fields.length := hnF
      have hE := EnumsAt.of_own hnE oe (fun y hy => by
        rcases List.mem_append.1 hy with h | h
        · exact (hxs y h).later k
        · exact (hys y h).later k)
      rw [List.map_append, hxe, hye] at hE
      have hA := AttrsAt.of_own' hnA oa
      have hF := AttrsAt.of_own' hnF of_
      rw [e1, e2, e3]
      exact of_any (s.more m) qe qa qf c1 c2 c3 ⟨by show (s.enums ++ m.enums).length ≤ _; rw [List.length_append]; omega, by show (s.attrs ++ m.attrs).length ≤ _; rw [List.length_append]; omega, by show (s.fields ++ m.fields).length ≤ _; rw [List.length_append]; omega,
        fun e he => (List.mem_append.1 he).elim (hf.syms e) (hmf.syms e), fun a ha => (List.mem_append.1 ha).elim (hf.ae a) (hmf.ae a), fun a ha => (List.mem_append.1 ha).elim (hf.fe a) (hmf.fe a)⟩ t hfit hnums p c wr ⟨hE, hA, hF⟩ (hfa1.keep (Kept.of_below k)) (htab1.below k) (hC1.keep (Kept.of_below (ok := fun _ => True) k) trivial))
  have EQ := Lib.hid (of_more s m t)
  have SL := Lib.hid (fun (h : smallS s = true) => small_enums h)
  have ML := Lib.hid (fun (h : smallS m = true) => small_enums h)
  have HW1 := Lib.hid hW1
  have HR1 := Lib.hid (Below.refl W1.heap.size W1)
  clear hs hf hm hmf hfa hfit hnums htab hC hb1 hbs hbm hbe htab1 hC1 hs1 hm1 hfa1 hW1 hxe hxs hxr hye hys hyr hxl hyl hnE hnA hnF
  go_enter Tryd.func4, Tryd.ntmps4
  go_wp2_with fail
  rw [← HW1.out]
  refine (AW.out W1 HR1.out).mono ?_
  rintro e w2 ⟨rfl, b2⟩
  have B2 := Lib.hid b2
  have hbs2 := BS.out w2 b2
  have q0 := hbs2.c0
  have q1 := hbs2.c1
  have q2 := hbs2.c2
  have SM2 := Lib.hid (SM.out w2 b2)
  clear b2 hbs2
  go_wp2_with fail
  refine SM2.out.mono ?_
  rintro e w3 ⟨rfl, b3⟩
  have B3 := Lib.hid (B2.out.trans (b3.mono B2.out.size))
  clear b3 q0 q1 q2
  cases hsm : smallS s with
  | false =>
    have AW3 := Lib.hid (AW.out w3 B3.out)
    go_wp2_with fail
    refine AW3.out.mono ?_
    rintro e w4 ⟨rfl, b4⟩
    have B4 := Lib.hid (B3.out.trans (b4.mono B3.out.size))
    clear b4
    go_wp2_with fail
    try simp only [Exit.inBlock, Exit.then]
    go_ret
    exact ⟨rfl, FIN.out _ B4.out⟩
  | true =>
    obtain ⟨hle, _, hla, hlf⟩ := SL.out hsm
    clear hsm
    have hbm3 := BM.out w3 B3.out
    have q0 := hbm3.c0
    have q1 := hbm3.c1
    have q2 := hbm3.c2
    have MM3 := Lib.hid (MM.out w3 B3.out)
    clear hbm3
    go_wp2_with fail
    refine MM3.out.mono ?_
    rintro e w4 ⟨rfl, b4⟩
    have B4 := Lib.hid (B3.out.trans (b4.mono B3.out.size))
    clear b4 q0 q1 q2
    cases hsm : smallS m with
    | false =>
      have AW4 := Lib.hid (AW.out w4 B4.out)
      go_wp2_with fail
      refine AW4.out.mono ?_
      rintro e w5 ⟨rfl, b5⟩
      have B5 := Lib.hid (B4.out.trans (b5.mono B4.out.size))
      clear b5
      go_wp2_with fail
      try simp only [Exit.inBlock, Exit.then]
      go_ret
      exact ⟨rfl, FIN.out _ B5.out⟩
    | true =>
      obtain ⟨hme, _, hma, hmf⟩ := ML.out hsm
      clear hsm
      have hbs4 := BS.out w4 B4.out
      have hbe4 := BE.out w4 B4.out
      have q0 := hbs4.c0
      have q1 := hbs4.c1
      have q2 := hbs4.c2
      have p0 := hbe4.c0
      have p1 := hbe4.c1
      have p2 := hbe4.c2
      have p3 := hbe4.c3
      have OF4 := OF.out w4 B4.out
      have OFB := Lib.hid (OM.out hle hme hla hma hlf hmf)
      have EQ2 := Lib.hid EQ.out
      clear hbs4 hbe4 EQ OM
      generalize ofM (s.more m) t = zz at *
      generalize ofM s t = xx at *
      obtain ⟨⟨xk, xe, xl⟩, er⟩ := xx
      unfold retT at OF4
      simp only at OF4 EQ2
      have OF5 := Lib.hid OF4
      clear OF4
      go_wp2_with fail
      refine OF5.out.mono ?_
      rintro e w5 ⟨rfl, b5⟩
      clear q0 q1 q2 p0 p1 p2 p3
      by_cases her : er = 0
      · subst her
        have ez := EQ2.out rfl
        rw [ez] at OFB
        unfold retT at OFB
        simp only at OFB
        have OFC := Lib.hid OFB.out
        clear ez OFB EQ2
        go_upto_region 9 with fail
        have ba5 := b5.trans (((Below.refl w5.heap.size w5).alloc (Nat.le_refl _) (.cells #[.int .i64 xk, .string (S xe), .string (S xl)] 33)).mono b5.size)
        have hb6 := B4.out.trans (ba5.mono B4.out.size)
        have htb := TB.new w5 (.int .i64 xk) (.string (S xe)) (.string (S xl)) _ rfl
        obtain ⟨W6, hW6⟩ : ∃ W6, W6 = w5.alloc (.cells #[.int .i64 xk, .string (S xe), .string (S xl)] 33) := ⟨_, rfl⟩
        rw [← hW6] at hb6 htb ⊢
        have B6 := Lib.hid hb6
        have HTB := Lib.hid htb
        have CV := Lib.hid (fun w' (k : Below W6.heap.size W6 w') => hb6.trans (k.mono hb6.size))
        have R6 := Lib.hid (Below.refl W6.heap.size W6)
        have R6d := Lib.hid (Below.refl W6.heap.size W6).drew
        have HS7 := Lib.hid (fun w' (k6 : Below W6.heap.size W6 w') => have k := hb6.trans (k6.mono hb6.size); show w'.cell? ⟨w.heap.size, 0, none⟩ = some (.slice pe s.enums.length ce) ∧ w'.cell? ⟨w.heap.size, 1, none⟩ = some (.slice pa s.attrs.length ca) ∧ w'.cell? ⟨w.heap.size, 2, none⟩ = some (.slice pf s.fields.length cf) ∧ w'.cell? ⟨w.heap.size + 1, 0, none⟩ = some (.slice me m.enums.length de) ∧ w'.cell? ⟨w.heap.size + 1, 1, none⟩ = some (.slice ma m.attrs.length da) ∧ w'.cell? ⟨w.heap.size + 1, 2, none⟩ = some (.slice mf m.fields.length df) ∧ w'.cell? ⟨w.heap.size + 1 + 1, 0, none⟩ = some (.int .i64 t.op) ∧ w'.cell? ⟨w.heap.size + 1 + 1, 1, none⟩ = some (.int .i64 t.num) ∧ w'.cell? ⟨w.heap.size + 1 + 1, 2, none⟩ = some (.string (S t.text)) ∧ w'.cell? ⟨w.heap.size + 1 + 1, 3, none⟩ = some (.slice p t.args.len c) from ⟨(BS.out w' k).c0, (BS.out w' k).c1, (BS.out w' k).c2, (BM.out w' k).c0, (BM.out w' k).c1, (BM.out w' k).c2, (BE.out w' k).c0, (BE.out w' k).c1, (BE.out w' k).c2, (BE.out w' k).c3⟩)
        have hsz6 := hb6.size
        have hszd : W6.drew.heap.size = W6.heap.size := rfl
        have hszw := (BE.out W1 HR1.out).lt
        have AP1 := Lib.hid (fun wr (k : Below W6.heap.size W6 wr) => A1.out hle W6.heap.size wr k.size (hb6.trans (k.mono hb6.size)))
        have AP2 := Lib.hid (fun wr (k : Below W6.heap.size W6 wr) => A2.out hle hme W6.heap.size wr k.size (hb6.trans (k.mono hb6.size)))
        have JA := Lib.hid (fun wr (k : Below W6.heap.size W6 wr) => CA.out hla hma W6.heap.size wr k.size (hb6.trans (k.mono hb6.size)))
        have JF := Lib.hid (fun wr (k : Below W6.heap.size W6 wr) => CF.out hlf hmf W6.heap.size wr k.size (hb6.trans (k.mono hb6.size)))
        have OFD := Lib.hid (fun wr (k : Below W6.heap.size W6 wr) => OFC.out W6.heap.size wr (hb6.trans (k.mono hb6.size)))
        clear b5 ba5 hb6 htb hW6 A1 A2 CA CF OFC
        go_cut [10, 11] (fun x9 x10 wx => x10 = .int .i64 0 ∧ ∃ H, x9 = .pointer (some ⟨H, 0, none⟩) ∧ TB wx H (.int .i64 xk) (.string (S xe)) (.string (S xl)) ∧ Below W6.heap.size W6 wx)
        case first =>
          go_region_held3 (fun w' => w'.cell? ⟨w.heap.size, 0, none⟩ = some (.slice pe s.enums.length ce) ∧ w'.cell? ⟨w.heap.size, 1, none⟩ = some (.slice pa s.attrs.length ca) ∧ w'.cell? ⟨w.heap.size, 2, none⟩ = some (.slice pf s.fields.length cf) ∧ w'.cell? ⟨w.heap.size + 1, 0, none⟩ = some (.slice me m.enums.length de) ∧ w'.cell? ⟨w.heap.size + 1, 1, none⟩ = some (.slice ma m.attrs.length da) ∧ w'.cell? ⟨w.heap.size + 1, 2, none⟩ = some (.slice mf m.fields.length df) ∧ w'.cell? ⟨w.heap.size + 1 + 1, 0, none⟩ = some (.int .i64 t.op) ∧ w'.cell? ⟨w.heap.size + 1 + 1, 1, none⟩ = some (.int .i64 t.num) ∧ w'.cell? ⟨w.heap.size + 1 + 1, 2, none⟩ = some (.string (S t.text)) ∧ w'.cell? ⟨w.heap.size + 1 + 1, 3, none⟩ = some (.slice p t.args.len c))
            (first | with_reducible assumption | exact HS7.out _ R6d.out | exact ⟨by with_reducible assumption, by with_reducible assumption, by with_reducible assumption, by with_reducible assumption, by with_reducible assumption, by with_reducible assumption, by with_reducible assumption, by with_reducible assumption, by with_reducible assumption, by with_reducible assumption⟩ | exact HS7.out _ (Below.alloc (by with_reducible assumption) (Below.size (by with_reducible assumption)) _) | exact HS7.out _ (Below.alloc R6d.out R6d.out.size _) | exact HS7.out _ (Below.alloc R6.out R6.out.size _).drew | exact ⟨(set3_other _ _ _ _ _ _ _ (by omega)).trans (by with_reducible assumption), (set3_other _ _ _ _ _ _ _ (by omega)).trans (by with_reducible assumption), (set3_other _ _ _ _ _ _ _ (by omega)).trans (by with_reducible assumption), (set3_other _ _ _ _ _ _ _ (by omega)).trans (by with_reducible assumption), (set3_other _ _ _ _ _ _ _ (by omega)).trans (by with_reducible assumption), (set3_other _ _ _ _ _ _ _ (by omega)).trans (by with_reducible assumption), (set3_other _ _ _ _ _ _ _ (by omega)).trans (by with_reducible assumption), (set3_other _ _ _ _ _ _ _ (by omega)).trans (by with_reducible assumption), (set3_other _ _ _ _ _ _ _ (by omega)).trans (by with_reducible assumption), (set3_other _ _ _ _ _ _ _ (by omega)).trans (by with_reducible assumption)⟩ | go_keep)
            (first
              | (refine step_appE rfl _ _ _ _ rfl rfl rfl _ (AP1.out _ (by first | with_reducible assumption | exact R6d.out | exact Below.alloc (by with_reducible assumption) (Below.size (by with_reducible assumption)) _ | exact Below.alloc R6d.out R6d.out.size _ | exact (Below.alloc R6.out R6.out.size _).drew)) ?_; rintro q1 c1 wn ⟨oe1, b1⟩; have bk : Below W6.heap.size W6 wn := Below.trans (by first | with_reducible assumption | exact R6d.out | exact Below.alloc (by with_reducible assumption) (Below.size (by with_reducible assumption)) _ | exact Below.alloc R6d.out R6d.out.size _ | exact (Below.alloc R6.out R6.out.size _).drew) (b1.mono (Below.size (show Below W6.heap.size W6 _ from (by first | with_reducible assumption | exact R6d.out | exact Below.alloc (by with_reducible assumption) (Below.size (by with_reducible assumption)) _ | exact Below.alloc R6d.out R6d.out.size _ | exact (Below.alloc R6.out R6.out.size _).drew)))); obtain ⟨s0, s1, s2, s3, s4, s5, s6, s7, s8, s9⟩ := HS7.out _ bk; (try have oe1 := own_later (show World.ownsRow _ W6.heap.size 44 2 (.slice _ s.enums.length _) s.enums.length (enumC xs) from by first | with_reducible assumption | exact own_later (by with_reducible assumption) ((Below.refl _ _).alloc (Nat.le_refl _) _)) b1); (try have oe2 := own_later (show World.ownsRow _ W6.heap.size 44 2 (.slice _ nE _) nE (enumC (xs ++ ys)) from by first | with_reducible assumption | exact own_later (by with_reducible assumption) ((Below.refl _ _).alloc (Nat.le_refl _) _)) b1); (try have oa := own_later (show World.ownsRow _ W6.heap.size 46 3 (.slice _ nA _) nA (attrC (s.attrs ++ m.attrs)) from by first | with_reducible assumption | exact own_later (by with_reducible assumption) ((Below.refl _ _).alloc (Nat.le_refl _) _)) b1); (try have of := own_later (show World.ownsRow _ W6.heap.size 46 3 (.slice _ nF _) nF (attrC (s.fields ++ m.fields)) from by first | with_reducible assumption | exact own_later (by with_reducible assumption) ((Below.refl _ _).alloc (Nat.le_refl _) _)) b1); have hsz := bk.size; (try have tbn := TB.later (show TB _ _ (.int .i64 0) (.string ⟨#[]⟩) (.string ⟨#[]⟩) from by first | with_reducible assumption | exact TB.new W6.drew _ _ _ W6.heap.size rfl | exact TB.new W6 _ _ _ W6.heap.size rfl | exact TB.new _ _ _ _ _ rfl) b1); (try have tk0 := TB.c0 (show TB wn _ (.int .i64 0) (.string ⟨#[]⟩) (.string ⟨#[]⟩) from by with_reducible assumption)); (try have tk1 := TB.c1 (show TB wn _ (.int .i64 0) (.string ⟨#[]⟩) (.string ⟨#[]⟩) from by with_reducible assumption)); (try have tk2 := TB.c2 (show TB wn _ (.int .i64 0) (.string ⟨#[]⟩) (.string ⟨#[]⟩) from by with_reducible assumption)); (try have tfz := TB.fz (show TB wn _ (.int .i64 0) (.string ⟨#[]⟩) (.string ⟨#[]⟩) from by with_reducible assumption)); clear b1)
              | (refine step_appE rfl _ _ _ _ rfl rfl rfl _ (AP2.out _ (by first | with_reducible assumption | exact R6d.out | exact Below.alloc (by with_reducible assumption) (Below.size (by with_reducible assumption)) _ | exact Below.alloc R6d.out R6d.out.size _ | exact (Below.alloc R6.out R6.out.size _).drew) _ _ (show World.ownsRow _ W6.heap.size 44 2 (.slice _ s.enums.length _) s.enums.length (enumC xs) from by first | with_reducible assumption | exact own_later (by with_reducible assumption) ((Below.refl _ _).alloc (Nat.le_refl _) _))) ?_; rintro q2 c2 wn ⟨oe2, g2⟩; have bk : Below W6.heap.size W6 wn := Below.grown (show Below W6.heap.size W6 _ from (by first | with_reducible assumption | exact R6d.out | exact Below.alloc (by with_reducible assumption) (Below.size (by with_reducible assumption)) _ | exact Below.alloc R6d.out R6d.out.size _ | exact (Below.alloc R6.out R6.out.size _).drew)) g2 (Below.size (show Below W6.heap.size W6 _ from (by first | with_reducible assumption | exact R6d.out | exact Below.alloc (by with_reducible assumption) (Below.size (by with_reducible assumption)) _ | exact Below.alloc R6d.out R6d.out.size _ | exact (Below.alloc R6.out R6.out.size _).drew))) (fun k hk => (World.ownsRow.lt (show World.ownsRow _ W6.heap.size 44 2 (.slice _ s.enums.length _) s.enums.length (enumC xs) from by first | with_reducible assumption | exact own_later (by with_reducible assumption) ((Below.refl _ _).alloc (Nat.le_refl _) _)) k hk).1); obtain ⟨s0, s1, s2, s3, s4, s5, s6, s7, s8, s9⟩ := HS7.out _ bk; (try have oa := own_grown (show World.ownsRow _ W6.heap.size 44 2 (.slice _ s.enums.length _) s.enums.length (enumC xs) from by first | with_reducible assumption | exact own_later (by with_reducible assumption) ((Below.refl _ _).alloc (Nat.le_refl _) _)) (show World.ownsRow _ W6.heap.size 46 3 (.slice _ nA _) nA (attrC (s.attrs ++ m.attrs)) from by first | with_reducible assumption | exact own_later (by with_reducible assumption) ((Below.refl _ _).alloc (Nat.le_refl _) _)) tyne g2); (try have of := own_grown (show World.ownsRow _ W6.heap.size 44 2 (.slice _ s.enums.length _) s.enums.length (enumC xs) from by first | with_reducible assumption | exact own_later (by with_reducible assumption) ((Below.refl _ _).alloc (Nat.le_refl _) _)) (show World.ownsRow _ W6.heap.size 46 3 (.slice _ nF _) nF (attrC (s.fields ++ m.fields)) from by first | with_reducible assumption | exact own_later (by with_reducible assumption) ((Below.refl _ _).alloc (Nat.le_refl _) _)) tyne g2); have hsz := bk.size; (try have tbn := TB.grown (show TB _ _ (.int .i64 0) (.string ⟨#[]⟩) (.string ⟨#[]⟩) from by first | with_reducible assumption | exact TB.new W6.drew _ _ _ W6.heap.size rfl | exact TB.new W6 _ _ _ W6.heap.size rfl | exact TB.new _ _ _ _ _ rfl) (show World.ownsRow _ W6.heap.size 44 2 (.slice _ s.enums.length _) s.enums.length (enumC xs) from by first | with_reducible assumption | exact own_later (by with_reducible assumption) ((Below.refl _ _).alloc (Nat.le_refl _) _)) g2); (try have tk0 := TB.c0 (show TB wn _ (.int .i64 0) (.string ⟨#[]⟩) (.string ⟨#[]⟩) from by with_reducible assumption)); (try have tk1 := TB.c1 (show TB wn _ (.int .i64 0) (.string ⟨#[]⟩) (.string ⟨#[]⟩) from by with_reducible assumption)); (try have tk2 := TB.c2 (show TB wn _ (.int .i64 0) (.string ⟨#[]⟩) (.string ⟨#[]⟩) from by with_reducible assumption)); (try have tfz := TB.fz (show TB wn _ (.int .i64 0) (.string ⟨#[]⟩) (.string ⟨#[]⟩) from by with_reducible assumption)); clear g2)
              | (go_at_call 11; (with_reducible refine (JA.out _ (by first | with_reducible assumption | exact R6d.out | exact Below.alloc (by with_reducible assumption) (Below.size (by with_reducible assumption)) _ | exact Below.alloc R6d.out R6d.out.size _ | exact (Below.alloc R6.out R6.out.size _).drew)).mono ?_); rintro e wn ⟨qn, cn, rfl, oan, bn⟩; have bk : Below W6.heap.size W6 wn := Below.trans (by first | with_reducible assumption | exact R6d.out | exact Below.alloc (by with_reducible assumption) (Below.size (by with_reducible assumption)) _ | exact Below.alloc R6d.out R6d.out.size _ | exact (Below.alloc R6.out R6.out.size _).drew) (bn.mono (Below.size (show Below W6.heap.size W6 _ from (by first | with_reducible assumption | exact R6d.out | exact Below.alloc (by with_reducible assumption) (Below.size (by with_reducible assumption)) _ | exact Below.alloc R6d.out R6d.out.size _ | exact (Below.alloc R6.out R6.out.size _).drew)))); obtain ⟨s0, s1, s2, s3, s4, s5, s6, s7, s8, s9⟩ := HS7.out _ bk; (try have oe1 := own_later (show World.ownsRow _ W6.heap.size 44 2 (.slice _ s.enums.length _) s.enums.length (enumC xs) from by first | with_reducible assumption | exact own_later (by with_reducible assumption) ((Below.refl _ _).alloc (Nat.le_refl _) _)) bn); (try have oe2 := own_later (show World.ownsRow _ W6.heap.size 44 2 (.slice _ nE _) nE (enumC (xs ++ ys)) from by first | with_reducible assumption | exact own_later (by with_reducible assumption) ((Below.refl _ _).alloc (Nat.le_refl _) _)) bn); (try have oa := own_later (show World.ownsRow _ W6.heap.size 46 3 (.slice _ nA _) nA (attrC (s.attrs ++ m.attrs)) from by first | with_reducible assumption | exact own_later (by with_reducible assumption) ((Below.refl _ _).alloc (Nat.le_refl _) _)) bn); (try have of := own_later (show World.ownsRow _ W6.heap.size 46 3 (.slice _ nF _) nF (attrC (s.fields ++ m.fields)) from by first | with_reducible assumption | exact own_later (by with_reducible assumption) ((Below.refl _ _).alloc (Nat.le_refl _) _)) bn); have hsz := bk.size; (try have tbn := TB.later (show TB _ _ (.int .i64 0) (.string ⟨#[]⟩) (.string ⟨#[]⟩) from by first | with_reducible assumption | exact TB.new W6.drew _ _ _ W6.heap.size rfl | exact TB.new W6 _ _ _ W6.heap.size rfl | exact TB.new _ _ _ _ _ rfl) bn); (try have tk0 := TB.c0 (show TB wn _ (.int .i64 0) (.string ⟨#[]⟩) (.string ⟨#[]⟩) from by with_reducible assumption)); (try have tk1 := TB.c1 (show TB wn _ (.int .i64 0) (.string ⟨#[]⟩) (.string ⟨#[]⟩) from by with_reducible assumption)); (try have tk2 := TB.c2 (show TB wn _ (.int .i64 0) (.string ⟨#[]⟩) (.string ⟨#[]⟩) from by with_reducible assumption)); (try have tfz := TB.fz (show TB wn _ (.int .i64 0) (.string ⟨#[]⟩) (.string ⟨#[]⟩) from by with_reducible assumption)); clear bn)
              | (go_at_call 11; (with_reducible refine (JF.out _ (by first | with_reducible assumption | exact R6d.out | exact Below.alloc (by with_reducible assumption) (Below.size (by with_reducible assumption)) _ | exact Below.alloc R6d.out R6d.out.size _ | exact (Below.alloc R6.out R6.out.size _).drew)).mono ?_); rintro e wn ⟨qn, cn, rfl, ofn, bn⟩; have bk : Below W6.heap.size W6 wn := Below.trans (by first | with_reducible assumption | exact R6d.out | exact Below.alloc (by with_reducible assumption) (Below.size (by with_reducible assumption)) _ | exact Below.alloc R6d.out R6d.out.size _ | exact (Below.alloc R6.out R6.out.size _).drew) (bn.mono (Below.size (show Below W6.heap.size W6 _ from (by first | with_reducible assumption | exact R6d.out | exact Below.alloc (by with_reducible assumption) (Below.size (by with_reducible assumption)) _ | exact Below.alloc R6d.out R6d.out.size _ | exact (Below.alloc R6.out R6.out.size _).drew)))); obtain ⟨s0, s1, s2, s3, s4, s5, s6, s7, s8, s9⟩ := HS7.out _ bk; (try have oe1 := own_later (show World.ownsRow _ W6.heap.size 44 2 (.slice _ s.enums.length _) s.enums.length (enumC xs) from by first | with_reducible assumption | exact own_later (by with_reducible assumption) ((Below.refl _ _).alloc (Nat.le_refl _) _)) bn); (try have oe2 := own_later (show World.ownsRow _ W6.heap.size 44 2 (.slice _ nE _) nE (enumC (xs ++ ys)) from by first | with_reducible assumption | exact own_later (by with_reducible assumption) ((Below.refl _ _).alloc (Nat.le_refl _) _)) bn); (try have oa := own_later (show World.ownsRow _ W6.heap.size 46 3 (.slice _ nA _) nA (attrC (s.attrs ++ m.attrs)) from by first | with_reducible assumption | exact own_later (by with_reducible assumption) ((Below.refl _ _).alloc (Nat.le_refl _) _)) bn); (try have of := own_later (show World.ownsRow _ W6.heap.size 46 3 (.slice _ nF _) nF (attrC (s.fields ++ m.fields)) from by first | with_reducible assumption | exact own_later (by with_reducible assumption) ((Below.refl _ _).alloc (Nat.le_refl _) _)) bn); have hsz := bk.size; (try have tbn := TB.later (show TB _ _ (.int .i64 0) (.string ⟨#[]⟩) (.string ⟨#[]⟩) from by first | with_reducible assumption | exact TB.new W6.drew _ _ _ W6.heap.size rfl | exact TB.new W6 _ _ _ W6.heap.size rfl | exact TB.new _ _ _ _ _ rfl) bn); (try have tk0 := TB.c0 (show TB wn _ (.int .i64 0) (.string ⟨#[]⟩) (.string ⟨#[]⟩) from by with_reducible assumption)); (try have tk1 := TB.c1 (show TB wn _ (.int .i64 0) (.string ⟨#[]⟩) (.string ⟨#[]⟩) from by with_reducible assumption)); (try have tk2 := TB.c2 (show TB wn _ (.int .i64 0) (.string ⟨#[]⟩) (.string ⟨#[]⟩) from by with_reducible assumption)); (try have tfz := TB.fz (show TB wn _ (.int .i64 0) (.string ⟨#[]⟩) (.string ⟨#[]⟩) from by with_reducible assumption)); clear bn)
              | (go_at_call 8; (with_reducible refine (OFD.out _ (by first | with_reducible assumption | exact R6d.out | exact Below.alloc (by with_reducible assumption) (Below.size (by with_reducible assumption)) _ | exact Below.alloc R6d.out R6d.out.size _ | exact (Below.alloc R6.out R6.out.size _).drew) _ _ _ _ _ _ (show World.ownsRow _ W6.heap.size 44 2 (.slice _ nE _) nE (enumC (xs ++ ys)) from by first | with_reducible assumption | exact own_later (by with_reducible assumption) ((Below.refl _ _).alloc (Nat.le_refl _) _)) (show World.ownsRow _ W6.heap.size 46 3 (.slice _ nA _) nA (attrC (s.attrs ++ m.attrs)) from by first | with_reducible assumption | exact own_later (by with_reducible assumption) ((Below.refl _ _).alloc (Nat.le_refl _) _)) (show World.ownsRow _ W6.heap.size 46 3 (.slice _ nF _) nF (attrC (s.fields ++ m.fields)) from by first | with_reducible assumption | exact own_later (by with_reducible assumption) ((Below.refl _ _).alloc (Nat.le_refl _) _))).mono ?_); rintro e wn ⟨rfl, bn⟩; have bk : Below W6.heap.size W6 wn := Below.trans (by first | with_reducible assumption | exact R6d.out | exact Below.alloc (by with_reducible assumption) (Below.size (by with_reducible assumption)) _ | exact Below.alloc R6d.out R6d.out.size _ | exact (Below.alloc R6.out R6.out.size _).drew) (bn.mono (Below.size (show Below W6.heap.size W6 _ from (by first | with_reducible assumption | exact R6d.out | exact Below.alloc (by with_reducible assumption) (Below.size (by with_reducible assumption)) _ | exact Below.alloc R6d.out R6d.out.size _ | exact (Below.alloc R6.out R6.out.size _).drew)))); obtain ⟨s0, s1, s2, s3, s4, s5, s6, s7, s8, s9⟩ := HS7.out _ bk; (try have oe1 := own_later (show World.ownsRow _ W6.heap.size 44 2 (.slice _ s.enums.length _) s.enums.length (enumC xs) from by first | with_reducible assumption | exact own_later (by with_reducible assumption) ((Below.refl _ _).alloc (Nat.le_refl _) _)) bn); (try have oe2 := own_later (show World.ownsRow _ W6.heap.size 44 2 (.slice _ nE _) nE (enumC (xs ++ ys)) from by first | with_reducible assumption | exact own_later (by with_reducible assumption) ((Below.refl _ _).alloc (Nat.le_refl _) _)) bn); (try have oa := own_later (show World.ownsRow _ W6.heap.size 46 3 (.slice _ nA _) nA (attrC (s.attrs ++ m.attrs)) from by first | with_reducible assumption | exact own_later (by with_reducible assumption) ((Below.refl _ _).alloc (Nat.le_refl _) _)) bn); (try have of := own_later (show World.ownsRow _ W6.heap.size 46 3 (.slice _ nF _) nF (attrC (s.fields ++ m.fields)) from by first | with_reducible assumption | exact own_later (by with_reducible assumption) ((Below.refl _ _).alloc (Nat.le_refl _) _)) bn); have hsz := bk.size; (try have tbn := TB.later (show TB _ _ (.int .i64 0) (.string ⟨#[]⟩) (.string ⟨#[]⟩) from by first | with_reducible assumption | exact TB.new W6.drew _ _ _ W6.heap.size rfl | exact TB.new W6 _ _ _ W6.heap.size rfl | exact TB.new _ _ _ _ _ rfl) bn); (try have tk0 := TB.c0 (show TB wn _ (.int .i64 0) (.string ⟨#[]⟩) (.string ⟨#[]⟩) from by with_reducible assumption)); (try have tk1 := TB.c1 (show TB wn _ (.int .i64 0) (.string ⟨#[]⟩) (.string ⟨#[]⟩) from by with_reducible assumption)); (try have tk2 := TB.c2 (show TB wn _ (.int .i64 0) (.string ⟨#[]⟩) (.string ⟨#[]⟩) from by with_reducible assumption)); (try have tfz := TB.fz (show TB wn _ (.int .i64 0) (.string ⟨#[]⟩) (.string ⟨#[]⟩) from by with_reducible assumption)); clear bn))
          all_goals go_wp2_with fail
          all_goals go_meet
          all_goals (refine ⟨rfl, _, rfl, ?_, ?_⟩)
          all_goals (first | exact TB.new _ _ _ _ _ rfl | exact TB.put (a := .int .i64 0) (b := .string ⟨#[]⟩) (c := .string ⟨#[]⟩) (by with_reducible assumption) _ _ _ | exact Below.alloc (by with_reducible assumption) (Below.size (by with_reducible assumption)) _ | exact ((Below.setCell (by with_reducible assumption) (by first | exact Nat.le_refl _ | (simp; omega) | simp) _).setCell (by first | exact Nat.le_refl _ | (simp; omega) | simp) _).setCell (by first | exact Nat.le_refl _ | (simp; omega) | simp) _)
        case rest =>
          obtain ⟨rfl, H, rfl, htb2, b7⟩ := hcut
          have B7 := Lib.hid (B6.out.trans (b7.mono B6.out.size))
          have htb1 := HTB.out.later b7
          have AW7 := Lib.hid (AW.out _ B7.out)
          have T1 := Lib.hid htb1
          have T2 := Lib.hid htb2
          clear b7 htb1 htb2
          go_wp2_with fail
          refine AW7.out.mono ?_
          rintro e w8 ⟨rfl, b8⟩
          have B8 := Lib.hid (B7.out.trans (b8.mono B7.out.size))
          have h1 := T1.out.later b8
          have h2 := T2.out.later b8
          have q0 := h1.c0
          have q1 := h1.c1
          have q2 := h1.c2
          have p0 := h2.c0
          have p1 := h2.c1
          have p2 := h2.c2
          clear b8 h1 h2
          go_wp2_with fail
          go_ret
          exact ⟨rfl, FIN.out _ B8.out⟩
      · have e1 : ((er : Int) == 0) = false := by rw [beq_eq_false_iff_ne]; omega
        have e2 : ((er : Int) != 0) = true := by simp; exact her
        have b6 := b5.trans (((Below.refl w5.heap.size w5).alloc (Nat.le_refl _) (.cells #[.int .i64 xk, .string (S xe), .string (S xl)] 33)).mono b5.size)
        have AW6 := Lib.hid (AW.out _ (B4.out.trans (b6.mono B4.out.size)))
        have B6 := Lib.hid (B4.out.trans (b6.mono B4.out.size))
        clear b5 b6
        go_wp2_with fail
        refine AW6.out.mono ?_
        rintro e w7 ⟨rfl, b7⟩
        have B7 := Lib.hid (B6.out.trans (b7.mono B6.out.size))
        clear b7
        go_wp2_with fail
        try simp only [Exit.inBlock, Exit.then]
        go_ret
        exact ⟨rfl, FIN.out _ B7.out⟩

end Go.Proofs.YtmjpmekjpbmieaaDoor.Ty
