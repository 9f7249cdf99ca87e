/-
  The law's own: rows one behind the other.
-/
import Derived.Test.YtmjpmekjpbmieaaDoorZTzJ
namespace Go.Proofs.YtmjpmekjpbmieaaDoor.Ty
open Go.RowKit
open Ex Lx
set_option linter.unusedVariables false

theorem infoE : (Tryd.prog.info? 44).map (fun i => (i.zero, i.size, i.bytes)) = some (some (.agg #[.string ⟨#[]⟩, .slice none 0 0]), 2, 40) := by kernel_rfl
/-- A row of enums: of each its name, and where its symbols lie. -/
structure EC where
  e : EnumP
  q : Option Addr
  c : Nat
instance : Inhabited EC := ⟨⟨⟨[], []⟩, none, 0⟩⟩
def enumC (l : List EC) : List Value := l.flatMap fun x => [.string (S x.e.name), .slice x.q x.e.syms.length x.c]
theorem enumC_append (a b : List EC) : enumC (a ++ b) = enumC a ++ enumC b := by simp [enumC]
theorem attrC_length (l : List AttrP) : (attrC l).length = l.length * 3 := by
  induction l with
  | nil => rfl
  | cons x r ih =>
    have e : attrC (x :: r) = [.string (S x.name), .int .i64 x.kind, .string (S x.enum)] ++ attrC r := rfl
    rw [e, List.length_append, ih]; simp; omega
theorem enumC_length (l : List EC) : (enumC l).length = l.length * 2 := by
  induction l with
  | nil => rfl
  | cons x r ih =>
    have e : enumC (x :: r) = [.string (S x.e.name), .slice x.q x.e.syms.length x.c] ++ enumC r := rfl
    rw [e, List.length_append, ih]; simp; omega
theorem attrC_row : ∀ (l : List AttrP) (j : Nat) (u : Value), (attrC l)[j]? = some u → ∃ i, ∃ h : i < l.length, (j = i * 3 ∧ u = .string (S l[i].name)) ∨ (j = i * 3 + 1 ∧ u = .int .i64 l[i].kind) ∨ (j = i * 3 + 2 ∧ u = .string (S l[i].enum))
  | [], j, u, h => by simp [attrC] at h
  | x :: r, j, u, h => by
    have e : attrC (x :: r) = .string (S x.name) :: .int .i64 x.kind :: .string (S x.enum) :: attrC r := rfl
    rw [e] at h
    match j, h with
    | 0, h => exact ⟨0, by simp, .inl ⟨rfl, (Option.some.inj h).symm⟩⟩
    | 1, h => exact ⟨0, by simp, .inr (.inl ⟨rfl, (Option.some.inj h).symm⟩)⟩
    | 2, h => exact ⟨0, by simp, .inr (.inr ⟨rfl, (Option.some.inj h).symm⟩)⟩
    | j + 3, h =>
      obtain ⟨i, hi, hr⟩ := attrC_row r j u (by simpa using h)
      refine ⟨i + 1, by simp; omega, ?_⟩
      rcases hr with ⟨h1, h2⟩ | ⟨h1, h2⟩ | ⟨h1, h2⟩
      · exact .inl ⟨by omega, by simpa using h2⟩
      · exact .inr (.inl ⟨by omega, by simpa using h2⟩)
      · exact .inr (.inr ⟨by omega, by simpa using h2⟩)
theorem enumC_row : ∀ (l : List EC) (j : Nat) (u : Value), (enumC l)[j]? = some u → ∃ i, ∃ h : i < l.length, (j = i * 2 ∧ u = .string (S l[i].e.name)) ∨ (j = i * 2 + 1 ∧ u = .slice l[i].q l[i].e.syms.length l[i].c)
  | [], j, u, h => by simp [enumC] at h
  | x :: r, j, u, h => by
    have e : enumC (x :: r) = .string (S x.e.name) :: .slice x.q x.e.syms.length x.c :: enumC r := rfl
    rw [e] at h
    match j, h with
    | 0, h => exact ⟨0, by simp, .inl ⟨rfl, (Option.some.inj h).symm⟩⟩
    | 1, h => exact ⟨0, by simp, .inr ⟨rfl, (Option.some.inj h).symm⟩⟩
    | j + 2, h =>
      obtain ⟨i, hi, hr⟩ := enumC_row r j u (by simpa using h)
      refine ⟨i + 1, by simp; omega, ?_⟩
      rcases hr with ⟨h1, h2⟩ | ⟨h1, h2⟩
      · exact .inl ⟨by omega, by simpa using h2⟩
      · exact .inr ⟨by omega, by simpa using h2⟩
theorem enumC_get : ∀ (l : List EC) (i : Nat) (h : i < l.length), (enumC l)[i * 2]? = some (.string (S l[i].e.name)) ∧ (enumC l)[i * 2 + 1]? = some (.slice l[i].q l[i].e.syms.length l[i].c)
  | a :: r, 0, _ => ⟨rfl, rfl⟩
  | a :: r, i + 1, h => by
    have e : enumC (a :: r) = .string (S a.e.name) :: .slice a.q a.e.syms.length a.c :: enumC r := rfl
    have := enumC_get r i (by simpa using h)
    rw [e, show (i + 1) * 2 = i * 2 + 1 + 1 by omega]
    simpa using this
/-- Enums that lie somewhere, with their symbols' rows. -/
theorem EnumsAt.ec {w : World} {p : Option Addr} {l : List EnumP} (h : EnumsAt w p l) : ∃ x : List EC, x.map (·.e) = l ∧ (∀ y ∈ x, StrsAt w y.q y.e.syms) ∧ ∀ i, (hi : i < x.length) → ∃ b o, p = some ⟨b, o, none⟩ ∧ b < w.heap.size ∧ w.cell? ⟨b, o + i * 2, none⟩ = some (.string (S x[i].e.name)) ∧ w.cell? ⟨b, o + i * 2 + 1, none⟩ = some (.slice x[i].q x[i].e.syms.length x[i].c) := by
  have hh : ∀ i, i < l.length → ∃ y : EC, y.e = l.getD i ⟨[], []⟩ ∧ StrsAt w y.q y.e.syms ∧ ∃ b o, p = some ⟨b, o, none⟩ ∧ b < w.heap.size ∧ w.cell? ⟨b, o + i * 2, none⟩ = some (.string (S y.e.name)) ∧ w.cell? ⟨b, o + i * 2 + 1, none⟩ = some (.slice y.q y.e.syms.length y.c) := fun i hi => by
    obtain ⟨b, o, q, c, e1, hb, h0, h1, h2⟩ := h i hi
    have e : l.getD i ⟨[], []⟩ = l[i] := by simp [List.getD, hi]
    exact ⟨⟨l[i], q, c⟩, e.symm, h2, b, o, e1, hb, h0, h1⟩
  obtain ⟨F, hF⟩ := Go.Deep.choose_lt hh
  refine ⟨(List.range l.length).map F, ?_, fun y hy => ?_, fun i hi => ?_⟩
  · apply List.ext_getElem
    · simp
    · intro i h1 h2
      simp only [List.getElem_map, List.getElem_range]
      rw [(hF i h2).1]
      simp [List.getD, h2]
  · obtain ⟨i, hi, rfl⟩ := List.mem_map.1 hy
    exact (hF i (by simpa using hi)).2.1
  · simp only [List.getElem_map, List.getElem_range]
    exact (hF i (by simpa using hi)).2.2

set_option maxRecDepth 100000 in
/-- A row of others behind a row of a call's own. -/
theorem app_attrs (B : Nat) (q : Option Addr) (d : List AttrP) (cap : Nat) (w : World) (h : w.ownsRow B 46 3 (.slice q d.length cap) d.length (attrC d)) (hB : B ≤ w.heap.size) (p : Option Addr) (l : List AttrP) (c : Nat) (hs : AttrsAt w p l) (hn : d.length ≤ 1000) (hl : l.length ≤ 1000) :
    ∃ q' cap' w', (Builtin.append_ #[23, 23] 23 #[.slice q d.length cap, .slice p l.length c]).run Tryd.prog w = .ok (.slice q' (d ++ l).length cap') w' ∧
      w'.ownsRow B 46 3 (.slice q' (d ++ l).length cap') (d ++ l).length (attrC (d ++ l)) ∧ w.grownBy w' (Value.slice q d.length cap).ownBlock := by
  obtain ⟨i0, hi, hz0, hz1, hz2⟩ := info_parts infoA
  cases p with
  | none =>
    have hl0 : l = [] := by
      cases l with
      | nil => rfl
      | cons x r => obtain ⟨_, _, e, _⟩ := hs 0 (by simp); cases e
    subst hl0
    have hu := run_underlying (P := Tryd.prog) (w := w) Tryd.underlying23
    refine ⟨q, cap, w, ?_, by simpa using h, World.grownBy.refl w _⟩
    rw [List.append_nil]
    rcases h.2 with ⟨h1, h2⟩ | ⟨g, cap2, cur, h1, _, hg, hnc, _⟩
    · rw [h1]
      simp [Builtin.append_, hu, sizeOf, typeInfo, hi, Builtin.lenOf, Builtin.firstCells]
    · injection h1 with h1 _ h3
      subst h1 h3
      simp [Builtin.append_, hu, sizeOf, typeInfo, hi, Builtin.lenOf, hnc, Builtin.firstCells, storeCells]
  | some a =>
    have hnews : ∀ j u, (attrC l)[j]? = some u → w.cell? (a.add j) = some u := by
      intro j u hu
      obtain ⟨i, hil, hr⟩ := attrC_row l j u hu
      obtain ⟨b, o, e, hb, g0, g1, g2⟩ := hs i hil
      injection e with e
      subst e
      have hadd : (⟨b, o, none⟩ : Addr).add j = ⟨b, o + j, none⟩ := by unfold Addr.add; split <;> simp_all
      rw [hadd]
      rcases hr with ⟨rfl, rfl⟩ | ⟨rfl, rfl⟩ | ⟨rfl, rfl⟩
      · exact g0
      · rw [← Nat.add_assoc]; exact g1
      · rw [← Nat.add_assoc]; exact g2
    have h1 : ∀ u ∈ attrC l, u.oneCell' = true := by
      intro u hu
      obtain ⟨j, hj, rfl⟩ := List.mem_iff_getElem.1 hu
      obtain ⟨i, hil, hr⟩ := attrC_row l j _ (List.getElem?_eq_getElem hj)
      rcases hr with ⟨_, h⟩ | ⟨_, h⟩ | ⟨_, h⟩ <;> rw [h] <;> rfl
    obtain ⟨v', w', hr, h2, h3, h4, h5⟩ := run_append_own_at (P := Tryd.prog) w B 23 23 46 i0 _ 3 40 Tryd.underlying23 hi hz0 hz1 hz2 rfl (by decide) (.slice q d.length cap) d.length (attrC d) h a l.length c (attrC l) (attrC_length l) hnews h1 (by unfold maxLen; omega) (by omega) hB
    have hlen : (d ++ l).length = d.length + l.length := List.length_append
    rw [hlen, attrC_append]
    rcases h2.2 with ⟨rfl, h0⟩ | ⟨g, cap2, cur, rfl, r⟩
    · rw [h0] at h2 ⊢
      exact ⟨none, 0, w', hr, h2, h3⟩
    · exact ⟨_, _, w', hr, h2, h3⟩

set_option maxRecDepth 100000 in
/-- A row of others behind a row of a call's own. -/
theorem app_enums (B : Nat) (q : Option Addr) (d : List EC) (cap : Nat) (w : World) (h : w.ownsRow B 44 2 (.slice q d.length cap) d.length (enumC d)) (hB : B ≤ w.heap.size) (p : Option Addr) (l : List EC) (c : Nat) (hs : ∀ i, (hi : i < l.length) → ∃ b o, p = some ⟨b, o, none⟩ ∧ b < w.heap.size ∧ w.cell? ⟨b, o + i * 2, none⟩ = some (.string (S l[i].e.name)) ∧ w.cell? ⟨b, o + i * 2 + 1, none⟩ = some (.slice l[i].q l[i].e.syms.length l[i].c)) (hn : d.length ≤ 1000) (hl : l.length ≤ 1000) :
    ∃ q' cap' w', (Builtin.append_ #[22, 22] 22 #[.slice q d.length cap, .slice p l.length c]).run Tryd.prog w = .ok (.slice q' (d ++ l).length cap') w' ∧
      w'.ownsRow B 44 2 (.slice q' (d ++ l).length cap') (d ++ l).length (enumC (d ++ l)) ∧ w.grownBy w' (Value.slice q d.length cap).ownBlock := by
  obtain ⟨i0, hi, hz0, hz1, hz2⟩ := info_parts infoE
  cases p with
  | none =>
    have hl0 : l = [] := by
      cases l with
      | nil => rfl
      | cons x r => obtain ⟨_, _, e, _⟩ := hs 0 (by simp); cases e
    subst hl0
    have hu := run_underlying (P := Tryd.prog) (w := w) Tryd.underlying22
    refine ⟨q, cap, w, ?_, by simpa using h, World.grownBy.refl w _⟩
    rw [List.append_nil]
    rcases h.2 with ⟨h1, h2⟩ | ⟨g, cap2, cur, h1, _, hg, hnc, _⟩
    · rw [h1]
      simp [Builtin.append_, hu, sizeOf, typeInfo, hi, Builtin.lenOf, Builtin.firstCells]
    · injection h1 with h1 _ h3
      subst h1 h3
      simp [Builtin.append_, hu, sizeOf, typeInfo, hi, Builtin.lenOf, hnc, Builtin.firstCells, storeCells]
  | some a =>
    have hnews : ∀ j u, (enumC l)[j]? = some u → w.cell? (a.add j) = some u := by
      intro j u hu
      obtain ⟨i, hil, hr⟩ := enumC_row l j u hu
      obtain ⟨b, o, e, hb, g0, g1⟩ := hs i hil
      injection e with e
      subst e
      have hadd : (⟨b, o, none⟩ : Addr).add j = ⟨b, o + j, none⟩ := by unfold Addr.add; split <;> simp_all
      rw [hadd]
      rcases hr with ⟨rfl, rfl⟩ | ⟨rfl, rfl⟩
      · exact g0
      · rw [← Nat.add_assoc]; exact g1
    have h1 : ∀ u ∈ enumC l, u.oneCell' = true := by
      intro u hu
      obtain ⟨j, hj, rfl⟩ := List.mem_iff_getElem.1 hu
      obtain ⟨i, hil, hr⟩ := enumC_row l j _ (List.getElem?_eq_getElem hj)
      rcases hr with ⟨_, h⟩ | ⟨_, h⟩ <;> rw [h] <;> rfl
    obtain ⟨v', w', hr, h2, h3, h4, h5⟩ := run_append_own_at (P := Tryd.prog) w B 22 22 44 i0 _ 2 40 Tryd.underlying22 hi hz0 hz1 hz2 rfl (by decide) (.slice q d.length cap) d.length (enumC d) h a l.length c (enumC l) (enumC_length l) hnews h1 (by unfold maxLen; omega) (by omega) hB
    have hlen : (d ++ l).length = d.length + l.length := List.length_append
    rw [hlen, enumC_append]
    rcases h2.2 with ⟨rfl, h0⟩ | ⟨g, cap2, cur, rfl, r⟩
    · rw [h0] at h2 ⊢
      exact ⟨none, 0, w', hr, h2, h3⟩
    · exact ⟨_, _, w', hr, h2, h3⟩

/-- The row that two rows make. -/
def JnP (w : World) (l : List AttrP) (e : Ending) (w' : World) : Prop := ∃ q c, e = .returned (.slice q l.length c) ∧ w'.ownsRow w.heap.size 46 3 (.slice q l.length c) l.length (attrC l) ∧ Below w.heap.size w w'
set_option maxRecDepth 100000 in
set_option maxHeartbeats 2000000 in
theorem join_any (a b : List AttrP) (pa pb : Option Addr) (ca cb : Nat) (w : World) (ha : AttrsAt w pa a) (hb : AttrsAt w pb b) (h1 : a.length ≤ 100) (h2 : b.length ≤ 100) :
    Calls Tryd.prog 11 #[.slice pa a.length ca, .slice pb b.length cb] w (JnP w (a ++ b)) := by
  obtain ⟨q1, c1, w1, r1, o1, g1⟩ := app_attrs w.heap.size none [] 0 w (World.ownsRow_nil _ _ _ _) (Nat.le_refl _) pa a ca ha (by simp) (by omega)
  have b1 : Below w.heap.size w w1 := (Below.refl _ _).grown g1 (Nat.le_refl _) (by simp [Value.ownBlock])
  obtain ⟨q2, c2, w2, r2, o2, g2⟩ := app_attrs w.heap.size q1 ([] ++ a) c1 w1 o1 b1.size pb b cb (hb.later b1) (by simp; omega) (by omega)
  have b2 : Below w.heap.size w w2 := b1.grown g2 b1.size (fun k hk => (World.ownsRow.lt o1 k hk).1)
  rw [List.nil_append] at r1 o1 r2 o2
  have R1 := Lib.hid r1
  have R2 := Lib.hid r2
  have FIN := Lib.hid (show JnP w (a ++ b) (.returned (.slice q2 (a.length + b.length) c2)) w2 from ⟨q2, c2, by rw [List.length_append], o2, b2⟩)
  clear r1 r2 o1 o2 g1 g2 b1 b2 ha hb
  go_enter Tryd.func11, Tryd.ntmps11
  go_wp2_with (first
    | (at_builtin; refine wpList_apx rfl _ _ _ _ rfl rfl rfl _ _ R1.out ?_)
    | (at_builtin; refine wpList_apx rfl _ _ _ _ rfl rfl rfl _ _ R2.out ?_))
  go_ret
  exact FIN.out
/-- What a row of a call's own is, where the base is lower. -/
theorem own_low {w : World} {B B' : Nat} {e : TypeId} {s n : Nat} {v : Value} {xs : List Value} (h : w.ownsRow B e s v n xs) (hB : B' ≤ B) : w.ownsRow B' e s v n xs := by
  refine ⟨h.1, ?_⟩
  rcases h.2 with h2 | ⟨g, cap, cur, h1, h3, r⟩
  · exact .inl h2
  · exact .inr ⟨g, cap, cur, h1, by omega, r⟩
theorem own_later {w w' : World} {B : Nat} {e : TypeId} {s n : Nat} {v : Value} {xs : List Value} (h : w.ownsRow B e s v n xs) (k : Below w.heap.size w w') : w'.ownsRow B e s v n xs := by
  refine ⟨h.1, ?_⟩
  rcases h.2 with h2 | ⟨g, cap, cur, h1, h3, hg, r⟩
  · exact .inl h2
  · exact .inr ⟨g, cap, cur, h1, h3, (k.block g (Array.getElem?_eq_some_iff.1 hg).1).trans hg, r⟩
/-- A row of another sort stays where one grows. -/
theorem own_grown {w w' : World} {B1 B2 : Nat} {e1 e2 : TypeId} {s1 s2 n1 n2 : Nat} {v1 v2 : Value} {xs1 xs2 : List Value} (h1 : w.ownsRow B1 e1 s1 v1 n1 xs1) (h2 : w.ownsRow B2 e2 s2 v2 n2 xs2) (hne : e1 ≠ e2) (g : w.grownBy w' v1.ownBlock) : w'.ownsRow B2 e2 s2 v2 n2 xs2 := by
  refine ⟨h2.1, ?_⟩
  rcases h2.2 with h | ⟨b, cap, cur, e, hB, hb, r⟩
  · exact .inl h
  · refine .inr ⟨b, cap, cur, e, hB, (g.block b (Array.getElem?_eq_some_iff.1 hb).1 ?_).trans hb, r⟩
    rcases h1.2 with ⟨rfl, _⟩ | ⟨b1, cap1, cur1, rfl, _, hb1, _⟩
    · simp [Value.ownBlock]
    · simp only [Value.ownBlock, ne_eq, Option.some.injEq]
      intro hbb
      subst hbb
      rw [hb1] at hb
      injection hb with hb
      injection hb with _ hb _
      exact hne hb

end Go.Proofs.YtmjpmekjpbmieaaDoor.Ty
