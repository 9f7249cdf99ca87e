/-
  Several texts in one: VlApp, VlTwin, VlTwinB, VlTwinC.
-/
import Derived.Test.YtabbdkdpmpjchaaGreatDoorZTzF
import Derived.Laws.AppendOwn
import Derived.Test.YtabbdkdpmpjchaaGreatDoorZTzG
import Derived.WalkSpells
namespace Go.Proofs.YtabbdkdpmpjchaaGreatDoor.Va
open Go.RowKit
theorem info64 : (Tryz.prog.info? 2).map (fun i => (i.zero, i.size, i.bytes)) = some (some (.int .i64 0), 1, 8) := by kernel_rfl
def i64C (l : List Int) : List Value := l.map fun n => .int .i64 n
theorem i64C_length (l : List Int) : (i64C l).length = l.length := by simp [i64C]
theorem i64C_append (a b : List Int) : i64C (a ++ b) = i64C a ++ i64C b := by simp [i64C]
theorem app_nil (B : Nat) (v : Value) (m : Nat) (xs : List Value) (w : World) (hown : w.ownsRow B 2 1 v m xs) (c : Nat) :
    (Builtin.append_ #[50, 50] 50 #[v, .slice none 0 c]).run Tryz.prog w = .ok v w := by
  obtain ⟨i0, hi, hz0, hz1, hz2⟩ := info_parts info64
  have hu := run_underlying (P := Tryz.prog) (w := w) Tryz.underlying50
  rcases hown.2 with ⟨rfl, rfl⟩ | ⟨g, cap, cur, rfl, _, hg, hnc, _⟩
  · simp [Builtin.append_, hu, sizeOf, typeInfo, hi, Builtin.lenOf, Builtin.firstCells]
  · simp [Builtin.append_, hu, sizeOf, typeInfo, hi, Builtin.lenOf, hnc, Builtin.firstCells, storeCells]
theorem app_nums (B : Nat) (v : Value) (m : Nat) (xs : List Value) (w : World) (hown : w.ownsRow B 2 1 v m xs) (l : List Int) (a : Option Addr) (c : Nat) (hl : NumsAt w a l) (hm : m + l.length ≤ 1000000) (hB : B ≤ w.heap.size) :
    ∃ v' w', (Builtin.append_ #[50, 50] 50 #[v, .slice a l.length c]).run Tryz.prog w = .ok v' w' ∧ w'.ownsRow B 2 1 v' (m + l.length) (xs ++ i64C l) ∧ w.grownBy w' v.ownBlock := by
  cases a with
  | none =>
    have hl0 : l = [] := by
      cases l with
      | nil => rfl
      | cons x r => obtain ⟨_, _, e, _⟩ := hl 0 (by simp); cases e
    subst hl0
    exact ⟨v, w, app_nil B v m xs w hown c, by simpa [i64C] using hown, World.grownBy.refl w _⟩
  | some p =>
    obtain ⟨i0, hi, hz0, hz1, hz2⟩ := info_parts info64
    have hnews : ∀ j u, (i64C l)[j]? = some u → w.cell? (p.add j) = some u := by
      intro j u hu
      have hj : j < l.length := by
        have := (List.getElem?_eq_some_iff.1 hu).1
        simpa [i64C] using this
      obtain ⟨b, off, e, hc, _⟩ := hl j hj
      obtain rfl := Option.some.inj e
      rw [Addr.add_lit, hc]
      simp [i64C, hj] at hu
      simp [List.getD, hj, hu]
    have h1 : ∀ u ∈ i64C l, u.oneCell' = true := by
      intro u hu
      simp only [i64C, List.mem_map] at hu
      obtain ⟨n, _, rfl⟩ := hu
      rfl
    obtain ⟨v', w', hr, h2, h3, _⟩ := run_append_own (P := Tryz.prog) w B 50 50 2 i0 (.int .i64 0) 1 8 Tryz.underlying50 hi hz0 hz1 hz2 rfl (by decide) v m xs hown p l.length c (i64C l) (by rw [i64C_length]; omega) hnews h1 (by unfold maxLen; omega) (by omega) hB
    exact ⟨v', w', hr, h2, h3⟩
theorem owned_nums {w : World} {B n : Nat} {v : Value} {l : List Int} (h : w.ownsRow B 2 1 v n (i64C l)) (hn : n = l.length) : ∃ a c, v = .slice a l.length c ∧ NumsAt w a l := by
  subst hn
  rcases h.2 with ⟨rfl, h0⟩ | ⟨g, cap, cur, rfl, _, hg, _⟩
  · have : l = [] := List.length_eq_zero_iff.1 h0
    subst this
    exact ⟨none, 0, rfl, fun i hi => absurd hi (by simp)⟩
  · refine ⟨some ⟨g, 0, none⟩, cap, rfl, fun i hi => ⟨g, 0, rfl, ?_, lt_of_heapV hg⟩⟩
    have := h.cellAt i (by omega)
    rw [Nat.zero_add, this]
    simp [i64C, List.getD, hi]
end Go.Proofs.YtabbdkdpmpjchaaGreatDoor.Va

namespace Go.Proofs.YtabbdkdpmpjchaaGreatDoor.Va
open Go.RowKit
def Blk (w : World) (b : Nat) (t : TypeId) : Prop := ∃ cs : Array Value, w.heap[b]? = some (.cells cs t (0, 0))
theorem Blk.lt {w : World} {b : Nat} {t : TypeId} (h : Blk w b t) : b < w.heap.size := by
  obtain ⟨cs, hc⟩ := h
  exact lt_of_heapV hc
theorem Blk.below {w w' : World} {b : Nat} {t : TypeId} (h : Blk w b t) (k : Below w.heap.size w w') : Blk w' b t := by
  have hl := h.lt
  obtain ⟨cs, hc⟩ := h
  exact ⟨cs, (k.block b hl).trans hc⟩
theorem Blk.set {w : World} {b : Nat} {t : TypeId} (h : Blk w b t) (g o : Nat) (v : Value) : Blk (w.setCell ⟨g, o, none⟩ v) b t := by
  obtain ⟨cs, hc⟩ := h
  by_cases e : b = g
  · subst e
    exact ⟨_, by simp [World.setCell, Array.getElem?_modify, hc]; rfl⟩
  · exact ⟨cs, (Below.heap_setCell _ _ _ _ e).trans hc⟩
theorem Blk.frozen {w : World} {b : Nat} {t : TypeId} (h : Blk w b t) (j : Nat) : w.frozen? ⟨b, j, none⟩ = false := by
  obtain ⟨cs, hc⟩ := h
  unfold World.frozen?
  simp only [hc]
  simp
theorem Blk.apart {w : World} {b g : Nat} {t u : TypeId} (h : Blk w b t) (k : Blk w g u) (hne : t ≠ u) : b ≠ g := by
  rintro rfl
  obtain ⟨cs, hc⟩ := h
  obtain ⟨ds, hd⟩ := k
  rw [hc] at hd
  injection hd with e
  injection e with _ e2 _
  exact hne e2
theorem set_other {w : World} {b g o j : Nat} {v : Value} (h : b ≠ g ∨ j ≠ o) : (w.setCell ⟨g, o, none⟩ v).cell? ⟨b, j, none⟩ = w.cell? ⟨b, j, none⟩ :=
  World.cell?_setCell_other (w := w) (a := ⟨g, o, none⟩) (b := ⟨b, j, none⟩) (v := v) (h := by intro e; injection e with e1 e2 _; rcases h with h | h; exact h e1.symm; exact h e2.symm)
def Fresh (lo : Nat) (w : World) (a : Option Addr) (l : List Int) : Prop := ∀ j, j < l.length → ∃ b : Nat, a = some ⟨b, 0, none⟩ ∧ Blk w b 2 ∧ w.cell? ⟨b, j, none⟩ = some (.int .i64 (l.getD j 0)) ∧ lo ≤ b
theorem Fresh.nums {lo : Nat} {w : World} {a : Option Addr} {l : List Int} (h : Fresh lo w a l) : NumsAt w a l := fun j hj => by
  obtain ⟨b, e, hs, hc, _⟩ := h j hj
  exact ⟨b, 0, e, by rw [Nat.zero_add]; exact hc, hs.lt⟩
theorem Fresh.below {lo : Nat} {w w' : World} {a : Option Addr} {l : List Int} (h : Fresh lo w a l) (k : Below w.heap.size w w') : Fresh lo w' a l := fun j hj => by
  obtain ⟨b, e, hs, hc, hb⟩ := h j hj
  exact ⟨b, e, hs.below k, (k.cell (p := ⟨b, j, none⟩) hs.lt).trans hc, hb⟩
theorem Fresh.set {lo : Nat} {w : World} {a : Option Addr} {l : List Int} (h : Fresh lo w a l) {g : Nat} (hg : Blk w g 52) (o : Nat) (v : Value) : Fresh lo (w.setCell ⟨g, o, none⟩ v) a l := fun j hj => by
  obtain ⟨b, e, hs, hc, hb⟩ := h j hj
  exact ⟨b, e, hs.set _ _ _, (set_other (.inl (hs.apart hg (by decide)))).trans hc, hb⟩
theorem Fresh.mono {lo hi : Nat} {w : World} {a : Option Addr} {l : List Int} (h : Fresh hi w a l) (k : lo ≤ hi) : Fresh lo w a l := fun j hj => by
  obtain ⟨b, e, hs, hc, hb⟩ := h j hj
  exact ⟨b, e, hs, hc, Nat.le_trans k hb⟩
theorem owned_fresh {w : World} {B n : Nat} {v : Value} {l : List Int} (h : w.ownsRow B 2 1 v n (i64C l)) (hn : n = l.length) : ∃ a c, v = .slice a l.length c ∧ Fresh B w a l := by
  subst hn
  rcases h.2 with ⟨rfl, h0⟩ | ⟨g, cap, cur, rfl, hB, hg, _⟩
  · have : l = [] := List.length_eq_zero_iff.1 h0
    subst this
    exact ⟨none, 0, rfl, fun i hi => absurd hi (by simp)⟩
  · refine ⟨some ⟨g, 0, none⟩, cap, rfl, fun i hi => ⟨g, rfl, ⟨cur, hg⟩, ?_, hB⟩⟩
    have := h.cellAt i (by omega)
    rw [this]
    simp [i64C, List.getD, hi]
theorem strClone_any (s : ByteArray) (hs : s.size ≤ 281474976710656) (w : World) :
    Calls Tryz.prog 58 #[.string s] w fun e w' => e = .returned (.string s) ∧ Below w.heap.size w w' := by
  go_enter Tryz.func58, Tryz.ntmps58
  go_wp2_with fail
  refine (Tryz.stringslite_Clone s _ hs).mono ?_
  rintro e w' ⟨rfl, hb⟩
  have HB := Lib.hid hb
  clear hb
  go_wp2_with fail
  go_ret
  exact ⟨rfl, HB.out⟩
set_option linter.unusedSimpArgs false
set_option maxRecDepth 100000 in
set_option maxHeartbeats 1600000 in
theorem cloneNums_any (l : List Int) (hl : l.length ≤ 100000) (a : Option Addr) (cap : Nat) (w : World) (hx : NumsAt w a l) :
    Calls Tryz.prog 59 #[.slice a l.length cap] w fun e w' => (∃ a' c', e = .returned (.slice a' l.length c') ∧ Fresh w.heap.size w' a' l) ∧ Below w.heap.size w w' := by
  cases a with
  | none =>
    have hl0 : l = [] := by
      cases l with
      | nil => rfl
      | cons x r => obtain ⟨_, _, e, _⟩ := hx 0 (by simp); cases e
    subst hl0
    clear hx hl
    have hnil := fun (wr : World) => Lib.run_eql_slice_nil (P := Tryz.prog) wr 50 2 none 0 cap 0 0 Tryz.underlying50
    go_enter Tryz.func59, Tryz.ntmps59
    go_wp2_with fail
    go_ret
    exact ⟨⟨none, 0, rfl, fun j hj => absurd hj (by simp)⟩, Below.refl _ _⟩
  | some p =>
    have hb0 := (Below.refl w.heap.size w).alloc (Nat.le_refl _) (.cells #[] 2)
    have hown := World.ownsRow_made (base := w.heap.size) (e := 2) (size := 1) w #[] 0 (Nat.le_refl _) (by unfold maxLen; omega) rfl
    obtain ⟨v', w', hr, ho, hg⟩ := app_nums w.heap.size _ 0 [] _ hown l (some p) cap (hx.below hb0) (by omega) (by simp)
    rw [List.nil_append] at ho
    obtain ⟨a', c', rfl, hf⟩ := owned_fresh ho (by omega)
    have HRUN := Lib.hid hr
    have HF := Lib.hid hf
    have HB := Lib.hid (hb0.grown hg (by simp) (fun k hk => by have := (hown.lt k hk).1; omega))
    have hnil := fun (wr : World) => Lib.run_eql_slice_nil (P := Tryz.prog) wr 50 2 (some p) l.length cap 0 0 Tryz.underlying50
    clear hb0 hown hr ho hg hf hx
    go_enter Tryz.func59, Tryz.ntmps59
    go_wp2_with (at_builtin; refine wpList_app rfl _ _ _ _ rfl rfl rfl _ _ HRUN.out ?_)
    go_ret
    exact ⟨⟨a', c', rfl, HF.out⟩, HB.out⟩
end Go.Proofs.YtabbdkdpmpjchaaGreatDoor.Va

namespace Go.Proofs.YtabbdkdpmpjchaaGreatDoor.Va
open Go.RowKit
theorem infoVal : (Tryz.prog.info? 52).map (fun i => (i.zero, i.size, i.bytes)) = some (some (.agg #[.int .i64 0, .int .i64 0, .string ⟨#[]⟩, .slice none 0 0]), 4, 56) := by kernel_rfl
structure TwP (lo G : Nat) (vs : List V) (k : Nat) (w : World) : Prop where
  ge : lo ≤ G
  blk : Blk w G 52
  cells : ∀ i v, vs[i]? = some v → ∃ a c, w.cell? ⟨G, i * 4, none⟩ = some (.int .i64 v.kind) ∧ w.cell? ⟨G, i * 4 + 1, none⟩ = some (.int .i64 v.num) ∧ w.cell? ⟨G, i * 4 + 2, none⟩ = some (.string (S v.text)) ∧
    w.cell? ⟨G, i * 4 + 3, none⟩ = some (.slice a v.list.length c) ∧ (i < k → Fresh lo w a v.list)
theorem TwP.below {lo G k : Nat} {vs : List V} {w w' : World} (h : TwP lo G vs k w) (b : Below w.heap.size w w') : TwP lo G vs k w' := by
  have hl := h.blk.lt
  refine ⟨h.ge, h.blk.below b, fun i v hv => ?_⟩
  obtain ⟨a, c, h0, h1, h2, h3, h4⟩ := h.cells i v hv
  exact ⟨a, c, (b.cell (p := ⟨G, i * 4, none⟩) hl).trans h0, (b.cell (p := ⟨G, i * 4 + 1, none⟩) hl).trans h1, (b.cell (p := ⟨G, i * 4 + 2, none⟩) hl).trans h2, (b.cell (p := ⟨G, i * 4 + 3, none⟩) hl).trans h3, fun hi => (h4 hi).below b⟩
theorem TwP.text {lo G k : Nat} {vs : List V} {w : World} (h : TwP lo G vs k w) (v : V) (hv : vs[k]? = some v) : TwP lo G vs k (w.setCell ⟨G, k * 4 + 2, none⟩ (.string (S v.text))) := by
  refine ⟨h.ge, h.blk.set _ _ _, fun i u hu => ?_⟩
  obtain ⟨a, c, h0, h1, h2, h3, h4⟩ := h.cells i u hu
  refine ⟨a, c, (set_other (.inr (by omega))).trans h0, (set_other (.inr (by omega))).trans h1, ?_, (set_other (.inr (by omega))).trans h3, fun hi => (h4 hi).set h.blk _ _⟩
  by_cases e : i = k
  · subst e
    obtain rfl : u = v := Option.some.inj (hu.symm.trans hv)
    exact World.cell?_setCell_same (w := w) (a := ⟨G, i * 4 + 2, none⟩) (v := _) (h := h2)
  · exact (set_other (.inr (by omega))).trans h2
theorem TwP.list {lo G k : Nat} {vs : List V} {w : World} (h : TwP lo G vs k w) (v : V) (hv : vs[k]? = some v) (a' : Option Addr) (c' : Nat) (hf : Fresh lo w a' v.list) : TwP lo G vs (k + 1) (w.setCell ⟨G, k * 4 + 3, none⟩ (.slice a' v.list.length c')) := by
  refine ⟨h.ge, h.blk.set _ _ _, fun i u hu => ?_⟩
  obtain ⟨a, c, h0, h1, h2, h3, h4⟩ := h.cells i u hu
  by_cases e : i = k
  · subst e
    obtain rfl : u = v := Option.some.inj (hu.symm.trans hv)
    exact ⟨a', c', (set_other (.inr (by omega))).trans h0, (set_other (.inr (by omega))).trans h1, (set_other (.inr (by omega))).trans h2, World.cell?_setCell_same (w := w) (a := ⟨G, i * 4 + 3, none⟩) (v := _) (h := h3), fun _ => hf.set h.blk _ _⟩
  · exact ⟨a, c, (set_other (.inr (by omega))).trans h0, (set_other (.inr (by omega))).trans h1, (set_other (.inr (by omega))).trans h2, (set_other (.inr (by omega))).trans h3, fun hi => (h4 (by omega)).set h.blk _ _⟩
def TwR (lo : Nat) (w : World) (a : Option Addr) (vs : List V) : Prop := vs = [] ∨ ∃ G, a = some ⟨G, 0, none⟩ ∧ TwP lo G vs vs.length w
set_option maxRecDepth 100000 in
theorem app_vals (w : World) (vs : List V) (hne : vs ≠ []) (hn : vs.length ≤ 100000) (b off cap : Nat) (hx : ValsAt w (some ⟨b, off, none⟩) vs) :
    ∃ G c' w', (Builtin.append_ #[53, 53] 53 #[.slice (some ⟨w.heap.size, 0, none⟩) 0 0, .slice (some ⟨b, off, none⟩) vs.length cap]).run Tryz.prog (w.alloc (.cells #[] 52)) = .ok (.slice (some ⟨G, 0, none⟩) vs.length c') w' ∧
      TwP w.heap.size G vs 0 w' ∧ Below w.heap.size w w' := by
  obtain ⟨i0, hi, hz0, hz1, hz2⟩ := info_parts infoVal
  have hb0 := (Below.refl w.heap.size w).alloc (Nat.le_refl _) (.cells #[] 52)
  have hown := World.ownsRow_made (base := w.heap.size) (e := 52) (size := 4) w #[] 0 (Nat.le_refl _) (by unfold maxLen; omega) rfl
  have hpos := List.length_pos_iff.2 hne
  have hcell : ∀ j, j < vs.length * 4 → ∃ u, (w.alloc (.cells #[] 52)).cell? ⟨b, off + j, none⟩ = some u ∧ u.oneCell' = true := fun j hj => by
    obtain ⟨b', off', e, hv, hl⟩ := (hx.below hb0) (j / 4) (by omega)
    obtain ⟨rfl, rfl⟩ : b = b' ∧ off = off' := by injection e with e; injection e with e1 e2 _; exact ⟨e1, e2⟩
    obtain ⟨a, c, h0, h1, h2, h3, _⟩ := hv
    have hj4 : j = j / 4 * 4 + j % 4 := by omega
    have hm : j % 4 = 0 ∨ j % 4 = 1 ∨ j % 4 = 2 ∨ j % 4 = 3 := by omega
    rcases hm with hm | hm | hm | hm
    · exact ⟨_, by rw [hj4, hm, Nat.add_zero]; exact h0, rfl⟩
    · exact ⟨_, by rw [hj4, hm, ← Nat.add_assoc]; exact h1, rfl⟩
    · exact ⟨_, by rw [hj4, hm, ← Nat.add_assoc]; exact h2, rfl⟩
    · exact ⟨_, by rw [hj4, hm, ← Nat.add_assoc]; exact h3, rfl⟩
  obtain ⟨news, hnl, hnews⟩ : ∃ news : List Value, news.length = vs.length * 4 ∧ ∀ j, j < vs.length * 4 → ∃ u, news[j]? = some u ∧ (w.alloc (.cells #[] 52)).cell? ⟨b, off + j, none⟩ = some u ∧ u.oneCell' = true := by
    refine ⟨(List.range (vs.length * 4)).map fun j => ((w.alloc (.cells #[] 52)).cell? ⟨b, off + j, none⟩).getD undef, by simp, fun j hj => ?_⟩
    obtain ⟨u, h1, h2⟩ := hcell j hj
    exact ⟨u, by simp [hj, h1], h1, h2⟩
  have hnat : ∀ j u, news[j]? = some u → (w.alloc (.cells #[] 52)).cell? ((⟨b, off, none⟩ : Addr).add j) = some u := fun j u hu => by
    have hj := (List.getElem?_eq_some_iff.1 hu).1
    obtain ⟨u', h1, h2, _⟩ := hnews j (by omega)
    obtain rfl := Option.some.inj (hu.symm.trans h1)
    have hadd : (⟨b, off, none⟩ : Addr).add j = ⟨b, off + j, none⟩ := by unfold Addr.add; split <;> simp_all
    rw [hadd]; exact h2
  have h1 : ∀ u ∈ news, u.oneCell' = true := fun u hu => by
    obtain ⟨j, hj, rfl⟩ := List.getElem_of_mem hu
    obtain ⟨u', h1, _, h3⟩ := hnews j (by omega)
    rw [List.getElem?_eq_getElem hj] at h1
    obtain rfl := Option.some.inj h1
    exact h3
  obtain ⟨v', w', hr, ho, hg, _⟩ := run_append_own (P := Tryz.prog) (w.alloc (.cells #[] 52)) w.heap.size 53 53 52 i0 _ 4 56 Tryz.underlying53 hi hz0 hz1 hz2 rfl (by decide) (.slice (some ⟨w.heap.size, 0, none⟩) 0 0) 0 [] hown ⟨b, off, none⟩ vs.length cap news hnl hnat h1 (by unfold maxLen; omega) (by omega) (by simp)
  have hbel := hb0.grown hg (by simp) (fun k hk => by have := (hown.lt k hk).1; omega)
  rw [List.nil_append, Nat.zero_add] at ho
  rcases ho.2 with ⟨_, h0⟩ | ⟨G, c', cur, rfl, hB, hG, _⟩
  · omega
  · refine ⟨G, c', w', hr, ⟨hB, ⟨cur, hG⟩, fun i v hv => ?_⟩, hbel⟩
    have hil := (List.getElem?_eq_some_iff.1 hv).1
    obtain ⟨b', off', e, hvv, _⟩ := (hx.below hb0) i hil
    obtain ⟨rfl, rfl⟩ : b = b' ∧ off = off' := by injection e with e; injection e with e1 e2 _; exact ⟨e1, e2⟩
    have hvi : vs[i] = v := by rw [List.getElem?_eq_getElem hil] at hv; exact Option.some.inj hv
    rw [hvi] at hvv
    obtain ⟨a, c, q0, q1, q2, q3, _⟩ := hvv
    have get : ∀ r u, r < 4 → (w.alloc (.cells #[] 52)).cell? ⟨b, off + i * 4 + r, none⟩ = some u → w'.cell? ⟨G, i * 4 + r, none⟩ = some u := fun r u hr4 hu => by
      obtain ⟨u', n1, n2, _⟩ := hnews (i * 4 + r) (by omega)
      rw [← Nat.add_assoc, hu] at n2
      obtain rfl := Option.some.inj n2
      have hadd : (⟨G, 0, none⟩ : Addr).add (i * 4 + r) = ⟨G, i * 4 + r, none⟩ := by unfold Addr.add; split <;> simp_all
      have := World.ownsRow.cells ho (g := G) rfl (i * 4 + r) u n1
      rw [hadd] at this
      exact this
    exact ⟨a, c, get 0 _ (by omega) q0, get 1 _ (by omega) q1, get 2 _ (by omega) q2, get 3 _ (by omega) q3, fun hi => absurd hi (by omega)⟩
end Go.Proofs.YtabbdkdpmpjchaaGreatDoor.Va

namespace Go.Proofs.YtabbdkdpmpjchaaGreatDoor.Va
open Go.RowKit
set_option linter.unusedSimpArgs false
set_option maxRecDepth 100000 in
set_option maxHeartbeats 1600000 in
theorem cloneVals_any (vs : List V) (hne : vs ≠ []) (hn : vs.length ≤ 100000) (b off cap : Nat) (w : World) (hx : ValsAt w (some ⟨b, off, none⟩) vs) :
    Calls Tryz.prog 57 #[.slice (some ⟨b, off, none⟩) vs.length cap] w fun e w' => (∃ G c', e = .returned (.slice (some ⟨G, 0, none⟩) vs.length c') ∧ TwP w.heap.size G vs 0 w') ∧ Below w.heap.size w w' := by
  obtain ⟨G, c', w', hr, ht, hb⟩ := app_vals w vs hne hn b off cap hx
  have HRUN := Lib.hid hr
  have HT := Lib.hid ht
  have HB := Lib.hid hb
  have hnil := fun (wr : World) => Lib.run_eql_slice_nil (P := Tryz.prog) wr 53 52 (some ⟨b, off, none⟩) vs.length cap 0 0 Tryz.underlying53
  clear hr ht hb hx
  go_enter Tryz.func57, Tryz.ntmps57
  go_wp2_with (at_builtin; refine wpList_app rfl _ _ _ _ rfl rfl rfl _ _ HRUN.out ?_)
  go_ret
  exact ⟨⟨G, c', rfl, HT.out⟩, HB.out⟩
theorem cloneNone_any (a : Option Addr) (cap : Nat) (w : World) :
    Calls Tryz.prog 57 #[.slice a 0 cap] w fun e w' => (∃ a' c', e = .returned (.slice a' 0 c')) ∧ Below w.heap.size w w' := by
  cases a with
  | none =>
    have hnil := fun (wr : World) => Lib.run_eql_slice_nil (P := Tryz.prog) wr 53 52 none 0 cap 0 0 Tryz.underlying53
    go_enter Tryz.func57, Tryz.ntmps57
    go_wp2_with fail
    go_ret
    exact ⟨⟨none, 0, rfl⟩, Below.refl _ _⟩
  | some p =>
    obtain ⟨i0, hi, hz0, hz1, hz2⟩ := info_parts infoVal
    have hb0 := (Below.refl w.heap.size w).alloc (Nat.le_refl _) (.cells #[] 52)
    have hown := World.ownsRow_made (base := w.heap.size) (e := 52) (size := 4) w #[] 0 (Nat.le_refl _) (by unfold maxLen; omega) rfl
    obtain ⟨v', w', hr, ho, hg, _⟩ := run_append_own (P := Tryz.prog) (w.alloc (.cells #[] 52)) w.heap.size 53 53 52 i0 _ 4 56 Tryz.underlying53 hi hz0 hz1 hz2 rfl (by decide) (.slice (some ⟨w.heap.size, 0, none⟩) 0 0) 0 [] hown p 0 cap [] rfl (fun j u hj => by simp at hj) (fun u hu => by simp at hu) (by unfold maxLen; omega) (by omega) (by simp)
    have hbel := hb0.grown hg (by simp) (fun k hk => by have := (hown.lt k hk).1; omega)
    obtain ⟨a', c', rfl⟩ : ∃ a' c', v' = .slice a' 0 c' := by
      rcases ho.2 with ⟨e, _⟩ | ⟨g, cp, cur, e, _⟩
      · exact ⟨_, _, e⟩
      · exact ⟨_, _, e⟩
    have HRUN := Lib.hid hr
    have HB := Lib.hid hbel
    have hnil := fun (wr : World) => Lib.run_eql_slice_nil (P := Tryz.prog) wr 53 52 (some p) 0 cap 0 0 Tryz.underlying53
    clear hb0 hown hr ho hg hbel
    go_enter Tryz.func57, Tryz.ntmps57
    go_wp2_with (at_builtin; refine wpList_app rfl _ _ _ _ rfl rfl rfl _ _ HRUN.out ?_)
    go_ret
    exact ⟨⟨a', c', rfl⟩, HB.out⟩
set_option linter.unusedSimpArgs false
set_option maxRecDepth 100000 in
set_option maxHeartbeats 3200000 in
theorem Twin_any (vs : List V) (hn : vs.length ≤ 1000) (ok : ∀ v ∈ vs, VIn v) (a : Option Addr) (cap : Nat) (w : World) (hx : ValsAt w a vs) :
    Calls Tryz.prog 33 #[.slice a vs.length cap] w fun e w' => (∃ a' c', e = .returned (.slice a' vs.length c') ∧ TwR w.heap.size w' a' vs) ∧ Below w.heap.size w w' := by
  by_cases h0 : vs = []
  · subst h0
    have HC := Lib.hid (cloneNone_any a cap w)
    clear hx ok hn
    go_enter Tryz.func33, Tryz.ntmps33
    go_wp2_with fail
    refine HC.out.mono ?_
    rintro e w1 ⟨⟨a', c', rfl⟩, b1⟩
    have B1 := Lib.hid b1
    clear b1
    go_wp2_with fail
    refine wp_loop_rounds 1 ?_
    rw [rounds_succ]
    go_wp2_with fail
    go_ret
    exact ⟨⟨a', c', rfl, .inl rfl⟩, B1.out⟩
  · have hpos := List.length_pos_iff.2 h0
    obtain ⟨b, off, rfl, _, hbl⟩ := hx 0 hpos
    have HX := Lib.hid hx
    have HOK := Lib.hid ok
    have HC := Lib.hid (cloneVals_any vs h0 (by omega) b off cap w hx)
    have hni : (vs.length : Int) ≤ 1000 := by omega
    clear hx ok h0
    go_enter Tryz.func33, Tryz.ntmps33
    go_wp2_with fail
    refine HC.out.mono ?_
    rintro e w1 ⟨⟨G, c', rfl, ht⟩, b1⟩
    have B1 := Lib.hid b1
    have T1 := Lib.hid ht
    clear b1 ht
    go_wp2_with fail
    go_loopw [10] (fun i wr => ∃ k : Nat, k ≤ vs.length ∧ i = .int .i64 k ∧ TwP w.heap.size G vs k wr ∧ Below w.heap.size w wr) (fun i _ => vs.length - (intOf i).toNat)
    case atStart => exact ⟨0, by omega, rfl, T1.out, B1.out⟩
    case round =>
      obtain ⟨k, hk, rfl, ht, hb⟩ := hrel
      have HT := Lib.hid ht
      have HB := Lib.hid hb
      by_cases hlt : k < vs.length
      · obtain ⟨b', off', e', hv, hgl⟩ := HX.out k hlt
        obtain ⟨rfl, rfl⟩ : b = b' ∧ off = off' := by injection e' with e'; injection e' with e1 e2 _; exact ⟨e1, e2⟩
        obtain ⟨a1, c1, s0, s1, s2, s3, pn⟩ := hv
        have p0 := (hb.cell (p := ⟨b, off + k * 4, none⟩) hgl).trans s0
        have p1 := (hb.cell (p := ⟨b, off + k * 4 + 1, none⟩) hgl).trans s1
        have p2 := (hb.cell (p := ⟨b, off + k * 4 + 2, none⟩) hgl).trans s2
        have p3 := (hb.cell (p := ⟨b, off + k * 4 + 3, none⟩) hgl).trans s3
        have okv := HOK.out vs[k] (List.getElem_mem _)
        have hvk : vs[k]? = some vs[k] := List.getElem?_eq_getElem hlt
        have hki : (k : Int) < (vs.length : Int) := by omega
        generalize vs[k] = x at *
        have hB0 := (Below.refl wr.heap.size wr).alloc (Nat.le_refl _) (.cells #[.int .i64 x.kind, .int .i64 x.num, .string (S x.text), .slice a1 x.list.length c1] 52)
        have HVK := Lib.hid hvk
        have HTX := Lib.hid (fun (wr' : World) (h : TwP w.heap.size G vs k wr') => h.text x HVK.out)
        have HLS := Lib.hid (fun (wr' : World) (h : TwP w.heap.size G vs k wr') a' c' hf => h.list x HVK.out a' c' hf)
        have HCE := Lib.hid (fun (wr' : World) (h : TwP w.heap.size G vs k wr') => h.cells k x HVK.out)
        have HSC := Lib.hid (strClone_any (S x.text) (by rw [S_size]; have := okv.text; omega))
        have HCN := Lib.hid (fun (wr' : World) (h : Below w.heap.size w wr') => cloneNums_any x.list (by have := okv.list; omega) a1 c1 wr' (pn.below h))
        have HT2 := Lib.hid (ht.below hB0)
        have HB2 := Lib.hid (hb.trans (hB0.mono hb.size))
        have hbz := hb.size
        have hGl := ht.blk.lt
        have hGe := ht.ge
        have hbox := fun (w2 : World) (h : Below (wr.heap.size + 1) (wr.alloc (.cells #[.int .i64 x.kind, .int .i64 x.num, .string (S x.text), .slice a1 x.list.length c1] 52)) w2) => (h.block wr.heap.size (by omega)).trans (heap_alloc_new wr _)
        have HBX := Lib.hid hbox
        obtain ⟨xk, xn, xt, xl⟩ := x
        simp only at p0 p1 p2 p3
        clear okv hvk s0 s1 s2 s3 hgl ht hb hB0 e' hbox pn
        go_wp2_with fail
        refine (HSC.out _).mono ?_
        rintro e w2 ⟨rfl, b2⟩
        have hz2 := b2.size
        simp at hz2
        have ht2 := HT2.out.below b2
        have HT3 := Lib.hid (HTX.out _ ht2)
        have HB3 := Lib.hid ((HB2.out.trans (b2.mono HB2.out.size)).setCell (p := ⟨G, k * 4 + 2, none⟩) hGe (.string (S xt)))
        obtain ⟨a2, c2, _, _, q2, _, _⟩ := HCE.out _ ht2
        have f2 := ht2.blk.frozen (k * 4 + 2)
        have hb3 : (w2.setCell ⟨G, k * 4 + 2, none⟩ (.string (S xt))).cell? ⟨wr.heap.size, 3, none⟩ = some (.slice a1 xl.length c1) := by
          rw [set_other (.inl (by omega)), cell_of_row w2 wr.heap.size 3 _ _ (0, 0) (HBX.out w2 (by simpa using b2))]
          rfl
        clear b2 ht2
        go_wp2_with fail
        refine (HCN.out _ HB3.out).mono ?_
        rintro e w4 ⟨⟨a4, c4, rfl, hf4⟩, b4⟩
        have ht4 := HT3.out.below b4
        have hz4 := b4.size
        have HF4 := Lib.hid (hf4.mono (show w.heap.size ≤ _ by simp [World.setCell]; omega))
        have HT5 := Lib.hid (HLS.out _ ht4 a4 c4 HF4.out)
        have HB5 := Lib.hid ((HB3.out.trans (b4.mono HB3.out.size)).setCell (p := ⟨G, k * 4 + 3, none⟩) hGe (.slice a4 xl.length c4))
        obtain ⟨a5, c5, _, _, _, q5, _⟩ := HCE.out _ ht4
        have f5 := ht4.blk.frozen (k * 4 + 3)
        clear b4 ht4 hf4 q2 f2 hb3
        go_wp2_with fail
        go_roundw
        case rel => exact ⟨k + 1, by omega, by go_num, HT5.out, HB5.out⟩
        case measure => simp [intOf]; omega
      · obtain rfl : k = vs.length := by omega
        clear ht hb
        go_wp2_with fail
        go_ret
        exact ⟨⟨_, c', rfl, .inr ⟨G, rfl, HT.out⟩⟩, HB.out⟩
end Go.Proofs.YtabbdkdpmpjchaaGreatDoor.Va
