/-
  The document's own device: Write.
-/
import Derived.Test.YtfmcbccmijcdgaaBkRefD
import Derived.Deep.RegionLaw
namespace Go.Proofs.Ytfmcbccmijcdgaa.Bk
open Go.RowKit

theorem own_apart {w w2 : World} {e e' size size' n n' : Nat} {v v' : Value} {xs xs' : List Value} {t t' : TypeId} (hv : w.ownsRow 0 t size v n xs) (hu : w.ownsRow e t' size' v' n' xs') (ne : t' ≠ t) (gr : w.grownBy w2 v'.ownBlock) (_z : e = e' ∨ True) : w2.ownsRow 0 t size v n xs := by
  refine own_kept hv fun b hb => ?_
  refine gr.block b (hv.lt b hb).2 (fun e1 => ?_)
  rcases hu.2 with ⟨h1, _⟩ | ⟨g', cap', cur, h1, h2, h3, h4⟩
  · rw [h1] at e1; simp [Value.ownBlock] at e1
  · rw [h1] at e1
    simp only [Value.ownBlock, Option.some.injEq] at e1
    subst e1
    exact own_ne hv h3 ne hb
/-- A write more. -/
theorem RefAt.growW {w w2 : World} {B : Nat} {lv wv tv nv : Value} {d : Dev} {x : Nat × List UInt8} (h : RefAt w B lv wv tv d) (gr : w.grownBy w2 wv.ownBlock)
    (own : w2.ownsRow 0 71 2 nv (d.pend.length + 1) (waitC (d.pend ++ [x]))) :
    w2.cell? ⟨B, 1, none⟩ = some wv ∧ w2.frozen? ⟨B, 1, none⟩ = false ∧ RefAt (w2.setCell ⟨B, 1, none⟩ nv) B lv nv tv { d with pend := d.pend ++ [x] } := by
  obtain ⟨⟨a0, a1, a2, a3, a4, a5, a6, a7⟩, hff, hBl⟩ := h.cells
  obtain ⟨n, xs, ht⟩ := h.tears
  have kB := gr.block B hBl (fun e => h.nw e.symm)
  refine ⟨(World.cell?_of_block (a := ⟨B, 1, none⟩) kB).trans a1, (World.frozen?_of_block (a := ⟨B, 1, none⟩) kB).trans (hff 1), ?_⟩
  exact h.store kB 1 nv (by simp [refC]) (own_apart (e' := 0) h.lasts h.waits (by decide) gr (.inr trivial)) (by rw [List.length_append]; exact own) ⟨n, xs, own_apart (e' := 0) ht h.waits (by decide) gr (.inr trivial)⟩ h.calls h.keep
/-- A sector more. -/
theorem RefAt.growL {w w2 : World} {B : Nat} {lv wv tv nv : Value} {d : Dev} {x : List UInt8} (h : RefAt w B lv wv tv d) (gr : w.grownBy w2 lv.ownBlock)
    (own : w2.ownsRow 0 9 1 nv (d.dur.length + 1) (strC (d.dur ++ [x]))) :
    w2.cell? ⟨B, 0, none⟩ = some lv ∧ w2.frozen? ⟨B, 0, none⟩ = false ∧ RefAt (w2.setCell ⟨B, 0, none⟩ nv) B nv wv tv { d with dur := d.dur ++ [x] } := by
  obtain ⟨⟨a0, a1, a2, a3, a4, a5, a6, a7⟩, hff, hBl⟩ := h.cells
  obtain ⟨n, xs, ht⟩ := h.tears
  have kB := gr.block B hBl (fun e => h.nl e.symm)
  refine ⟨(World.cell?_of_block (a := ⟨B, 0, none⟩) kB).trans a0, (World.frozen?_of_block (a := ⟨B, 0, none⟩) kB).trans (hff 0), ?_⟩
  exact h.store kB 0 nv (by simp [refC]) (by rw [List.length_append]; exact own) (own_apart (e' := 0) h.waits h.lasts (by decide) gr (.inr trivial)) ⟨n, xs, own_apart (e' := 0) ht h.lasts (by decide) gr (.inr trivial)⟩ h.calls h.keep

theorem info_rwr : (Try.prog.info? 71).map (fun i => (i.zero, i.size, i.bytes)) = some (some (.agg #[.int .i64 0, .string ⟨#[]⟩]), 2, 24) := by kernel_rfl

def refWriteD (d : Dev) (i : Int) (l : List UInt8) : Dev := if refE d i ≠ 0 then d else if l.length ≠ 64 then d else blownD { d with pend := d.pend ++ [(i.toNat, l)] }
def WriteP (w : World) (B : Nat) (lv wv tv : Value) (d : Dev) (i : Nat) (l : List UInt8) (w2 : World) (nv : Value) : Prop :=
  RefAt (w2.setCell ⟨B, 1, none⟩ nv) B lv nv tv { d with pend := d.pend ++ [(i, l)] } ∧ Fresh w wv nv ∧ Onl (rblocks B lv wv tv) w (w2.setCell ⟨B, 1, none⟩ nv)
set_option maxRecDepth 100000 in
set_option maxHeartbeats 3200000 in
theorem refWrite_main {w : World} {B : Nat} {lv wv tv : Value} {d : Dev} (h : RefAt w B lv wv tv d) (ok : DevOk d) (hm : d.pend.length < 1000) (ht : lenV tv ≤ 100000) (i : Nat) (s : ByteArray) (hs : s.size = 64) (hr : refE d i = 0) :
    Calls Try.prog 21 #[.pointer (some ⟨B, 0, none⟩), .int .i64 (i : Int), .string s] w fun e w' =>
      e = .returned (.int .i64 (burnE d : Nat)) ∧ RefTo (lenV tv + 1000) w B (rblocks B lv wv tv) w' (blownD { d with pend := d.pend ++ [(i, s.data.toList)] }) := by
  have hoff : d.off = false := by
    unfold refE at hr
    cases ho : d.off with
    | true => rw [if_pos ho] at hr; omega
    | false => rfl
  have hil : i < d.dur.length := by
    unfold refE at hr
    rw [if_neg (by simp [hoff])] at hr
    by_cases hh : (i : Int) < 0 ∨ (d.dur.length : Int) ≤ i
    · rw [if_pos hh] at hr; omega
    · omega
  obtain ⟨⟨c0, c1, c2, c3, c4, c5, c6, c7⟩, hf, hlt⟩ := h.cells
  have f1 := hf 1
  rw [hoff] at c2
  obtain ⟨g1, cap1, hlv⟩ : ∃ g cap, lv = .slice (some ⟨g, 0, none⟩) d.dur.length cap := by
    rcases own_form h.lasts with ⟨_, h0⟩ | ⟨g, cap, h1⟩
    · omega
    · exact ⟨g, cap, h1⟩
  have hii : (i : Int) < (d.dur.length : Int) := by omega
  have h0i : ¬ (i : Int) < 0 := by omega
  have hge : ¬ (d.dur.length : Int) ≤ (i : Int) := by omega
  have hl64 : s.data.toList.length = 64 := by rw [list_size]; exact hs
  obtain ⟨i0, hi, hz0, hz1, hz2⟩ := info_parts info_rwr
  have hO := h.later ((Onl.refl [] w).alloc (.cells #[.int .i64 (i : Int), .string s] 71)) (by simp)
  have HOWN := Lib.hid hO.waits
  have hnewc := heap_alloc_new w (.cells #[.int .i64 (i : Int), .string s] 71)
  have HNEW := Lib.hid (show ∀ j u, ([.int .i64 (i : Int), .string s] : List Value)[j]? = some u → (w.alloc (.cells #[.int .i64 (i : Int), .string s] 71)).cell? ((⟨w.heap.size, 0, none⟩ : Addr).add j) = some u from fun j u hu => by
    rw [Addr.add_mid, cell_of_row _ _ _ _ _ (0, 0) hnewc, Nat.zero_add]; simpa using hu)
  have HONE := Lib.hid (show ∀ u ∈ ([.int .i64 (i : Int), .string s] : List Value), u.oneCell' = true from by
    intro u hu
    simp only [List.mem_cons, List.not_mem_nil, or_false] at hu
    rcases hu with rfl | rfl <;> rfl)
  have hlv0 := h.lasts
  have HGR := Lib.hid (fun g cap w2 (own : World.ownsRow w2 0 71 2 (.slice (some ⟨g, 0, none⟩) (d.pend.length + 1) cap) (d.pend.length + 1) (waitC d.pend ++ [.int .i64 (i : Int), .string s])) (gr : (w.alloc (.cells #[.int .i64 (i : Int), .string s] 71)).grownBy w2 wv.ownBlock) (hat : wv.ownBlock = some g ∨ g = w.heap.size + 1) => by
    have := hO.growW (x := (i, s.data.toList)) gr (nv := .slice (some ⟨g, 0, none⟩) (d.pend.length + 1) cap) (by rw [waitC_snoc, S_list]; exact own)
    exact (show _ ∧ _ ∧ WriteP w B lv wv tv d i s.data.toList w2 (.slice (some ⟨g, 0, none⟩) (d.pend.length + 1) cap) from ⟨this.1, this.2.1, this.2.2, (by
      intro k hk
      simp only [Value.ownBlock, Option.some.injEq] at hk
      subst hk
      rcases hat with h1 | h1
      · exact .inl h1
      · exact .inr (by omega)), by
      refine Onl.setCell ?_ (by simp [rblocks]) _
      exact ((Onl.refl (rblocks B lv wv tv) w).alloc _).grown gr (fun k hk => by simp [rblocks, hk])⟩))
  have hok2 : DevOk { d with pend := d.pend ++ [(i, s.data.toList)] } := ⟨ok.dur, fun x hx => by
    rcases List.mem_append.1 hx with h1 | h1
    · exact ok.pend x h1
    · simp only [List.mem_singleton] at h1
      subst h1
      exact ⟨hil, hl64⟩, ok.most, ok.calls, ok.keep⟩
  have HOK2 := Lib.hid hok2
  have hpl : d.pend.length ≤ 1000 := by omega
  have hf1 : wv = wv := rfl
  have hE : burnE d = if decide (d.calls = 1) = true then 10 else 0 := by
    show (if d.calls = 1 then 10 else 0) = _
    simp only [decide_eq_true_eq]
  rw [hE]
  generalize hbb : decide (d.calls = 1) = b at *
  have HBB := Lib.hid hbb
  subst hlv
  clear h ok hr hoff hil hl64 hO hnewc hlv0 hok2 hf1 hE hbb c3 c4 c5 c6 c7 hf
  cases b
  all_goals
    go_enter Try.func21, Try.ntmps21
    go_wp2_with (at_builtin; refine wpList_append_lies _ rfl _ _ 47 rfl 0 71 i0 _ 2 24 Try.underlying47 hi hz0 hz1 hz2 rfl (by omega) wv d.pend.length (waitC d.pend) rfl HOWN.out ⟨w.heap.size, 0, none⟩ 1 1 [.int .i64 (i : Int), .string s] rfl rfl HNEW.out HONE.out (by omega) (by unfold maxLen; omega) (by omega) (Nat.zero_le _) (w.heap.size + 1) (by simp) ?_; intro g cap w2 hown' hgrow hat _; obtain ⟨hc12, hf12, hX⟩ := HGR.out g cap w2 hown' hgrow hat; have HX := Lib.hid hX; clear hown' hgrow hat hX)
    have hbl := refBlown_any HX.out.1 HOK2.out (by simp; omega) ht
    rw [show decide (({ d with pend := d.pend ++ [(i, s.data.toList)] } : Dev).calls = 1) = _ from HBB.out] at hbl
    have HBL := Lib.hid hbl
    clear hbl hc12 hf12 c0 c1 c2 hi hz0 hz1 hz2
    go_wp2_with fail
    refine HBL.out.mono ?_
    rintro e w3 ⟨rfl, h3⟩
    have HFIN := Lib.hid (show RefTo (lenV tv + 1000) w B (rblocks B (.slice (some ⟨g1, 0, none⟩) d.dur.length cap1) wv tv) w3 (blownD { d with pend := d.pend ++ [(i, s.data.toList)] }) from by
      obtain ⟨lv3, wv3, tv3, r3, l3, f3, o3⟩ := h3
      have hs2 := HX.out.2.2.size
      have fr := FreshL.of (B := B) (Fresh.refl w (.slice (some ⟨g1, 0, none⟩) d.dur.length cap1)) HX.out.2.1 (Fresh.refl w tv)
      exact ⟨lv3, wv3, tv3, r3, l3, fr.trans f3 hs2, HX.out.2.2.step fr o3⟩)
    clear h3
    go_wp2_with fail
    go_ret
    exact ⟨rfl, HFIN.out⟩

set_option maxRecDepth 100000 in
theorem refWrite_any {w : World} {B : Nat} {lv wv tv : Value} {d : Dev} (h : RefAt w B lv wv tv d) (ok : DevOk d) (hm : d.pend.length < 1000) (ht : lenV tv ≤ 100000) (i : Int) (s : ByteArray) :
    Calls Try.prog 21 #[.pointer (some ⟨B, 0, none⟩), .int .i64 i, .string s] w fun e w' =>
      e = .returned (.int .i64 (writeE d i s.size : Nat)) ∧ RefTo (lenV tv + 1000) w B (rblocks B lv wv tv) w' (refWriteD d i s.data.toList) := by
  have hsame : RefTo (lenV tv + 1000) w B (rblocks B lv wv tv) w d := ⟨lv, wv, tv, h, by omega, FreshL.refl _ _, Onl.refl _ _⟩
  have hl := list_size s
  by_cases hr : refE d i = 0
  · obtain ⟨n, rfl⟩ : ∃ n : Nat, i = (n : Int) := by
      have : 0 ≤ i := by
        unfold refE at hr
        cases ho : d.off with
        | true => rw [if_pos ho] at hr; omega
        | false =>
          rw [if_neg (by simp [ho])] at hr
          by_cases hh : i < 0 ∨ (d.dur.length : Int) ≤ i
          · rw [if_pos hh] at hr; omega
          · omega
      exact ⟨i.toNat, by omega⟩
    by_cases hs : s.size = 64
    · have e1 : writeE d (n : Int) s.size = burnE d := by unfold writeE; rw [if_neg (by omega), if_neg (by omega)]
      have e2 : refWriteD d (n : Int) s.data.toList = blownD { d with pend := d.pend ++ [(n, s.data.toList)] } := by unfold refWriteD; rw [if_neg (by omega), if_neg (by omega)]; simp
      rw [e1, e2]
      exact refWrite_main h ok hm ht n s hs hr
    · have e1 : writeE d (n : Int) s.size = 2 := by unfold writeE; rw [if_neg (by omega), if_pos hs]
      have e2 : refWriteD d (n : Int) s.data.toList = d := by unfold refWriteD; rw [if_neg (by omega), if_pos (by omega)]
      rw [e1, e2]
      have hoff : d.off = false := by
        unfold refE at hr
        cases ho : d.off with
        | true => rw [if_pos ho] at hr; omega
        | false => rfl
      have hil : n < d.dur.length := by
        unfold refE at hr
        rw [if_neg (by simp [hoff])] at hr
        by_cases hh : (n : Int) < 0 ∨ (d.dur.length : Int) ≤ n
        · rw [if_pos hh] at hr; omega
        · omega
      obtain ⟨⟨c0, c1, c2, c3, c4, c5, c6, c7⟩, hf, hlt⟩ := h.cells
      rw [hoff] at c2
      obtain ⟨g1, cap1, rfl⟩ : ∃ g cap, lv = .slice (some ⟨g, 0, none⟩) d.dur.length cap := by
        rcases own_form h.lasts with ⟨_, h0⟩ | ⟨g, cap, h1⟩
        · omega
        · exact ⟨g, cap, h1⟩
      have hii : (n : Int) < (d.dur.length : Int) := by omega
      have h0i : ¬ (n : Int) < 0 := by omega
      have hge : ¬ (d.dur.length : Int) ≤ (n : Int) := by omega
      have hs1 : ((s.size : Int) == 64) = false := by simp; omega
      have hs2 : (s.size == 64) = false := by simpa using hs
      have HS := Lib.hid hsame
      clear h ok hr hoff hil hs hsame e1 e2 hl c1 c3 c4 c5 c6 c7 hf
      go_enter Try.func21, Try.ntmps21
      go_wp2_with fail
      go_ret
      exact ⟨rfl, HS.out⟩
  · have e1 : writeE d i s.size = refE d i := by unfold writeE; rw [if_pos hr]
    have e2 : refWriteD d i s.data.toList = d := by unfold refWriteD; rw [if_pos hr]
    rw [e1, e2]
    have hd : refE d i = if d.off = true then 10 else if i < 0 ∨ (d.dur.length : Int) ≤ i then 2 else 0 := rfl
    obtain ⟨⟨c0, c1, c2, c3, c4, c5, c6, c7⟩, hf, hlt⟩ := h.cells
    have hform := own_form h.lasts
    have HS := Lib.hid hsame
    generalize d.dur.length = n at *
    cases hoff : d.off with
    | true =>
      rw [hoff] at c2 hd
      rw [hd, if_pos rfl]
      clear h ok hsame hm e1 e2 hl c0 c1 c3 c4 c5 c6 c7 hf hoff hd hr hform
      go_enter Try.func21, Try.ntmps21
      go_wp2_with fail
      go_ret
      exact ⟨rfl, HS.out⟩
    | false =>
      rw [hoff] at c2 hd
      rw [if_neg (by simp)] at hd
      by_cases hb : i < 0 ∨ (n : Int) ≤ i
      · rw [if_pos hb] at hd
        rw [hd]
        obtain ⟨a, cap, rfl⟩ : ∃ a cap, lv = .slice a n cap := by
          rcases hform with ⟨h1, h2⟩ | ⟨g, cap, h1⟩
          · exact ⟨none, 0, by rw [h1, h2]⟩
          · exact ⟨_, cap, h1⟩
        by_cases h0 : i < 0
        · clear h ok hsame hm e1 e2 hl c0 c1 c3 c4 c5 c6 c7 hf hoff hd hr hform hb
          go_enter Try.func21, Try.ntmps21
          go_wp2_with fail
          go_ret
          exact ⟨rfl, HS.out⟩
        · have h1 : (n : Int) ≤ i := by omega
          have h2 : (0 : Int) ≤ i := by omega
          clear h ok hsame hm e1 e2 hl c1 c3 c4 c5 c6 c7 hf hoff hd hr hform hb h0
          go_enter Try.func21, Try.ntmps21
          go_wp2_with fail
          go_ret
          exact ⟨rfl, HS.out⟩
      · rw [if_neg hb] at hd; exact absurd hd hr

end Go.Proofs.Ytfmcbccmijcdgaa.Bk
