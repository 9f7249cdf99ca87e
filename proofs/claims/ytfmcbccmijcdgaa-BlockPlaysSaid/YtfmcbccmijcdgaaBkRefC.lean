/-
  The document's own device: lose.
-/
import Derived.Test.YtfmcbccmijcdgaaBkRefB
namespace Go.Proofs.Ytfmcbccmijcdgaa.Bk
open Go.RowKit

theorem getD_len (s : List (List UInt8)) (h : ∀ x ∈ s, x.length = 64) (i : Nat) (hi : i < s.length) : (s.getD i []).length = 64 := by
  refine h _ ?_
  rw [List.getD_eq_getElem?_getD, List.getElem?_eq_getElem hi, Option.getD_some]
  exact List.getElem_mem hi
theorem loseK_64 (keep : Nat) (torn at_ : Int) (p : List (Nat × List UInt8)) (s : List (List UInt8)) (hs : ∀ x ∈ s, x.length = 64) (hp : ∀ x ∈ p, x.1 < s.length ∧ x.2.length = 64) : ∀ k, k ≤ p.length → ∀ x ∈ loseK keep torn at_ p s k, x.length = 64
  | 0, _, x, hx => hs x hx
  | k + 1, hk, x, hx => by
    have ih := loseK_64 keep torn at_ p s hs hp k (by omega)
    have hy := hp (p.getD k (0, [])) (by simp [List.getD, show k < p.length by omega])
    rw [loseK] at hx
    unfold loseS at hx
    split at hx
    · rcases List.mem_or_eq_of_mem_set hx with h1 | h1
      · exact ih x h1
      · rw [h1, List.length_append, List.length_take, List.length_drop, hy.2, getD_len _ ih _ (by rw [loseK_length]; exact hy.1)]
        have := tornN_lt at_
        omega
    · split at hx
      · rcases List.mem_or_eq_of_mem_set hx with h1 | h1
        · exact ih x h1
        · rw [h1]; exact hy.2
      · exact ih x hx

theorem info_tear : (Try.prog.info? 75).map (fun i => (i.zero, i.size, i.bytes)) = some (some (.agg #[.int .i64 0, .string ⟨#[]⟩, .string ⟨#[]⟩, .string ⟨#[]⟩]), 4, 56) := by kernel_rfl
theorem bit_rem (keep j : Nat) (_h : keep < 18446744073709551616) : (((keep : Int) / 2 ^ j).tmod 2 == 1) = keep.testBit j := by
  have e : ((keep : Int) / 2 ^ j) = ((keep / 2 ^ j : Nat) : Int) := by simp
  rw [e, Nat.testBit_eq_decide_div_mod_eq, Int.tmod_eq_emod_of_nonneg (Int.natCast_nonneg _), Bool.eq_iff_iff]
  simp
  omega
/-- In the round of a write: the loop's variables. -/
structure LoseM (w : World) (B n0 : Nat) (lv wv tv tv' : Value) (d : Dev) (a : Nat) (l : List UInt8) (keep : Nat) (torn at_ : Int) (W : World) : Prop where
  ref : RefAt W B lv wv tv' d
  x : W.heap[n0]? = some (.cells #[.int .i64 (a : Int), .string (S l)] 71 (0, 0))
  c : W.heap[w.heap.size]? = some (.cells #[.int .u64 (keep : Int), .int .i64 torn, .int .i64 at_] 30 (0, 0))
  onl : Onl (rblocks B lv wv tv) w W
theorem LoseM.drew {w : World} {B n0 : Nat} {lv wv tv tv' : Value} {d : Dev} {a : Nat} {l : List UInt8} {keep : Nat} {torn at_ : Int} {W : World} (h : LoseM w B n0 lv wv tv tv' d a l keep torn at_ W) :
    LoseM w B n0 lv wv tv tv' d a l keep torn at_ W.drew := ⟨h.ref.later ((Onl.refl [] W).drew) (by simp), h.x, h.c, h.onl.drew⟩
theorem LoseM.cells {w : World} {B n0 g1 n1 c1 : Nat} {wv tv tv' : Value} {d : Dev} {a : Nat} {l : List UInt8} {keep : Nat} {torn at_ : Int} {W : World}
    (h : LoseM w B n0 (.slice (some ⟨g1, 0, none⟩) n1 c1) wv tv tv' d a l keep torn at_ W) (hn : n1 = d.dur.length) (ha : a < n1) :
    W.cell? ⟨B, 0, none⟩ = some (.slice (some ⟨g1, 0, none⟩) n1 c1) ∧ W.cell? ⟨n0, 0, none⟩ = some (.int .i64 (a : Int)) ∧ W.cell? ⟨n0, 1, none⟩ = some (.string (S l)) ∧ W.cell? ⟨g1, a, none⟩ = some (.string (S (d.dur.getD a []))) ∧
    (W.cell? ⟨w.heap.size, 0, none⟩ = some (.int .u64 (keep : Int)) ∧ W.cell? ⟨w.heap.size, 1, none⟩ = some (.int .i64 torn) ∧ W.cell? ⟨w.heap.size, 2, none⟩ = some (.int .i64 at_)) ∧
    (W.frozen? ⟨g1, a, none⟩ = false ∧ W.frozen? ⟨B, 7, none⟩ = false ∧ W.cell? ⟨B, 7, none⟩ = some tv') ∧ B ≠ g1 ∧ n0 ≠ g1 ∧ w.heap.size ≠ g1 ∧ n0 ≠ B ∧ w.heap.size ≠ B := by
  obtain ⟨⟨a0, a1, a2, a3, a4, a5, a6, a7⟩, hff, hBl⟩ := h.ref.cells
  obtain ⟨hc, hfz, hg1, hg1B⟩ := h.ref.last hn a (by omega)
  have n1 := own_ne h.ref.lasts h.x (by decide)
  have n2 := own_ne h.ref.lasts h.c (by decide)
  refine ⟨a0, (cell_of_row W _ _ _ _ (0, 0) h.x).trans rfl, (cell_of_row W _ _ _ _ (0, 0) h.x).trans rfl, hc, ⟨(cell_of_row W _ _ _ _ (0, 0) h.c).trans rfl, (cell_of_row W _ _ _ _ (0, 0) h.c).trans rfl, (cell_of_row W _ _ _ _ (0, 0) h.c).trans rfl⟩, ⟨hfz, hff 7, a7⟩, fun e => hg1B e.symm, fun e => n1 (by rw [e]; rfl), fun e => n2 (by rw [e]; rfl), ?_, ?_⟩
  · intro e; have := h.x; rw [e, h.ref.dev] at this; simp [refC] at this
  · intro e; have := h.c; rw [e, h.ref.dev] at this; simp [refC] at this
/-- The sector is written. -/
theorem LoseM.set {w : World} {B n0 g1 n1 c1 : Nat} {wv tv tv' : Value} {d : Dev} {a : Nat} {l : List UInt8} {keep : Nat} {torn at_ : Int} {W : World}
    (h : LoseM w B n0 (.slice (some ⟨g1, 0, none⟩) n1 c1) wv tv tv' d a l keep torn at_ W) (hn : n1 = d.dur.length) (ha : a < n1) (y : List UInt8) :
    LoseM w B n0 (.slice (some ⟨g1, 0, none⟩) n1 c1) wv tv tv' { d with dur := d.dur.set a y } a l keep torn at_ (W.setCell ⟨g1, a, none⟩ (.string (S y))) := by
  obtain ⟨-, -, -, -, -, -, e1, e2, e3, -, -⟩ := h.cells hn ha
  refine ⟨h.ref.setLast hn a y, ?_, ?_, h.onl.setCell (p := ⟨g1, a, none⟩) (by simp [rblocks, Value.ownBlock]) _⟩
  · rw [heap_setCell_other W ⟨g1, a, none⟩ n0 _ (by simpa using e2)]; exact h.x
  · rw [heap_setCell_other W ⟨g1, a, none⟩ _ _ (by simpa using e3)]; exact h.c

theorem fill_tear (a b c e : Value) (cells : Array Value) (hc : cells.size = 4) : Instr.fill (fun j => some (j * 4, 4)) cells [(0, .agg #[a, b, c, e])] = some #[a, b, c, e] := by
  have h := Great.fill_whole (s := 4) (by omega) [.agg #[a, b, c, e]] cells (by
    intro v hv
    simp only [List.mem_singleton] at hv
    subst hv
    rfl) (by rw [hc]; rfl)
  simpa [Value.cells] using h
theorem own_len {w : World} {base e size n : Nat} {v : Value} {xs : List Value} (h : w.ownsRow base e size v n xs) : n = lenV v := by
  rcases own_form h with ⟨rfl, h0⟩ | ⟨g, c, rfl⟩
  · exact h0
  · rfl
/-- What was torn is noted. -/
theorem LoseM.tear {w : World} {B n0 g1 n1 c1 g cap m : Nat} {wv tv tv' : Value} {d : Dev} {a : Nat} {l : List UInt8} {keep : Nat} {torn at_ : Int} {W w2 : World} {o : Obj} {ys : List Value}
    (h : LoseM w B n0 (.slice (some ⟨g1, 0, none⟩) n1 c1) wv tv tv' d a l keep torn at_ W) (hn : n1 = d.dur.length) (ha : a < n1) (hns : W.heap.size = n0 + 1) (hws : w.heap.size < n0) (hfr : Fresh w tv tv')
    (own : w2.ownsRow 0 75 4 (.slice (some ⟨g, 0, none⟩) m cap) m ys) (gr : ((W.alloc o).drew).grownBy w2 tv'.ownBlock) (hat : tv'.ownBlock = some g ∨ g = n0 + 2) :
    (w2.cell? ⟨B, 0, none⟩ = some (.slice (some ⟨g1, 0, none⟩) n1 c1) ∧ w2.cell? ⟨n0, 0, none⟩ = some (.int .i64 (a : Int)) ∧ w2.cell? ⟨n0, 1, none⟩ = some (.string (S l)) ∧ w2.cell? ⟨g1, a, none⟩ = some (.string (S (d.dur.getD a [])))) ∧
    w2.cell? ⟨B, 7, none⟩ = some tv' ∧ w2.frozen? ⟨B, 7, none⟩ = false ∧
    LoseM w B n0 (.slice (some ⟨g1, 0, none⟩) n1 c1) wv tv (.slice (some ⟨g, 0, none⟩) m cap) d a l keep torn at_ (w2.setCell ⟨B, 7, none⟩ (.slice (some ⟨g, 0, none⟩) m cap)) ∧ Fresh w tv (.slice (some ⟨g, 0, none⟩) m cap) := by
  obtain ⟨nt, xt, ht⟩ := h.ref.tears
  have hk : ∀ b, b < W.heap.size → tv'.ownBlock ≠ some b → w2.heap[b]? = W.heap[b]? := fun b hb hne =>
    (gr.block b (by simp; omega) (fun e => hne e.symm)).trans (Below.heap_alloc W _ _ hb)
  have kB := hk B (lt_of_heap h.ref.dev) h.ref.nt
  have kX := hk n0 (by omega) (own_ne ht h.x (by decide))
  have kC := hk _ (lt_of_heap h.c) (own_ne ht h.c (by decide))
  have hb2 : ∀ {e size n : Nat} {v : Value} {xs : List Value}, W.ownsRow 0 e size v n xs → 75 ≠ e → ∀ b, v.ownBlock = some b → w2.heap[b]? = W.heap[b]? := fun {e size n v xs} hv hne b hvb => by
    have hlt := (hv.lt b hvb).2
    refine hk b hlt ?_
    rcases hv.2 with ⟨h1, _⟩ | ⟨g', cap', cur, h1, h2, h3, h4⟩
    · rw [h1] at hvb; simp [Value.ownBlock] at hvb
    · rw [h1] at hvb
      simp only [Value.ownBlock, Option.some.injEq] at hvb
      subst hvb
      exact own_ne ht h3 (Ne.symm hne)
  have kL := own_kept h.ref.lasts (hb2 h.ref.lasts (by decide))
  have kW := own_kept h.ref.waits (hb2 h.ref.waits (by decide))
  obtain ⟨b0, b1, b2, b3, ⟨q0, q1, q2⟩, ⟨z1, z2, z7⟩, y1, y2, y3, y4, y5⟩ := h.cells hn ha
  have mv : ∀ (p : Addr), w2.heap[p.block]? = W.heap[p.block]? → w2.cell? p = W.cell? p := fun p hp => World.cell?_of_block hp
  have kG := hb2 h.ref.lasts (by decide) g1 rfl
  have href := h.ref.store kB 7 (.slice (some ⟨g, 0, none⟩) m cap) (lv' := .slice (some ⟨g1, 0, none⟩) n1 c1) (wv' := wv) (tv' := .slice (some ⟨g, 0, none⟩) m cap) (d' := d) (by simp [refC]) kL kW ⟨m, ys, own⟩ h.ref.calls h.ref.keep
  have hF : Fresh w tv (.slice (some ⟨g, 0, none⟩) m cap) := fun k hk2 => by
    simp only [Value.ownBlock, Option.some.injEq] at hk2
    subst hk2
    rcases hat with h1 | h1
    · exact hfr _ h1
    · exact .inr (by omega)
  refine ⟨⟨(mv ⟨B, 0, none⟩ kB).trans b0, (mv ⟨n0, 0, none⟩ kX).trans b1, (mv ⟨n0, 1, none⟩ kX).trans b2, (mv ⟨g1, a, none⟩ kG).trans b3⟩, (mv ⟨B, 7, none⟩ kB).trans z7, (World.frozen?_of_block (a := ⟨B, 7, none⟩) kB).trans z2, ⟨href, ?_, ?_, ?_⟩, hF⟩
  · rw [heap_setCell_other w2 ⟨B, 7, none⟩ n0 _ (by simpa using y4)]; exact kX.trans h.x
  · rw [heap_setCell_other w2 ⟨B, 7, none⟩ _ _ (by simpa using y5)]; exact kC.trans h.c
  · refine Onl.setCell ?_ (by simp [rblocks]) _
    refine (h.onl.alloc o).drew.grown2 gr fun k hk2 => ?_
    rcases hfr k hk2 with h1 | h1
    · exact .inl (by simp [rblocks, h1])
    · exact .inr h1

/-- Behind k writes that were lost or not. -/
def LoseR (w : World) (B g1 n1 c1 g2 n2 c2 : Nat) (tv : Value) (d : Dev) (keep : Nat) (torn at_ : Int) (k : Nat) (wr : World) : Prop := ∃ tv',
  RefAt wr B (.slice (some ⟨g1, 0, none⟩) n1 c1) (.slice (some ⟨g2, 0, none⟩) n2 c2) tv' { d with dur := loseK keep torn at_ d.pend d.dur k } ∧ lenV tv' ≤ lenV tv + k ∧ Fresh w tv tv' ∧
  wr.heap[w.heap.size]? = some (.cells #[.int .u64 (keep : Int), .int .i64 torn, .int .i64 at_] 30 (0, 0)) ∧ Onl (rblocks B (.slice (some ⟨g1, 0, none⟩) n1 c1) (.slice (some ⟨g2, 0, none⟩) n2 c2) tv) w wr

set_option linter.unusedSimpArgs false
set_option maxRecDepth 100000 in
set_option maxHeartbeats 6400000 in
theorem refLose_any {w : World} {B g1 n1 c1 g2 n2 c2 : Nat} {tv : Value} {d : Dev} (h : RefAt w B (.slice (some ⟨g1, 0, none⟩) n1 c1) (.slice (some ⟨g2, 0, none⟩) n2 c2) tv d) (hn1 : n1 = d.dur.length) (hn2 : n2 = d.pend.length) (ok : DevOk d)
    (hm : n2 ≤ 1000) (ht : lenV tv ≤ 100000) (keep : Nat) (hk : keep < 18446744073709551616) (torn at_ : Int) :
    Calls Try.prog 34 #[.pointer (some ⟨B, 0, none⟩), .agg #[.int .u64 (keep : Int), .int .i64 torn, .int .i64 at_]] w fun e w' =>
      e = .returned (.tuple #[]) ∧ RefTo (lenV tv + 1000) w B (rblocks B (.slice (some ⟨g1, 0, none⟩) n1 c1) (.slice (some ⟨g2, 0, none⟩) n2 c2) tv) w' (loseD d keep torn at_) := by
  obtain ⟨⟨c0, c1', c2', c3, c4, c5, c6, c7⟩, hf, hlt⟩ := h.cells
  have hR0 : LoseR w B g1 n1 c1 g2 n2 c2 tv d keep torn at_ 0 (w.alloc (.cells #[.int .u64 (keep : Int), .int .i64 torn, .int .i64 at_] 30)) :=
    ⟨tv, h.later ((Onl.refl [] w).alloc _) (by simp), by omega, Fresh.refl _ _, heap_alloc_new w _, (Onl.refl _ _).alloc _⟩
  have HR0 := Lib.hid hR0
  have HN1 := Lib.hid hn1
  have HN2 := Lib.hid hn2
  have HOK := Lib.hid ok
  clear h hR0 hn1 hn2 ok c0 c2' c3 c4 c5 c6 c7 hf
  go_enter Try.func34, Try.ntmps34
  go_wp2_with fail
  go_loopw [13] (fun i wr => ∃ k : Nat, k ≤ n2 ∧ i = .int .i64 k ∧ LoseR w B g1 n1 c1 g2 n2 c2 tv d keep torn at_ k wr) (fun i _ => n2 - (intOf i).toNat)
  case atStart => exact ⟨0, by omega, rfl, HR0.out⟩
  case round =>
    obtain ⟨k, hkm, rfl, hrel⟩ := hrel
    have HREL := Lib.hid hrel
    obtain ⟨tv', hr, hl, hfr, hcr, hon⟩ := hrel
    have HR := Lib.hid hr
    have HL := Lib.hid hl
    have HFR := Lib.hid hfr
    have HCR := Lib.hid hcr
    have HON := Lib.hid hon
    by_cases hlt2 : k < n2
    · have hx := HOK.out.pend (d.pend.getD k (0, [])) (by rw [HN2.out] at hlt2; simp [List.getD, hlt2])
      obtain ⟨e0, e1⟩ := hr.wait HN2.out k (by rw [← HN2.out]; exact hlt2)
      simp only at e0 e1
      generalize hxv : d.pend.getD k (0, []) = x at *
      obtain ⟨a, l⟩ := x
      simp only at hx e0 e1
      have HXV := Lib.hid hxv
      have hal : a < (loseK keep torn at_ d.pend d.dur k).length := by rw [loseK_length]; exact hx.1
      have hnn : n1 = (loseK keep torn at_ d.pend d.dur k).length := by rw [loseK_length]; exact HN1.out
      obtain ⟨hc, hfz, hg1, hg1B⟩ := hr.last hnn a hal
      have hold := getD_len _ (loseK_64 keep torn at_ d.pend d.dur HOK.out.dur HOK.out.pend k (by rw [← HN2.out]; exact hkm)) a hal
      have hg2l := (hr.waits.lt g2 rfl).2
      have hcl := lt_of_heap hcr
      have han : a < n1 := by rw [hnn]; exact hal
      have HNN := Lib.hid hnn
      have hM : LoseM w B wr.heap.size (.slice (some ⟨g1, 0, none⟩) n1 c1) (.slice (some ⟨g2, 0, none⟩) n2 c2) tv tv' { d with dur := loseK keep torn at_ d.pend d.dur k } a l keep torn at_ (wr.alloc (.cells #[.int .i64 (a : Int), .string (S l)] 71)) :=
        ⟨hr.later ((Onl.refl [] wr).alloc _) (by simp), heap_alloc_new wr _, (Below.heap_alloc wr _ _ hcl).trans hcr, hon.alloc _⟩
      have hns : (wr.alloc (.cells #[.int .i64 (a : Int), .string (S l)] 71)).heap.size = wr.heap.size + 1 := by simp
      have hsz : w.heap.size < wr.heap.size := hcl
      have HM := Lib.hid hM
      clear hxv hr hl hfr hcr hon hnn hal hc hfz hg1 hg1B hM hcl
      go_wp2_with fail
      generalize wr.alloc (.cells #[.int .i64 (a : Int), .string (S l)] 71) = W at *
      generalize wr.heap.size = n0 at *
      obtain ⟨b0, b1, b2, b3, ⟨q0, q1, q2⟩, ⟨z1, z2, z7⟩, y1, y2, y3, y4, y5⟩ := HM.out.cells HNN.out han
      simp only at b3
      have hain : (a : Int) < (n1 : Int) := by omega
      generalize hov : (loseK keep torn at_ d.pend d.dur k).getD a [] = old at *
      have HOV := Lib.hid hov
      clear hov e0 e1 z2 z7
      go_region_held3 (fun w' => w'.cell? ⟨B, 0, none⟩ = some (.slice (some ⟨g1, 0, none⟩) n1 c1) ∧ w'.cell? ⟨n0, 0, none⟩ = some (.int .i64 (a : Int)) ∧ w'.cell? ⟨g1, a, none⟩ = some (.string (S old)))
        (go_keep) (fail)
      have HM1 := Lib.hid HM.out.drew
      have hns1 : W.drew.heap.size = n0 + 1 := hns
      generalize W.drew = W1 at *
      clear b0 b1 b2 b3 q0 q1 q2 z1 y1 y2 y3 y4 y5
      obtain ⟨b0, b1, b2, -, ⟨q0, q1, q2⟩, ⟨z1, z2, z7⟩, y1, y2, y3, y4, y5⟩ := HM1.out.cells HNN.out han
      go_wp2_with fail
      · have htb : ((k : Int) == torn) = true := by assumption
        have ht : (k : Int) = torn := by simpa using htb
        have HT := Lib.hid ht
        clear ht
        have hpos : 0 < at_ := by assumption
        have hTN : at_ % 65 = ((tornN at_ : Nat) : Int) := by unfold tornN; rw [if_pos hpos]; omega
        have hKl := tornN_lt at_
        rw [hTN]
        generalize hKK : tornN at_ = K at *
        have HKK := Lib.hid hKK
        have hK64 : K ≤ 64 := by omega
        have hKi : (0 : Int) ≤ (K : Int) := by omega
        have hKi2 : (K : Int) ≤ 64 := by omega
        have hsl : (S l).size = 64 := by rw [S_size]; exact hx.2
        have hso : (S old).size = 64 := by rw [S_size]; exact hold
        have hsum : (S l).extract 0 K ++ (S old).extract K 64 = S (l.take K ++ old.drop K) := by
          rw [S_extract, S_extract, S_append, S_toList, S_toList]
          rw [List.drop_zero, Nat.sub_zero, List.take_of_length_le (l := old.drop K) (by rw [List.length_drop]; omega)]
        have hlen1 : ((S l).extract 0 K).size = K := by rw [S_extract, S_size, S_toList, List.length_take, List.length_drop]; omega
        have hlen2 : ((S old).extract K 64).size = 64 - K := by rw [S_extract, S_size, S_toList, List.length_take, List.length_drop]; omega
        clear hKK hTN
        have hM2 := (HM1.out.set HNN.out han (l.take K ++ old.drop K)).drew
        have hst := hM2.cells (by rw [List.length_set]; exact HNN.out) han
        have HS := Lib.hid (show (W1.setCell ⟨g1, a, none⟩ (.string (S (l.take K ++ old.drop K)))).drew.cell? ⟨B, 0, none⟩ = some (.slice (some ⟨g1, 0, none⟩) n1 c1) ∧ (W1.setCell ⟨g1, a, none⟩ (.string (S (l.take K ++ old.drop K)))).drew.cell? ⟨n0, 0, none⟩ = some (.int .i64 (a : Int)) ∧
            (W1.setCell ⟨g1, a, none⟩ (.string (S (l.take K ++ old.drop K)))).drew.cell? ⟨n0, 1, none⟩ = some (.string (S l)) from ⟨hst.1, hst.2.1, hst.2.2.1⟩)
        have HM2 := Lib.hid hM2
        have hns2 : (W1.setCell ⟨g1, a, none⟩ (.string (S (l.take K ++ old.drop K)))).drew.heap.size = n0 + 1 := by simpa [World.setCell] using hns1
        clear hM2 hst
        go_region_held3 (fun w' => w'.cell? ⟨B, 0, none⟩ = some (.slice (some ⟨g1, 0, none⟩) n1 c1) ∧ w'.cell? ⟨n0, 0, none⟩ = some (.int .i64 (a : Int)) ∧ w'.cell? ⟨n0, 1, none⟩ = some (.string (S l)))
          (first | assumption | exact HS.out | go_keep)
          (fail)
        generalize (W1.setCell ⟨g1, a, none⟩ (.string (S (l.take K ++ old.drop K)))).drew = W2 at *
        clear b0 b1 b2 q0 q1 q2 z1 z2 z7 y1 y2 y3 y4 y5 HS
        have hnl : (l.take K ++ old.drop K).length = 64 := by rw [List.length_append, List.length_take, List.length_drop]; omega
        have HNW := Lib.hid (show (loseK keep torn at_ d.pend d.dur (k + 1)) = (loseK keep torn at_ d.pend d.dur k).set a (l.take K ++ old.drop K) by
          rw [loseK, HXV.out]; unfold loseS; rw [if_pos HT.out, HOV.out, HKK.out])
        obtain ⟨b0, b1, b2, b3, ⟨q0, q1, q2⟩, ⟨z1, z2, z7⟩, y1, y2, y3, y4, y5⟩ := HM2.out.cells (by rw [List.length_set]; exact HNN.out) han
        have hb3 : W2.cell? ⟨g1, a, none⟩ = some (.string (S (l.take K ++ old.drop K))) := by
          rw [b3]
          have : a < (loseK keep torn at_ d.pend d.dur k).length := by rw [← HNN.out]; exact han
          simp [List.getD, this]
        clear b3
        generalize l.take K ++ old.drop K = nw at *
        clear hsum hlen1 hlen2 q0 q1 q2 hsl hso
        obtain ⟨i0, hi, hz0, hz1, hz2⟩ := info_parts info_tear
        have hS : W2.drew.cell? ⟨B, 0, none⟩ = some (.slice (some ⟨g1, 0, none⟩) n1 c1) ∧ W2.drew.cell? ⟨n0, 0, none⟩ = some (.int .i64 (a : Int)) ∧ W2.drew.cell? ⟨n0, 1, none⟩ = some (.string (S l)) ∧ W2.drew.cell? ⟨g1, a, none⟩ = some (.string (S nw)) := ⟨b0, b1, b2, hb3⟩
        go_wp2_with fail
        obtain ⟨nt, xt, htt⟩ := HM2.out.ref.tears
        have hnt := own_len htt
        have hntb : nt ≤ 101000 := by have := HL.out; omega
        have hN1 : W2.drew.heap.size = n0 + 1 := hns2
        have HOWN := Lib.hid (show ((W2.alloc (.cells #[.int .i64 (a : Int), .string (S old), .string (S l), .string (S nw)] 75)).drew).ownsRow 0 75 4 tv' nt xt from htt.alloc _)
        have hnewc := heap_alloc_new W2 (.cells #[.int .i64 (a : Int), .string (S old), .string (S l), .string (S nw)] 75)
        rw [hns2] at hnewc
        have HNEW := Lib.hid (show ∀ j u, ([.int .i64 (a : Int), .string (S old), .string (S l), .string (S nw)] : List Value)[j]? = some u → ((W2.alloc (.cells #[.int .i64 (a : Int), .string (S old), .string (S l), .string (S nw)] 75)).drew).cell? ((⟨n0 + 1, 0, none⟩ : Addr).add j) = some u from fun j u hu => by
          rw [Addr.add_mid, World.cell?_drew, cell_of_row _ _ _ _ _ (0, 0) hnewc, Nat.zero_add]; simpa using hu)
        have HONE := Lib.hid (show ∀ u ∈ ([.int .i64 (a : Int), .string (S old), .string (S l), .string (S nw)] : List Value), u.oneCell' = true from by
          intro u hu
          simp only [List.mem_cons, List.not_mem_nil, or_false] at hu
          rcases hu with rfl | rfl | rfl | rfl <;> rfl)
        have hS2 : ((W2.alloc (.cells #[.int .i64 (a : Int), .string (S old), .string (S l), .string (S nw)] 75)).drew).cell? ⟨B, 0, none⟩ = some (.slice (some ⟨g1, 0, none⟩) n1 c1) ∧ ((W2.alloc (.cells #[.int .i64 (a : Int), .string (S old), .string (S l), .string (S nw)] 75)).drew).cell? ⟨n0, 0, none⟩ = some (.int .i64 (a : Int)) ∧
            ((W2.alloc (.cells #[.int .i64 (a : Int), .string (S old), .string (S l), .string (S nw)] 75)).drew).cell? ⟨n0, 1, none⟩ = some (.string (S l)) ∧ ((W2.alloc (.cells #[.int .i64 (a : Int), .string (S old), .string (S l), .string (S nw)] 75)).drew).cell? ⟨g1, a, none⟩ = some (.string (S nw)) := by
          have hBl := lt_of_heap HM2.out.ref.dev
          have hgl := (HM2.out.ref.lasts.lt g1 rfl).2
          have hnl2 : n0 < W2.heap.size := by omega
          exact ⟨(World.cell?_alloc_old _ _ _ (Nat.ne_of_lt hBl)).trans b0, (World.cell?_alloc_old _ _ _ (Nat.ne_of_lt hnl2)).trans b1, (World.cell?_alloc_old _ _ _ (Nat.ne_of_lt hnl2)).trans b2, (World.cell?_alloc_old _ _ _ (Nat.ne_of_lt hgl)).trans hb3⟩
        have hb3' : ({ d with dur := (loseK keep torn at_ d.pend d.dur k).set a nw } : Dev).dur.getD a [] = nw := by
          have : a < (loseK keep torn at_ d.pend d.dur k).length := by rw [← HNN.out]; exact han
          simp [List.getD, this]
        have HGR := Lib.hid (fun g cap w2 (own : World.ownsRow w2 0 75 4 (.slice (some ⟨g, 0, none⟩) (nt + 1) cap) (nt + 1) (xt ++ [.int .i64 (a : Int), .string (S old), .string (S l), .string (S nw)])) (gr : ((W2.alloc (.cells #[.int .i64 (a : Int), .string (S old), .string (S l), .string (S nw)] 75)).drew).grownBy w2 tv'.ownBlock) (hat : tv'.ownBlock = some g ∨ g = n0 + 2) => by
          have := HM2.out.tear (by rw [List.length_set]; exact HNN.out) han hns2 hsz HFR.out own gr hat
          rw [hb3'] at this
          exact this)
        have hz7b : (W2.alloc (.cells #[.int .i64 (a : Int), .string (S old), .string (S l), .string (S nw)] 75)).cell? ⟨B, 7, none⟩ = some tv' :=
          (World.cell?_alloc_old _ _ _ (Nat.ne_of_lt (lt_of_heap HM2.out.ref.dev))).trans z7
        have HNT := Lib.hid hnt
        have HB3 := Lib.hid hb3'
        clear hb3' hnewc hnt htt
        refine wp_region_noPanic ?_
        refine wp_region_held_drew (S := fun w' => w'.cell? ⟨B, 0, none⟩ = some (.slice (some ⟨g1, 0, none⟩) n1 c1) ∧ w'.cell? ⟨n0, 0, none⟩ = some (.int .i64 (a : Int)) ∧ w'.cell? ⟨n0, 1, none⟩ = some (.string (S l)) ∧ w'.cell? ⟨g1, a, none⟩ = some (.string (S nw))) (by kernel_rfl) hS ?_
        intro hHeld
        refine wpAnyH_take (i := 0) (oi := _) (v := .pointer (some ⟨B, 0, none⟩)) rfl (by kernel_rfl) (by kernel_rfl) (by kernel_rfl) (fun _ _ _ h => h) (Or.inl ⟨by rfl, ?_⟩) (by assumption) ?_
        · intro w hSw
          try dsimp only at hSw
          go_simp
        try simp only [Act.put, List.setIfInBounds_toArray, List.set_cons_zero, List.set_cons_succ]
        refine wpAnyH_take (i := 1) (oi := _) (v := .pointer (some ⟨B, 0, none⟩)) rfl (by kernel_rfl) (by kernel_rfl) (by kernel_rfl) (fun _ _ _ h => h) (Or.inl ⟨by rfl, ?_⟩) (by assumption) ?_
        · intro w hSw
          try dsimp only at hSw
          go_simp
        try simp only [Act.put, List.setIfInBounds_toArray, List.set_cons_zero, List.set_cons_succ]
        refine wpAnyH_take (i := 2) (oi := _) (v := .pointer (some ⟨B, 0, none⟩)) rfl (by kernel_rfl) (by kernel_rfl) (by kernel_rfl) (fun _ _ _ h => h) (Or.inl ⟨by rfl, ?_⟩) (by assumption) ?_
        · intro w hSw
          try dsimp only at hSw
          go_simp
        try simp only [Act.put, List.setIfInBounds_toArray, List.set_cons_zero, List.set_cons_succ]
        refine wpAnyH_take (i := 3) (oi := _) (v := .pointer (some ⟨B, 7, none⟩)) rfl (by kernel_rfl) (by kernel_rfl) (by kernel_rfl) (fun _ _ _ h => h) (Or.inl ⟨by rfl, ?_⟩) (by assumption) ?_
        · intro w hSw
          try dsimp only at hSw
          go_simp
        try simp only [Act.put, List.setIfInBounds_toArray, List.set_cons_zero, List.set_cons_succ]
        refine wpAnyH_take (i := 5) (oi := _) (v := .pointer (some ⟨n0, 0, none⟩)) rfl (by kernel_rfl) (by kernel_rfl) (by kernel_rfl) (fun _ _ _ h => h) (Or.inl ⟨by rfl, ?_⟩) (by assumption) ?_
        · intro w hSw
          try dsimp only at hSw
          go_simp
        try simp only [Act.put, List.setIfInBounds_toArray, List.set_cons_zero, List.set_cons_succ]
        refine wpAnyH_take (i := 6) (oi := _) (v := .int .i64 (a : Int)) rfl (by kernel_rfl) (by kernel_rfl) (by kernel_rfl) (fun _ _ _ h => h) (Or.inl ⟨by rfl, ?_⟩) (by assumption) ?_
        · intro w hSw
          try dsimp only at hSw
          go_simp
        try simp only [Act.put, List.setIfInBounds_toArray, List.set_cons_zero, List.set_cons_succ]
        refine wpAnyH_take (i := 7) (oi := _) (v := .string (S old)) rfl (by kernel_rfl) (by kernel_rfl) (by kernel_rfl) (fun _ _ _ h => h) (Or.inl ⟨by rfl, ?_⟩) (by assumption) ?_
        · intro w hSw
          try dsimp only at hSw
          go_simp
        try simp only [Act.put, List.setIfInBounds_toArray, List.set_cons_zero, List.set_cons_succ]
        refine wpAnyH_take (i := 8) (oi := _) (v := .pointer (some ⟨n0, 1, none⟩)) rfl (by kernel_rfl) (by kernel_rfl) (by kernel_rfl) (fun _ _ _ h => h) (Or.inl ⟨by rfl, ?_⟩) (by assumption) ?_
        · intro w hSw
          try dsimp only at hSw
          go_simp
        try simp only [Act.put, List.setIfInBounds_toArray, List.set_cons_zero, List.set_cons_succ]
        refine wpAnyH_take (i := 9) (oi := _) (v := .string (S l)) rfl (by kernel_rfl) (by kernel_rfl) (by kernel_rfl) (fun _ _ _ h => h) (Or.inl ⟨by rfl, ?_⟩) (by assumption) ?_
        · intro w hSw
          try dsimp only at hSw
          go_simp
        try simp only [Act.put, List.setIfInBounds_toArray, List.set_cons_zero, List.set_cons_succ]
        refine wpAnyH_take (i := 10) (oi := _) (v := .pointer (some ⟨B, 0, none⟩)) rfl (by kernel_rfl) (by kernel_rfl) (by kernel_rfl) (fun _ _ _ h => h) (Or.inl ⟨by rfl, ?_⟩) (by assumption) ?_
        · intro w hSw
          try dsimp only at hSw
          go_simp
        try simp only [Act.put, List.setIfInBounds_toArray, List.set_cons_zero, List.set_cons_succ]
        refine wpAnyH_take (i := 11) (oi := _) (v := .pointer (some ⟨B, 0, none⟩)) rfl (by kernel_rfl) (by kernel_rfl) (by kernel_rfl) (fun _ _ _ h => h) (Or.inl ⟨by rfl, ?_⟩) (by assumption) ?_
        · intro w hSw
          try dsimp only at hSw
          go_simp
        try simp only [Act.put, List.setIfInBounds_toArray, List.set_cons_zero, List.set_cons_succ]
        refine wpAnyH_take (i := 12) (oi := _) (v := .pointer (some ⟨B, 0, none⟩)) rfl (by kernel_rfl) (by kernel_rfl) (by kernel_rfl) (fun _ _ _ h => h) (Or.inl ⟨by rfl, ?_⟩) (by assumption) ?_
        · intro w hSw
          try dsimp only at hSw
          go_simp
        try simp only [Act.put, List.setIfInBounds_toArray, List.set_cons_zero, List.set_cons_succ]
        refine wpAnyH_take (i := 13) (oi := _) (v := .slice (some ⟨g1, 0, none⟩) n1 c1) rfl (by kernel_rfl) (by kernel_rfl) (by kernel_rfl) (fun _ _ _ h => h) (Or.inl ⟨by rfl, ?_⟩) (by assumption) ?_
        · intro w hSw
          try dsimp only at hSw
          go_simp
        try simp only [Act.put, List.setIfInBounds_toArray, List.set_cons_zero, List.set_cons_succ]
        refine wpAnyH_take (i := 14) (oi := _) (v := .pointer (some ⟨n0, 0, none⟩)) rfl (by kernel_rfl) (by kernel_rfl) (by kernel_rfl) (fun _ _ _ h => h) (Or.inl ⟨by rfl, ?_⟩) (by assumption) ?_
        · intro w hSw
          try dsimp only at hSw
          go_simp
        try simp only [Act.put, List.setIfInBounds_toArray, List.set_cons_zero, List.set_cons_succ]
        refine wpAnyH_take (i := 15) (oi := _) (v := .int .i64 (a : Int)) rfl (by kernel_rfl) (by kernel_rfl) (by kernel_rfl) (fun _ _ _ h => h) (Or.inl ⟨by rfl, ?_⟩) (by assumption) ?_
        · intro w hSw
          try dsimp only at hSw
          go_simp
        try simp only [Act.put, List.setIfInBounds_toArray, List.set_cons_zero, List.set_cons_succ]
        refine wpAnyH_take (i := 16) (oi := _) (v := .pointer (some ⟨g1, a, none⟩)) rfl (by kernel_rfl) (by kernel_rfl) (by kernel_rfl) (fun _ _ _ h => h) (Or.inl ⟨by rfl, ?_⟩) (by assumption) ?_
        · intro w hSw
          try dsimp only at hSw
          go_simp
        try simp only [Act.put, List.setIfInBounds_toArray, List.set_cons_zero, List.set_cons_succ]
        refine wpAnyH_take (i := 17) (oi := _) (v := .string (S nw)) rfl (by kernel_rfl) (by kernel_rfl) (by kernel_rfl) (fun _ _ _ h => h) (Or.inl ⟨by rfl, ?_⟩) (by assumption) ?_
        · intro w hSw
          try dsimp only at hSw
          go_simp
        try simp only [Act.put, List.setIfInBounds_toArray, List.set_cons_zero, List.set_cons_succ]
        refine wpAnyH_take (i := 18) (oi := _) (v := .agg #[.int .i64 (a : Int), .string (S old), .string (S l), .string (S nw)]) rfl (by kernel_rfl) (by kernel_rfl) (by kernel_rfl) (fun _ _ _ h => h) (Or.inl ⟨by rfl, ?_⟩) (by assumption) ?_
        · intro w hSw
          try dsimp only at hSw
          go_simp
        try simp only [Act.put, List.setIfInBounds_toArray, List.set_cons_zero, List.set_cons_succ]
        refine wpAnyH_ready (rs := [4, 19]) (by kernel_rfl) (by simp) ?_
        refine AllReadyH.cons (o := _) rfl (fun K hK => ?_) (AllReadyH.cons (o := _) rfl (fun K hK => ?_) AllReadyH.nil)
        · go_simp
          refine hK.out _ _ ?_ (fun hHeld => ?_)
          · first | exact hS | exact hS2 | exact hS3 | exact hS4 | assumption
          clear hK K
          try simp only [Act.put, List.setIfInBounds_toArray, List.set_cons_zero, List.set_cons_succ]
          refine wpAnyH_ready (rs := [19]) (by kernel_rfl) (by simp) ?_
          refine AllReadyH.cons (o := _) rfl (fun K hK => ?_) AllReadyH.nil
          rw [if_pos (by rfl)]
          refine wp_buildSlice 48 75 1 _ rfl #[.int .i64 (a : Int), .string (S old), .string (S l), .string (S nw)] i0 _ Try.underlying48 hi hz0 (by rw [hz1]; omega) (by rw [hz1]; omega) (by rw [hz1, Array.toList_map]; exact fill_tear _ _ _ _ _ (by simp)) ?_
          show K (Act.put _ (some 70) _) _
          rw [hN1]
          refine hK.out _ _ ?_ (fun hHeld => ?_)
          · first | exact hS | exact hS2 | exact hS3 | exact hS4 | assumption
          clear hK K
          try simp only [Act.put, List.setIfInBounds_toArray, List.set_cons_zero, List.set_cons_succ]
          refine wpAnyH_ready (rs := [20]) (by kernel_rfl) (by simp) ?_
          refine AllReadyH.cons (o := _) rfl (fun K hK => ?_) AllReadyH.nil
          rw [if_pos (by rfl)]
          refine wp_append_lies _ _ _ _ rfl 0 75 i0 _ 4 56 Try.underlying48 hi hz0 hz1 hz2 rfl (by omega) tv' nt xt rfl HOWN.out ⟨n0 + 1, 0, none⟩ 1 1 [.int .i64 (a : Int), .string (S old), .string (S l), .string (S nw)] rfl rfl HNEW.out HONE.out (by omega) (by unfold maxLen; omega) (by omega) (Nat.zero_le _) (n0 + 2) (by simp [hns2]) ?_
          intro g cap w2 hown' hgrow hat _
          obtain ⟨hS3, hc12, hf12, hX⟩ := HGR.out g cap w2 hown' hgrow hat
          obtain ⟨f0, f1, f2, f3, -, -, -⟩ := hX.1.cells (by rw [List.length_set]; exact HNN.out) han
          have hSF := Lib.hid (show _ ∧ _ ∧ _ ∧ _ from ⟨f0, f1, f2, f3.trans (congrArg _ (congrArg _ (congrArg S HB3.out)))⟩)
          have hrel2 : LoseR w B g1 n1 c1 g2 n2 c2 tv d keep torn at_ (k + 1) (w2.setCell ⟨B, 7, none⟩ (.slice (some ⟨g, 0, none⟩) (nt + 1) cap)) := by
            unfold LoseR
            rw [HNW.out]
            exact ⟨_, hX.1.ref, (by have := HNT.out; have := HL.out; show nt + 1 ≤ _; omega), hX.2, hX.1.c, hX.1.onl⟩
          have HREL2 := Lib.hid hrel2
          clear hrel2
          have HX := Lib.hid hX
          clear hown' hgrow hat hX f0 f1 f2 f3
          refine hK.out _ _ ?_ (fun hHeld => ?_)
          · first | exact hS | exact hS2 | exact hS3 | exact hS4 | assumption
          clear hK K
          try simp only [Act.put, List.setIfInBounds_toArray, List.set_cons_zero, List.set_cons_succ]
          refine wpAnyH_take (i := 21) (oi := _) (v := .pointer (some ⟨B, 0, none⟩)) rfl (by kernel_rfl) (by kernel_rfl) (by kernel_rfl) (fun _ _ _ h => h) (Or.inl ⟨by rfl, ?_⟩) (by assumption) ?_
          · intro w hSw
            try dsimp only at hSw
            go_simp
          try simp only [Act.put, List.setIfInBounds_toArray, List.set_cons_zero, List.set_cons_succ]
          refine wpAnyH_take (i := 22) (oi := _) (v := .pointer (some ⟨B, 7, none⟩)) rfl (by kernel_rfl) (by kernel_rfl) (by kernel_rfl) (fun _ _ _ h => h) (Or.inl ⟨by rfl, ?_⟩) (by assumption) ?_
          · intro w hSw
            try dsimp only at hSw
            go_simp
          try simp only [Act.put, List.setIfInBounds_toArray, List.set_cons_zero, List.set_cons_succ]
          refine wpAnyH_ready (rs := [23]) (by kernel_rfl) (by simp) ?_
          refine AllReadyH.cons (o := _) rfl (fun K hK => ?_) AllReadyH.nil
          go_simp
          have hS4 := hSF.out
          refine hK.out _ _ ?_ (fun hHeld => ?_)
          · first | exact hS | exact hS2 | exact hS3 | exact hS4 | assumption
          clear hK K
          try simp only [Act.put, List.setIfInBounds_toArray, List.set_cons_zero, List.set_cons_succ]
          refine wpAnyH_done (by kernel_rfl) ?_ _
          refine NoPanic.normal ?_
          clear hz7b hS hS2 hS3 hS4 hSF HGR HOWN HNEW HONE hc12 hf12 hHeld b0 b1 b2 hb3 y1 y2 y3 y4 y5 z1 z2 z7 hi hz0 hz1 hz2 hN1
          go_wp2_with fail
          go_roundw
          case rel => exact ⟨k + 1, hlt2, by go_num, HREL2.out⟩
          case measure => simp [intOf]; omega
        · go_simp
          refine hK.out _ _ ?_ (fun hHeld => ?_)
          · first | exact hS | exact hS2 | exact hS3 | exact hS4 | assumption
          clear hK K
          try simp only [Act.put, List.setIfInBounds_toArray, List.set_cons_zero, List.set_cons_succ]
          refine wpAnyH_ready (rs := [4]) (by kernel_rfl) (by simp) ?_
          refine AllReadyH.cons (o := _) rfl (fun K hK => ?_) AllReadyH.nil
          go_simp
          refine hK.out _ _ ?_ (fun hHeld => ?_)
          · first | exact hS | exact hS2 | exact hS3 | exact hS4 | assumption
          clear hK K
          try simp only [Act.put, List.setIfInBounds_toArray, List.set_cons_zero, List.set_cons_succ]
          refine wpAnyH_ready (rs := [20]) (by kernel_rfl) (by simp) ?_
          refine AllReadyH.cons (o := _) rfl (fun K hK => ?_) AllReadyH.nil
          rw [if_pos (by rfl)]
          refine wp_append_lies _ _ _ _ rfl 0 75 i0 _ 4 56 Try.underlying48 hi hz0 hz1 hz2 rfl (by omega) tv' nt xt rfl HOWN.out ⟨n0 + 1, 0, none⟩ 1 1 [.int .i64 (a : Int), .string (S old), .string (S l), .string (S nw)] rfl rfl HNEW.out HONE.out (by omega) (by unfold maxLen; omega) (by omega) (Nat.zero_le _) (n0 + 2) (by simp [hns2]) ?_
          intro g cap w2 hown' hgrow hat _
          obtain ⟨hS3, hc12, hf12, hX⟩ := HGR.out g cap w2 hown' hgrow hat
          obtain ⟨f0, f1, f2, f3, -, -, -⟩ := hX.1.cells (by rw [List.length_set]; exact HNN.out) han
          have hSF := Lib.hid (show _ ∧ _ ∧ _ ∧ _ from ⟨f0, f1, f2, f3.trans (congrArg _ (congrArg _ (congrArg S HB3.out)))⟩)
          have hrel2 : LoseR w B g1 n1 c1 g2 n2 c2 tv d keep torn at_ (k + 1) (w2.setCell ⟨B, 7, none⟩ (.slice (some ⟨g, 0, none⟩) (nt + 1) cap)) := by
            unfold LoseR
            rw [HNW.out]
            exact ⟨_, hX.1.ref, (by have := HNT.out; have := HL.out; show nt + 1 ≤ _; omega), hX.2, hX.1.c, hX.1.onl⟩
          have HREL2 := Lib.hid hrel2
          clear hrel2
          have HX := Lib.hid hX
          clear hown' hgrow hat hX f0 f1 f2 f3
          refine hK.out _ _ ?_ (fun hHeld => ?_)
          · first | exact hS | exact hS2 | exact hS3 | exact hS4 | assumption
          clear hK K
          try simp only [Act.put, List.setIfInBounds_toArray, List.set_cons_zero, List.set_cons_succ]
          refine wpAnyH_take (i := 21) (oi := _) (v := .pointer (some ⟨B, 0, none⟩)) rfl (by kernel_rfl) (by kernel_rfl) (by kernel_rfl) (fun _ _ _ h => h) (Or.inl ⟨by rfl, ?_⟩) (by assumption) ?_
          · intro w hSw
            try dsimp only at hSw
            go_simp
          try simp only [Act.put, List.setIfInBounds_toArray, List.set_cons_zero, List.set_cons_succ]
          refine wpAnyH_take (i := 22) (oi := _) (v := .pointer (some ⟨B, 7, none⟩)) rfl (by kernel_rfl) (by kernel_rfl) (by kernel_rfl) (fun _ _ _ h => h) (Or.inl ⟨by rfl, ?_⟩) (by assumption) ?_
          · intro w hSw
            try dsimp only at hSw
            go_simp
          try simp only [Act.put, List.setIfInBounds_toArray, List.set_cons_zero, List.set_cons_succ]
          refine wpAnyH_ready (rs := [23]) (by kernel_rfl) (by simp) ?_
          refine AllReadyH.cons (o := _) rfl (fun K hK => ?_) AllReadyH.nil
          go_simp
          have hS4 := hSF.out
          refine hK.out _ _ ?_ (fun hHeld => ?_)
          · first | exact hS | exact hS2 | exact hS3 | exact hS4 | assumption
          clear hK K
          try simp only [Act.put, List.setIfInBounds_toArray, List.set_cons_zero, List.set_cons_succ]
          refine wpAnyH_done (by kernel_rfl) ?_ _
          refine NoPanic.normal ?_
          clear hz7b hS hS2 hS3 hS4 hSF HGR HOWN HNEW HONE hc12 hf12 hHeld b0 b1 b2 hb3 y1 y2 y3 y4 y5 z1 z2 z7 hi hz0 hz1 hz2 hN1
          go_wp2_with fail
          go_roundw
          case rel => exact ⟨k + 1, hlt2, by go_num, HREL2.out⟩
          case measure => simp [intOf]; omega
      · have htb : ((k : Int) == torn) = true := by assumption
        have ht : (k : Int) = torn := by simpa using htb
        have HT := Lib.hid ht
        clear ht
        have hpos : at_ ≤ 0 := by assumption
        have hTN : tornN at_ = 0 := by unfold tornN; rw [if_neg (by omega)]
        have hKl := tornN_lt at_
        rw [show Value.int IntKind.i64 0 = Value.int .i64 ((tornN at_ : Nat) : Int) by rw [hTN]; rfl]
        generalize hKK : tornN at_ = K at *
        have HKK := Lib.hid hKK
        have hK64 : K ≤ 64 := by omega
        have hKi : (0 : Int) ≤ (K : Int) := by omega
        have hKi2 : (K : Int) ≤ 64 := by omega
        have hsl : (S l).size = 64 := by rw [S_size]; exact hx.2
        have hso : (S old).size = 64 := by rw [S_size]; exact hold
        have hsum : (S l).extract 0 K ++ (S old).extract K 64 = S (l.take K ++ old.drop K) := by
          rw [S_extract, S_extract, S_append, S_toList, S_toList]
          rw [List.drop_zero, Nat.sub_zero, List.take_of_length_le (l := old.drop K) (by rw [List.length_drop]; omega)]
        have hlen1 : ((S l).extract 0 K).size = K := by rw [S_extract, S_size, S_toList, List.length_take, List.length_drop]; omega
        have hlen2 : ((S old).extract K 64).size = 64 - K := by rw [S_extract, S_size, S_toList, List.length_take, List.length_drop]; omega
        clear hKK hTN
        have hM2 := (HM1.out.set HNN.out han (l.take K ++ old.drop K)).drew
        have hst := hM2.cells (by rw [List.length_set]; exact HNN.out) han
        have HS := Lib.hid (show (W1.setCell ⟨g1, a, none⟩ (.string (S (l.take K ++ old.drop K)))).drew.cell? ⟨B, 0, none⟩ = some (.slice (some ⟨g1, 0, none⟩) n1 c1) ∧ (W1.setCell ⟨g1, a, none⟩ (.string (S (l.take K ++ old.drop K)))).drew.cell? ⟨n0, 0, none⟩ = some (.int .i64 (a : Int)) ∧
            (W1.setCell ⟨g1, a, none⟩ (.string (S (l.take K ++ old.drop K)))).drew.cell? ⟨n0, 1, none⟩ = some (.string (S l)) from ⟨hst.1, hst.2.1, hst.2.2.1⟩)
        have HM2 := Lib.hid hM2
        have hns2 : (W1.setCell ⟨g1, a, none⟩ (.string (S (l.take K ++ old.drop K)))).drew.heap.size = n0 + 1 := by simpa [World.setCell] using hns1
        clear hM2 hst
        go_region_held3 (fun w' => w'.cell? ⟨B, 0, none⟩ = some (.slice (some ⟨g1, 0, none⟩) n1 c1) ∧ w'.cell? ⟨n0, 0, none⟩ = some (.int .i64 (a : Int)) ∧ w'.cell? ⟨n0, 1, none⟩ = some (.string (S l)))
          (first | assumption | exact HS.out | go_keep)
          (fail)
        generalize (W1.setCell ⟨g1, a, none⟩ (.string (S (l.take K ++ old.drop K)))).drew = W2 at *
        clear b0 b1 b2 q0 q1 q2 z1 z2 z7 y1 y2 y3 y4 y5 HS
        have hnl : (l.take K ++ old.drop K).length = 64 := by rw [List.length_append, List.length_take, List.length_drop]; omega
        have HNW := Lib.hid (show (loseK keep torn at_ d.pend d.dur (k + 1)) = (loseK keep torn at_ d.pend d.dur k).set a (l.take K ++ old.drop K) by
          rw [loseK, HXV.out]; unfold loseS; rw [if_pos HT.out, HOV.out, HKK.out])
        obtain ⟨b0, b1, b2, b3, ⟨q0, q1, q2⟩, ⟨z1, z2, z7⟩, y1, y2, y3, y4, y5⟩ := HM2.out.cells (by rw [List.length_set]; exact HNN.out) han
        have hb3 : W2.cell? ⟨g1, a, none⟩ = some (.string (S (l.take K ++ old.drop K))) := by
          rw [b3]
          have : a < (loseK keep torn at_ d.pend d.dur k).length := by rw [← HNN.out]; exact han
          simp [List.getD, this]
        clear b3
        generalize l.take K ++ old.drop K = nw at *
        clear hsum hlen1 hlen2 q0 q1 q2 hsl hso
        obtain ⟨i0, hi, hz0, hz1, hz2⟩ := info_parts info_tear
        have hS : W2.drew.cell? ⟨B, 0, none⟩ = some (.slice (some ⟨g1, 0, none⟩) n1 c1) ∧ W2.drew.cell? ⟨n0, 0, none⟩ = some (.int .i64 (a : Int)) ∧ W2.drew.cell? ⟨n0, 1, none⟩ = some (.string (S l)) ∧ W2.drew.cell? ⟨g1, a, none⟩ = some (.string (S nw)) := ⟨b0, b1, b2, hb3⟩
        go_wp2_with fail
        obtain ⟨nt, xt, htt⟩ := HM2.out.ref.tears
        have hnt := own_len htt
        have hntb : nt ≤ 101000 := by have := HL.out; omega
        have hN1 : W2.drew.heap.size = n0 + 1 := hns2
        have HOWN := Lib.hid (show ((W2.alloc (.cells #[.int .i64 (a : Int), .string (S old), .string (S l), .string (S nw)] 75)).drew).ownsRow 0 75 4 tv' nt xt from htt.alloc _)
        have hnewc := heap_alloc_new W2 (.cells #[.int .i64 (a : Int), .string (S old), .string (S l), .string (S nw)] 75)
        rw [hns2] at hnewc
        have HNEW := Lib.hid (show ∀ j u, ([.int .i64 (a : Int), .string (S old), .string (S l), .string (S nw)] : List Value)[j]? = some u → ((W2.alloc (.cells #[.int .i64 (a : Int), .string (S old), .string (S l), .string (S nw)] 75)).drew).cell? ((⟨n0 + 1, 0, none⟩ : Addr).add j) = some u from fun j u hu => by
          rw [Addr.add_mid, World.cell?_drew, cell_of_row _ _ _ _ _ (0, 0) hnewc, Nat.zero_add]; simpa using hu)
        have HONE := Lib.hid (show ∀ u ∈ ([.int .i64 (a : Int), .string (S old), .string (S l), .string (S nw)] : List Value), u.oneCell' = true from by
          intro u hu
          simp only [List.mem_cons, List.not_mem_nil, or_false] at hu
          rcases hu with rfl | rfl | rfl | rfl <;> rfl)
        have hS2 : ((W2.alloc (.cells #[.int .i64 (a : Int), .string (S old), .string (S l), .string (S nw)] 75)).drew).cell? ⟨B, 0, none⟩ = some (.slice (some ⟨g1, 0, none⟩) n1 c1) ∧ ((W2.alloc (.cells #[.int .i64 (a : Int), .string (S old), .string (S l), .string (S nw)] 75)).drew).cell? ⟨n0, 0, none⟩ = some (.int .i64 (a : Int)) ∧
            ((W2.alloc (.cells #[.int .i64 (a : Int), .string (S old), .string (S l), .string (S nw)] 75)).drew).cell? ⟨n0, 1, none⟩ = some (.string (S l)) ∧ ((W2.alloc (.cells #[.int .i64 (a : Int), .string (S old), .string (S l), .string (S nw)] 75)).drew).cell? ⟨g1, a, none⟩ = some (.string (S nw)) := by
          have hBl := lt_of_heap HM2.out.ref.dev
          have hgl := (HM2.out.ref.lasts.lt g1 rfl).2
          have hnl2 : n0 < W2.heap.size := by omega
          exact ⟨(World.cell?_alloc_old _ _ _ (Nat.ne_of_lt hBl)).trans b0, (World.cell?_alloc_old _ _ _ (Nat.ne_of_lt hnl2)).trans b1, (World.cell?_alloc_old _ _ _ (Nat.ne_of_lt hnl2)).trans b2, (World.cell?_alloc_old _ _ _ (Nat.ne_of_lt hgl)).trans hb3⟩
        have hb3' : ({ d with dur := (loseK keep torn at_ d.pend d.dur k).set a nw } : Dev).dur.getD a [] = nw := by
          have : a < (loseK keep torn at_ d.pend d.dur k).length := by rw [← HNN.out]; exact han
          simp [List.getD, this]
        have HGR := Lib.hid (fun g cap w2 (own : World.ownsRow w2 0 75 4 (.slice (some ⟨g, 0, none⟩) (nt + 1) cap) (nt + 1) (xt ++ [.int .i64 (a : Int), .string (S old), .string (S l), .string (S nw)])) (gr : ((W2.alloc (.cells #[.int .i64 (a : Int), .string (S old), .string (S l), .string (S nw)] 75)).drew).grownBy w2 tv'.ownBlock) (hat : tv'.ownBlock = some g ∨ g = n0 + 2) => by
          have := HM2.out.tear (by rw [List.length_set]; exact HNN.out) han hns2 hsz HFR.out own gr hat
          rw [hb3'] at this
          exact this)
        have hz7b : (W2.alloc (.cells #[.int .i64 (a : Int), .string (S old), .string (S l), .string (S nw)] 75)).cell? ⟨B, 7, none⟩ = some tv' :=
          (World.cell?_alloc_old _ _ _ (Nat.ne_of_lt (lt_of_heap HM2.out.ref.dev))).trans z7
        have HNT := Lib.hid hnt
        have HB3 := Lib.hid hb3'
        clear hb3' hnewc hnt htt
        refine wp_region_noPanic ?_
        refine wp_region_held_drew (S := fun w' => w'.cell? ⟨B, 0, none⟩ = some (.slice (some ⟨g1, 0, none⟩) n1 c1) ∧ w'.cell? ⟨n0, 0, none⟩ = some (.int .i64 (a : Int)) ∧ w'.cell? ⟨n0, 1, none⟩ = some (.string (S l)) ∧ w'.cell? ⟨g1, a, none⟩ = some (.string (S nw))) (by kernel_rfl) hS ?_
        intro hHeld
        refine wpAnyH_take (i := 0) (oi := _) (v := .pointer (some ⟨B, 0, none⟩)) rfl (by kernel_rfl) (by kernel_rfl) (by kernel_rfl) (fun _ _ _ h => h) (Or.inl ⟨by rfl, ?_⟩) (by assumption) ?_
        · intro w hSw
          try dsimp only at hSw
          go_simp
        try simp only [Act.put, List.setIfInBounds_toArray, List.set_cons_zero, List.set_cons_succ]
        refine wpAnyH_take (i := 1) (oi := _) (v := .pointer (some ⟨B, 0, none⟩)) rfl (by kernel_rfl) (by kernel_rfl) (by kernel_rfl) (fun _ _ _ h => h) (Or.inl ⟨by rfl, ?_⟩) (by assumption) ?_
        · intro w hSw
          try dsimp only at hSw
          go_simp
        try simp only [Act.put, List.setIfInBounds_toArray, List.set_cons_zero, List.set_cons_succ]
        refine wpAnyH_take (i := 2) (oi := _) (v := .pointer (some ⟨B, 0, none⟩)) rfl (by kernel_rfl) (by kernel_rfl) (by kernel_rfl) (fun _ _ _ h => h) (Or.inl ⟨by rfl, ?_⟩) (by assumption) ?_
        · intro w hSw
          try dsimp only at hSw
          go_simp
        try simp only [Act.put, List.setIfInBounds_toArray, List.set_cons_zero, List.set_cons_succ]
        refine wpAnyH_take (i := 3) (oi := _) (v := .pointer (some ⟨B, 7, none⟩)) rfl (by kernel_rfl) (by kernel_rfl) (by kernel_rfl) (fun _ _ _ h => h) (Or.inl ⟨by rfl, ?_⟩) (by assumption) ?_
        · intro w hSw
          try dsimp only at hSw
          go_simp
        try simp only [Act.put, List.setIfInBounds_toArray, List.set_cons_zero, List.set_cons_succ]
        refine wpAnyH_take (i := 5) (oi := _) (v := .pointer (some ⟨n0, 0, none⟩)) rfl (by kernel_rfl) (by kernel_rfl) (by kernel_rfl) (fun _ _ _ h => h) (Or.inl ⟨by rfl, ?_⟩) (by assumption) ?_
        · intro w hSw
          try dsimp only at hSw
          go_simp
        try simp only [Act.put, List.setIfInBounds_toArray, List.set_cons_zero, List.set_cons_succ]
        refine wpAnyH_take (i := 6) (oi := _) (v := .int .i64 (a : Int)) rfl (by kernel_rfl) (by kernel_rfl) (by kernel_rfl) (fun _ _ _ h => h) (Or.inl ⟨by rfl, ?_⟩) (by assumption) ?_
        · intro w hSw
          try dsimp only at hSw
          go_simp
        try simp only [Act.put, List.setIfInBounds_toArray, List.set_cons_zero, List.set_cons_succ]
        refine wpAnyH_take (i := 7) (oi := _) (v := .string (S old)) rfl (by kernel_rfl) (by kernel_rfl) (by kernel_rfl) (fun _ _ _ h => h) (Or.inl ⟨by rfl, ?_⟩) (by assumption) ?_
        · intro w hSw
          try dsimp only at hSw
          go_simp
        try simp only [Act.put, List.setIfInBounds_toArray, List.set_cons_zero, List.set_cons_succ]
        refine wpAnyH_take (i := 8) (oi := _) (v := .pointer (some ⟨n0, 1, none⟩)) rfl (by kernel_rfl) (by kernel_rfl) (by kernel_rfl) (fun _ _ _ h => h) (Or.inl ⟨by rfl, ?_⟩) (by assumption) ?_
        · intro w hSw
          try dsimp only at hSw
          go_simp
        try simp only [Act.put, List.setIfInBounds_toArray, List.set_cons_zero, List.set_cons_succ]
        refine wpAnyH_take (i := 9) (oi := _) (v := .string (S l)) rfl (by kernel_rfl) (by kernel_rfl) (by kernel_rfl) (fun _ _ _ h => h) (Or.inl ⟨by rfl, ?_⟩) (by assumption) ?_
        · intro w hSw
          try dsimp only at hSw
          go_simp
        try simp only [Act.put, List.setIfInBounds_toArray, List.set_cons_zero, List.set_cons_succ]
        refine wpAnyH_take (i := 10) (oi := _) (v := .pointer (some ⟨B, 0, none⟩)) rfl (by kernel_rfl) (by kernel_rfl) (by kernel_rfl) (fun _ _ _ h => h) (Or.inl ⟨by rfl, ?_⟩) (by assumption) ?_
        · intro w hSw
          try dsimp only at hSw
          go_simp
        try simp only [Act.put, List.setIfInBounds_toArray, List.set_cons_zero, List.set_cons_succ]
        refine wpAnyH_take (i := 11) (oi := _) (v := .pointer (some ⟨B, 0, none⟩)) rfl (by kernel_rfl) (by kernel_rfl) (by kernel_rfl) (fun _ _ _ h => h) (Or.inl ⟨by rfl, ?_⟩) (by assumption) ?_
        · intro w hSw
          try dsimp only at hSw
          go_simp
        try simp only [Act.put, List.setIfInBounds_toArray, List.set_cons_zero, List.set_cons_succ]
        refine wpAnyH_take (i := 12) (oi := _) (v := .pointer (some ⟨B, 0, none⟩)) rfl (by kernel_rfl) (by kernel_rfl) (by kernel_rfl) (fun _ _ _ h => h) (Or.inl ⟨by rfl, ?_⟩) (by assumption) ?_
        · intro w hSw
          try dsimp only at hSw
          go_simp
        try simp only [Act.put, List.setIfInBounds_toArray, List.set_cons_zero, List.set_cons_succ]
        refine wpAnyH_take (i := 13) (oi := _) (v := .slice (some ⟨g1, 0, none⟩) n1 c1) rfl (by kernel_rfl) (by kernel_rfl) (by kernel_rfl) (fun _ _ _ h => h) (Or.inl ⟨by rfl, ?_⟩) (by assumption) ?_
        · intro w hSw
          try dsimp only at hSw
          go_simp
        try simp only [Act.put, List.setIfInBounds_toArray, List.set_cons_zero, List.set_cons_succ]
        refine wpAnyH_take (i := 14) (oi := _) (v := .pointer (some ⟨n0, 0, none⟩)) rfl (by kernel_rfl) (by kernel_rfl) (by kernel_rfl) (fun _ _ _ h => h) (Or.inl ⟨by rfl, ?_⟩) (by assumption) ?_
        · intro w hSw
          try dsimp only at hSw
          go_simp
        try simp only [Act.put, List.setIfInBounds_toArray, List.set_cons_zero, List.set_cons_succ]
        refine wpAnyH_take (i := 15) (oi := _) (v := .int .i64 (a : Int)) rfl (by kernel_rfl) (by kernel_rfl) (by kernel_rfl) (fun _ _ _ h => h) (Or.inl ⟨by rfl, ?_⟩) (by assumption) ?_
        · intro w hSw
          try dsimp only at hSw
          go_simp
        try simp only [Act.put, List.setIfInBounds_toArray, List.set_cons_zero, List.set_cons_succ]
        refine wpAnyH_take (i := 16) (oi := _) (v := .pointer (some ⟨g1, a, none⟩)) rfl (by kernel_rfl) (by kernel_rfl) (by kernel_rfl) (fun _ _ _ h => h) (Or.inl ⟨by rfl, ?_⟩) (by assumption) ?_
        · intro w hSw
          try dsimp only at hSw
          go_simp
        try simp only [Act.put, List.setIfInBounds_toArray, List.set_cons_zero, List.set_cons_succ]
        refine wpAnyH_take (i := 17) (oi := _) (v := .string (S nw)) rfl (by kernel_rfl) (by kernel_rfl) (by kernel_rfl) (fun _ _ _ h => h) (Or.inl ⟨by rfl, ?_⟩) (by assumption) ?_
        · intro w hSw
          try dsimp only at hSw
          go_simp
        try simp only [Act.put, List.setIfInBounds_toArray, List.set_cons_zero, List.set_cons_succ]
        refine wpAnyH_take (i := 18) (oi := _) (v := .agg #[.int .i64 (a : Int), .string (S old), .string (S l), .string (S nw)]) rfl (by kernel_rfl) (by kernel_rfl) (by kernel_rfl) (fun _ _ _ h => h) (Or.inl ⟨by rfl, ?_⟩) (by assumption) ?_
        · intro w hSw
          try dsimp only at hSw
          go_simp
        try simp only [Act.put, List.setIfInBounds_toArray, List.set_cons_zero, List.set_cons_succ]
        refine wpAnyH_ready (rs := [4, 19]) (by kernel_rfl) (by simp) ?_
        refine AllReadyH.cons (o := _) rfl (fun K hK => ?_) (AllReadyH.cons (o := _) rfl (fun K hK => ?_) AllReadyH.nil)
        · go_simp
          refine hK.out _ _ ?_ (fun hHeld => ?_)
          · first | exact hS | exact hS2 | exact hS3 | exact hS4 | assumption
          clear hK K
          try simp only [Act.put, List.setIfInBounds_toArray, List.set_cons_zero, List.set_cons_succ]
          refine wpAnyH_ready (rs := [19]) (by kernel_rfl) (by simp) ?_
          refine AllReadyH.cons (o := _) rfl (fun K hK => ?_) AllReadyH.nil
          rw [if_pos (by rfl)]
          refine wp_buildSlice 48 75 1 _ rfl #[.int .i64 (a : Int), .string (S old), .string (S l), .string (S nw)] i0 _ Try.underlying48 hi hz0 (by rw [hz1]; omega) (by rw [hz1]; omega) (by rw [hz1, Array.toList_map]; exact fill_tear _ _ _ _ _ (by simp)) ?_
          show K (Act.put _ (some 70) _) _
          rw [hN1]
          refine hK.out _ _ ?_ (fun hHeld => ?_)
          · first | exact hS | exact hS2 | exact hS3 | exact hS4 | assumption
          clear hK K
          try simp only [Act.put, List.setIfInBounds_toArray, List.set_cons_zero, List.set_cons_succ]
          refine wpAnyH_ready (rs := [20]) (by kernel_rfl) (by simp) ?_
          refine AllReadyH.cons (o := _) rfl (fun K hK => ?_) AllReadyH.nil
          rw [if_pos (by rfl)]
          refine wp_append_lies _ _ _ _ rfl 0 75 i0 _ 4 56 Try.underlying48 hi hz0 hz1 hz2 rfl (by omega) tv' nt xt rfl HOWN.out ⟨n0 + 1, 0, none⟩ 1 1 [.int .i64 (a : Int), .string (S old), .string (S l), .string (S nw)] rfl rfl HNEW.out HONE.out (by omega) (by unfold maxLen; omega) (by omega) (Nat.zero_le _) (n0 + 2) (by simp [hns2]) ?_
          intro g cap w2 hown' hgrow hat _
          obtain ⟨hS3, hc12, hf12, hX⟩ := HGR.out g cap w2 hown' hgrow hat
          obtain ⟨f0, f1, f2, f3, -, -, -⟩ := hX.1.cells (by rw [List.length_set]; exact HNN.out) han
          have hSF := Lib.hid (show _ ∧ _ ∧ _ ∧ _ from ⟨f0, f1, f2, f3.trans (congrArg _ (congrArg _ (congrArg S HB3.out)))⟩)
          have hrel2 : LoseR w B g1 n1 c1 g2 n2 c2 tv d keep torn at_ (k + 1) (w2.setCell ⟨B, 7, none⟩ (.slice (some ⟨g, 0, none⟩) (nt + 1) cap)) := by
            unfold LoseR
            rw [HNW.out]
            exact ⟨_, hX.1.ref, (by have := HNT.out; have := HL.out; show nt + 1 ≤ _; omega), hX.2, hX.1.c, hX.1.onl⟩
          have HREL2 := Lib.hid hrel2
          clear hrel2
          have HX := Lib.hid hX
          clear hown' hgrow hat hX f0 f1 f2 f3
          refine hK.out _ _ ?_ (fun hHeld => ?_)
          · first | exact hS | exact hS2 | exact hS3 | exact hS4 | assumption
          clear hK K
          try simp only [Act.put, List.setIfInBounds_toArray, List.set_cons_zero, List.set_cons_succ]
          refine wpAnyH_take (i := 21) (oi := _) (v := .pointer (some ⟨B, 0, none⟩)) rfl (by kernel_rfl) (by kernel_rfl) (by kernel_rfl) (fun _ _ _ h => h) (Or.inl ⟨by rfl, ?_⟩) (by assumption) ?_
          · intro w hSw
            try dsimp only at hSw
            go_simp
          try simp only [Act.put, List.setIfInBounds_toArray, List.set_cons_zero, List.set_cons_succ]
          refine wpAnyH_take (i := 22) (oi := _) (v := .pointer (some ⟨B, 7, none⟩)) rfl (by kernel_rfl) (by kernel_rfl) (by kernel_rfl) (fun _ _ _ h => h) (Or.inl ⟨by rfl, ?_⟩) (by assumption) ?_
          · intro w hSw
            try dsimp only at hSw
            go_simp
          try simp only [Act.put, List.setIfInBounds_toArray, List.set_cons_zero, List.set_cons_succ]
          refine wpAnyH_ready (rs := [23]) (by kernel_rfl) (by simp) ?_
          refine AllReadyH.cons (o := _) rfl (fun K hK => ?_) AllReadyH.nil
          go_simp
          have hS4 := hSF.out
          refine hK.out _ _ ?_ (fun hHeld => ?_)
          · first | exact hS | exact hS2 | exact hS3 | exact hS4 | assumption
          clear hK K
          try simp only [Act.put, List.setIfInBounds_toArray, List.set_cons_zero, List.set_cons_succ]
          refine wpAnyH_done (by kernel_rfl) ?_ _
          refine NoPanic.normal ?_
          clear hz7b hS hS2 hS3 hS4 hSF HGR HOWN HNEW HONE hc12 hf12 hHeld b0 b1 b2 hb3 y1 y2 y3 y4 y5 z1 z2 z7 hi hz0 hz1 hz2 hN1
          go_wp2_with fail
          go_roundw
          case rel => exact ⟨k + 1, hlt2, by go_num, HREL2.out⟩
          case measure => simp [intOf]; omega
        · go_simp
          refine hK.out _ _ ?_ (fun hHeld => ?_)
          · first | exact hS | exact hS2 | exact hS3 | exact hS4 | assumption
          clear hK K
          try simp only [Act.put, List.setIfInBounds_toArray, List.set_cons_zero, List.set_cons_succ]
          refine wpAnyH_ready (rs := [4]) (by kernel_rfl) (by simp) ?_
          refine AllReadyH.cons (o := _) rfl (fun K hK => ?_) AllReadyH.nil
          go_simp
          refine hK.out _ _ ?_ (fun hHeld => ?_)
          · first | exact hS | exact hS2 | exact hS3 | exact hS4 | assumption
          clear hK K
          try simp only [Act.put, List.setIfInBounds_toArray, List.set_cons_zero, List.set_cons_succ]
          refine wpAnyH_ready (rs := [20]) (by kernel_rfl) (by simp) ?_
          refine AllReadyH.cons (o := _) rfl (fun K hK => ?_) AllReadyH.nil
          rw [if_pos (by rfl)]
          refine wp_append_lies _ _ _ _ rfl 0 75 i0 _ 4 56 Try.underlying48 hi hz0 hz1 hz2 rfl (by omega) tv' nt xt rfl HOWN.out ⟨n0 + 1, 0, none⟩ 1 1 [.int .i64 (a : Int), .string (S old), .string (S l), .string (S nw)] rfl rfl HNEW.out HONE.out (by omega) (by unfold maxLen; omega) (by omega) (Nat.zero_le _) (n0 + 2) (by simp [hns2]) ?_
          intro g cap w2 hown' hgrow hat _
          obtain ⟨hS3, hc12, hf12, hX⟩ := HGR.out g cap w2 hown' hgrow hat
          obtain ⟨f0, f1, f2, f3, -, -, -⟩ := hX.1.cells (by rw [List.length_set]; exact HNN.out) han
          have hSF := Lib.hid (show _ ∧ _ ∧ _ ∧ _ from ⟨f0, f1, f2, f3.trans (congrArg _ (congrArg _ (congrArg S HB3.out)))⟩)
          have hrel2 : LoseR w B g1 n1 c1 g2 n2 c2 tv d keep torn at_ (k + 1) (w2.setCell ⟨B, 7, none⟩ (.slice (some ⟨g, 0, none⟩) (nt + 1) cap)) := by
            unfold LoseR
            rw [HNW.out]
            exact ⟨_, hX.1.ref, (by have := HNT.out; have := HL.out; show nt + 1 ≤ _; omega), hX.2, hX.1.c, hX.1.onl⟩
          have HREL2 := Lib.hid hrel2
          clear hrel2
          have HX := Lib.hid hX
          clear hown' hgrow hat hX f0 f1 f2 f3
          refine hK.out _ _ ?_ (fun hHeld => ?_)
          · first | exact hS | exact hS2 | exact hS3 | exact hS4 | assumption
          clear hK K
          try simp only [Act.put, List.setIfInBounds_toArray, List.set_cons_zero, List.set_cons_succ]
          refine wpAnyH_take (i := 21) (oi := _) (v := .pointer (some ⟨B, 0, none⟩)) rfl (by kernel_rfl) (by kernel_rfl) (by kernel_rfl) (fun _ _ _ h => h) (Or.inl ⟨by rfl, ?_⟩) (by assumption) ?_
          · intro w hSw
            try dsimp only at hSw
            go_simp
          try simp only [Act.put, List.setIfInBounds_toArray, List.set_cons_zero, List.set_cons_succ]
          refine wpAnyH_take (i := 22) (oi := _) (v := .pointer (some ⟨B, 7, none⟩)) rfl (by kernel_rfl) (by kernel_rfl) (by kernel_rfl) (fun _ _ _ h => h) (Or.inl ⟨by rfl, ?_⟩) (by assumption) ?_
          · intro w hSw
            try dsimp only at hSw
            go_simp
          try simp only [Act.put, List.setIfInBounds_toArray, List.set_cons_zero, List.set_cons_succ]
          refine wpAnyH_ready (rs := [23]) (by kernel_rfl) (by simp) ?_
          refine AllReadyH.cons (o := _) rfl (fun K hK => ?_) AllReadyH.nil
          go_simp
          have hS4 := hSF.out
          refine hK.out _ _ ?_ (fun hHeld => ?_)
          · first | exact hS | exact hS2 | exact hS3 | exact hS4 | assumption
          clear hK K
          try simp only [Act.put, List.setIfInBounds_toArray, List.set_cons_zero, List.set_cons_succ]
          refine wpAnyH_done (by kernel_rfl) ?_ _
          refine NoPanic.normal ?_
          clear hz7b hS hS2 hS3 hS4 hSF HGR HOWN HNEW HONE hc12 hf12 hHeld b0 b1 b2 hb3 y1 y2 y3 y4 y5 z1 z2 z7 hi hz0 hz1 hz2 hN1
          go_wp2_with fail
          go_roundw
          case rel => exact ⟨k + 1, hlt2, by go_num, HREL2.out⟩
          case measure => simp [intOf]; omega
      · have htb : ((k : Int) == torn) = false := by assumption
        have hbb : (((keep : Int) / 2 ^ (k % 64)).tmod 2 == 1) = true := by assumption
        have hM2 := (HM1.out.set HNN.out han l).drew
        have hst := hM2.cells (by rw [List.length_set]; exact HNN.out) han
        have HS := Lib.hid (show (W1.setCell ⟨g1, a, none⟩ (.string (S l))).drew.cell? ⟨B, 0, none⟩ = some (.slice (some ⟨g1, 0, none⟩) n1 c1) ∧ (W1.setCell ⟨g1, a, none⟩ (.string (S l))).drew.cell? ⟨n0, 0, none⟩ = some (.int .i64 (a : Int)) ∧
            (W1.setCell ⟨g1, a, none⟩ (.string (S l))).drew.cell? ⟨n0, 1, none⟩ = some (.string (S l)) from ⟨hst.1, hst.2.1, hst.2.2.1⟩)
        have hrel2 : LoseR w B g1 n1 c1 g2 n2 c2 tv d keep torn at_ (k + 1) (W1.setCell ⟨g1, a, none⟩ (.string (S l))).drew := by
          have e : (loseK keep torn at_ d.pend d.dur (k + 1)) = (loseK keep torn at_ d.pend d.dur k).set a l := by
            rw [loseK, HXV.out]; unfold loseS; rw [if_neg (by simpa using htb), if_pos (by rw [← bit_rem keep _ hk]; exact hbb)]
          unfold LoseR
          rw [e]
          exact ⟨_, hM2.ref, (by have := HL.out; omega), HFR.out, hM2.c, hM2.onl⟩
        have HREL2 := Lib.hid hrel2
        clear hM2 hst hrel2
        go_region_held3 (fun w' => w'.cell? ⟨B, 0, none⟩ = some (.slice (some ⟨g1, 0, none⟩) n1 c1) ∧ w'.cell? ⟨n0, 0, none⟩ = some (.int .i64 (a : Int)) ∧ w'.cell? ⟨n0, 1, none⟩ = some (.string (S l)))
          (first | assumption | exact HS.out | go_keep)
          (fail)
        go_wp2_with fail
        go_roundw
        case rel => exact ⟨k + 1, hlt2, by go_num, HREL2.out⟩
        case measure => simp [intOf]; omega
      · have htb : ((k : Int) == torn) = false := by assumption
        have hbb : (((keep : Int) / 2 ^ (k % 64)).tmod 2 == 1) = false := by assumption
        have hrel2 : LoseR w B g1 n1 c1 g2 n2 c2 tv d keep torn at_ (k + 1) W1 := by
          have e : (loseK keep torn at_ d.pend d.dur (k + 1)) = loseK keep torn at_ d.pend d.dur k := by
            rw [loseK, HXV.out]; unfold loseS; rw [if_neg (by simpa using htb), if_neg (by rw [← bit_rem keep _ hk, hbb]; simp)]
          unfold LoseR
          rw [e]
          exact ⟨_, HM1.out.ref, (by have := HL.out; omega), HFR.out, HM1.out.c, HM1.out.onl⟩
        have HREL2 := Lib.hid hrel2
        clear hrel2
        refine ⟨⟨k + 1, hlt2, by go_num, HREL2.out⟩, ?_⟩
        simp [intOf]; omega
    · obtain rfl : k = n2 := by omega
      obtain ⟨⟨a0, a1, a2, a3, a4, a5, a6, a7⟩, hff, hBl⟩ := hr.cells
      have hf1 := hff 1
      have hfin : RefTo (lenV tv + 1000) w B (rblocks B (.slice (some ⟨g1, 0, none⟩) n1 c1) (.slice (some ⟨g2, 0, none⟩) k c2) tv) (wr.setCell ⟨B, 1, none⟩ (.slice none 0 0)) (loseD d keep torn at_) := by
        refine ⟨.slice (some ⟨g1, 0, none⟩) n1 c1, .slice none 0 0, tv', ?_, by omega, ?_, hon.setCell (p := ⟨B, 1, none⟩) (by simp [rblocks]) _⟩
        · have := hr.store rfl 1 (.slice none 0 0) (lv' := .slice (some ⟨g1, 0, none⟩) n1 c1) (wv' := .slice none 0 0) (tv' := tv') (d' := loseD d keep torn at_) (by unfold loseD; rw [HN2.out]; simp [refC]) (by unfold loseD; rw [HN2.out] at hr; exact hr.lasts) (World.ownsRow_nil _ _ _ _) hr.tears hr.calls hr.keep
          exact this
        · intro x hx
          rcases mem_rblocks.1 hx with h1 | h1 | h1 | h1
          · exact .inl (mem_rblocks.2 (.inl h1))
          · exact .inl (mem_rblocks.2 (.inr (.inl h1)))
          · simp [Value.ownBlock] at h1
          · rcases hfr x h1 with h2 | h2
            · exact .inl (mem_rblocks.2 (.inr (.inr (.inr h2))))
            · exact .inr h2
      have HFIN := Lib.hid hfin
      clear hr hl hfr hcr hon hff hfin a0 a2 a3 a4 a5 a6 a7
      go_wp2_with fail
      go_end0
      exact ⟨rfl, HFIN.out⟩

end Go.Proofs.Ytfmcbccmijcdgaa.Bk
