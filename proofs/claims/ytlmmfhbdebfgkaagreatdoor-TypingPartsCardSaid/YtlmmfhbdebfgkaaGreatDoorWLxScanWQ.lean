/-
  LxScanW, LxToks, ExPsR, ExL8, ExAgainW.
-/
import Derived.Test.YtlmmfhbdebfgkaaGreatDoorWLxBlankQ
import Derived.Test.YtlmmfhbdebfgkaaGreatDoorWLxTokQ
import Derived.Test.YtlmmfhbdebfgkaaGreatDoorWVaPrintQ
import Derived.Test.YtlmmfhbdebfgkaaGreatDoorWExPsYQ
import Derived.Test.YtlmmfhbdebfgkaaGreatDoorWLxRScanWQ
import Derived.Test.YtlmmfhbdebfgkaaGreatDoorWExBadQ
import Derived.Test.YtlmmfhbdebfgkaaGreatDoorWExRefYQ
import Derived.Test.YtlmmfhbdebfgkaaGreatDoorWExWrHQ
import Derived.Test.YtlmmfhbdebfgkaaGreatDoorWVlKeyQ
import Derived.Laws.AppendOwn
import Derived.Deep.RegionHeld3
set_option linter.unusedVariables false
set_option linter.unusedSimpArgs false
set_option maxRecDepth 100000
set_option maxHeartbeats 8000000
namespace Go.Proofs.YtlmmfhbdebfgkaaGreatDoor.Lx
open Go.RowKit
open Va
def toksC (ts : List TA) : List Value := ts.flatMap fun t => [.int .i64 t.kind, .string (S t.text), .int .i64 t.num, .int .i64 (t.at_ : Int)]
theorem toksC_length (ts : List TA) : (toksC ts).length = ts.length * 4 := by
  induction ts with
  | nil => rfl
  | cons t ts ih =>
    show (_ ++ toksC ts).length = _
    rw [List.length_append, ih]; simp; omega
theorem toksC_append (a b : List TA) : toksC (a ++ b) = toksC a ++ toksC b := by simp [toksC]
theorem infoTok : (Tryz.prog.info? 79).map (fun i => (i.zero, i.size, i.bytes)) = some (some (.agg #[.int .i64 0, .string ⟨#[]⟩, .int .i64 0, .int .i64 0]), 4, 40) := by kernel_rfl
def Toks (w : World) (B : Nat) (v : Value) (ts : List TA) : Prop := w.ownsRow B 79 4 v ts.length (toksC ts)
theorem Toks.kept {w w' : World} {B : Nat} {v : Value} {ts : List TA} (h : Toks w B v ts) (hb : Below w.heap.size w w') : Toks w' B v ts :=
  World.ownsRow.kept (row := none) h ⟨hb.os, hb.tape, hb.output, hb.size, fun k hk _ => hb.block k hk⟩ (Classical.em _)
theorem app_tok (B : Nat) (v : Value) (ts : List TA) (w : World) (h : Toks w B v ts) (hB : B ≤ w.heap.size) (hn : ts.length ≤ 100000) (k : Int) (t : List UInt8) (n : Int) (m : Nat) (H : Nat) (hH : w.heap.size = H) :
    ∃ v' w', (Builtin.append_ #[74, 74] 74 #[v, .slice (some ⟨H, 0, none⟩) 1 1]).run Tryz.prog (w.alloc (.cells #[.int .i64 k, .string (S t), .int .i64 n, .int .i64 (m : Int)] 79)) = .ok v' w' ∧
      Toks w' B v' (ts ++ [⟨k, t, n, m⟩]) ∧ Below B w w' ∧ w.heap.size < w'.heap.size := by
  subst hH
  obtain ⟨i0, hi, hz0, hz1, hz2⟩ := info_parts infoTok
  have hown := World.ownsRow.alloc h (.cells #[.int .i64 k, .string (S t), .int .i64 n, .int .i64 (m : Int)] 79)
  have hnews : ∀ j u, [Value.int .i64 k, .string (S t), .int .i64 n, .int .i64 (m : Int)][j]? = some u → (w.alloc (.cells #[.int .i64 k, .string (S t), .int .i64 n, .int .i64 (m : Int)] 79)).cell? ((⟨w.heap.size, 0, none⟩ : Addr).add j) = some u := by
    intro j u hj
    have hadd : (⟨w.heap.size, 0, none⟩ : Addr).add j = ⟨w.heap.size, j, none⟩ := by unfold Addr.add; split <;> simp_all
    rw [hadd, cell_of_row _ w.heap.size j _ _ (0, 0) (heap_alloc_new w _)]
    simpa using hj
  have h1 : ∀ u ∈ [Value.int .i64 k, .string (S t), .int .i64 n, .int .i64 (m : Int)], u.oneCell' = true := by
    intro u hu
    simp only [List.mem_cons, List.not_mem_nil, or_false] at hu
    rcases hu with rfl | rfl | rfl | rfl <;> rfl
  obtain ⟨v', w', hr, h2, h3, _⟩ := run_append_own (P := Tryz.prog) (w.alloc (.cells #[.int .i64 k, .string (S t), .int .i64 n, .int .i64 (m : Int)] 79)) B 74 74 79 i0 _ 4 40 Tryz.underlying74 hi hz0 hz1 hz2 rfl (by decide) v ts.length (toksC ts) hown ⟨w.heap.size, 0, none⟩ 1 1 [.int .i64 k, .string (S t), .int .i64 n, .int .i64 (m : Int)] rfl hnews h1 (by unfold maxLen; omega) (by omega) (by simp; omega)
  refine ⟨v', w', hr, ?_, ((Below.refl _ _).alloc hB _).grown h3 (by simp; omega) (fun k hk => (World.ownsRow.lt h k hk).1), ?_⟩
  · unfold Toks
    rw [toksC_append, List.length_append]
    exact h2
  · have := h3.size
    simp at this
    omega
def scanR (B : Nat) (x : List TA × Option Nat) (e : Ending) (w' : World) : Prop := match x with
  | (ts, none) => ∃ v, e = .returned (.tuple #[v, .int .i64 0, .int .i64 0]) ∧ Toks w' B v ts
  | (_, some p) => e = .returned (.tuple #[.slice none 0 0, .int .i64 (p : Int), .int .i64 24])
structure ScLoop (l : List UInt8) (w : World) (v : Value) (ts : List TA) (m : Nat) (wr : World) : Prop where
  st : ScanSt l ts m
  len : ts.length ≤ m
  toks : Toks wr w.heap.size v ts
  below : Below w.heap.size w wr
theorem scan_any (s : ByteArray) (hs : s.size ≤ 8000) (w : World) (hL : Laid w) :
    Calls Tryz.prog 24 #[.string s] w fun e w' => scanR w.heap.size (scanM s.data.toList 0) e w' ∧ Below w.heap.size w w' := by
  have hls := list_size s
  obtain ⟨l, hl⟩ : ∃ l, s.data.toList = l := ⟨_, rfl⟩
  have HBL := Lib.hid (fun (wr : World) (hb : Below w.heap.size w wr) => blank_any s (by omega) wr (hL.below hb).max)
  have HBM := Lib.hid (fun (m : Nat) (hm : m ≤ s.size) (wr : World) (hb : Below w.heap.size w wr) => show Calls Tryz.prog 43 #[.string (s.extract m s.size)] wr fun e w' => e = .returned (.int .i64 (blk false (l.drop m) : Int)) ∧ Below wr.heap.size wr w' from by
    have := blank_any (s.extract m s.size) (by rw [ByteArray.size_extract]; omega) wr (hL.below hb).max
    rw [S_extract, S_toList, List.take_of_length_le (by rw [List.length_drop, hls]; exact Nat.le_refl _), hl] at this
    rw [S_extract, List.take_of_length_le (by rw [List.length_drop, hls]; exact Nat.le_refl _), hl]
    exact this)
  have HFI := Lib.hid (fun (m : Nat) (hm : m < s.size) (wr : World) (hb : Below w.heap.size w wr) => show Calls Tryz.prog 44 #[.string (s.extract m s.size)] wr fun e w' => e = .returned (ansV (tokM (l.drop m))) ∧ Below wr.heap.size wr w' from by
    have := first_any (s.extract m s.size) (by rw [ByteArray.size_extract]; omega) (by rw [ByteArray.size_extract]; omega) wr (hL.below hb)
    rw [S_extract, S_toList, List.take_of_length_le (by rw [List.length_drop, hls]; exact Nat.le_refl _), hl] at this
    rw [S_extract, List.take_of_length_le (by rw [List.length_drop, hls]; exact Nat.le_refl _), hl]
    exact this)
  rw [hl] at hls HBL ⊢
  have HAP := Lib.hid (fun v ts wr (h : Toks wr w.heap.size v ts) (hB : w.heap.size ≤ wr.heap.size) (hn : ts.length ≤ 100000) k t n m H hH => app_tok w.heap.size v ts wr h hB hn k t n m H hH)
  have hbl := blk_le false l
  have HS0 := Lib.hid (scan_start l)
  have HLS := Lib.hid hls
  have hbi : ((blk false l : Nat) : Int) ≤ (s.size : Int) := by omega
  have hsi : (s.size : Int) ≤ 8000 := by omega
  generalize hb0 : blk false l = b0 at *
  clear hb0 hl hls hL
  go_enter Tryz.func24, Tryz.ntmps24
  go_wp2_with fail
  refine (HBL.out _ (Below.refl _ _)).mono ?_
  rintro e w1 ⟨rfl, b1⟩
  have B1 := Lib.hid b1
  clear b1
  go_wp2_with fail
  go_loopw [5, 6] (fun xo va wr => ∃ (ts : List TA) (m : Nat) (vo : Value), vo = xo ∧ va = .int .i64 m ∧ m ≤ s.size ∧ ScLoop l w vo ts m wr) (fun _ va _ => s.size - (intOf va).toNat)
  case atStart => exact ⟨[], b0, _, rfl, rfl, by omega, HS0.out, by simp, World.ownsRow_nil _ _ _ _, B1.out⟩
  case round =>
    obtain ⟨ts, m, vo, rfl, rfl, hm, hsc⟩ := hrel
    have HSC := Lib.hid hsc
    clear hsc
    by_cases hlt : m < s.size
    · have hmi : (m : Int) < (s.size : Int) := by omega
      have HF := Lib.hid (HFI.out m hlt)
      cases ht : tokM (l.drop m) with
      | none =>
        rw [ht] at HF
        have HR := Lib.hid (scan_bad l ts m HSC.out.st (by have := HLS.out; omega) ht)
        clear ht
        go_wp2_with fail
        refine (HF.out _ HSC.out.below).mono ?_
        rintro e w2 ⟨rfl, b2⟩
        have B2 := Lib.hid (HSC.out.below.trans (b2.mono HSC.out.below.size))
        clear b2
        unfold ansV tokC
        go_wp2_with fail
        go_ret3
        rw [HR.out]
        exact ⟨rfl, B2.out.alloc (by have := B2.out.size; omega) _⟩
      | some t =>
        rw [ht] at HF
        obtain ⟨hf1, hf2⟩ := tok_fits l m t ht (by have := HLS.out; omega)
        have hst := scan_next l ts m HSC.out.st (by have := HLS.out; omega) t ht
        have hbl2 := blk_le false (l.drop (m + t.len))
        rw [List.length_drop] at hbl2
        have hf3 : m + t.len ≤ s.size := by have := HLS.out; omega
        have hf4 : m + t.len + blk false (l.drop (m + t.len)) ≤ s.size := by have := HLS.out; omega
        have HB2 := Lib.hid (HBM.out (m + t.len) hf3)
        have HST := Lib.hid hst
        obtain ⟨kd, tx, nm, z⟩ := t
        simp only at hf1 hf2 hf3 hf4 HST HB2 hbl2
        have hzi : (1 : Int) ≤ (z : Int) := by omega
        have hz0 : ((z : Int) == 0) = false := by rw [beq_eq_false_iff_ne]; omega
        have hz3 : (m : Int) + (z : Int) ≤ (s.size : Int) := by omega
        have hz4 : (m : Int) + (z : Int) + ((blk false (l.drop (m + z)) : Nat) : Int) ≤ (s.size : Int) := by omega
        have htl : ts.length ≤ 100000 := by have := HSC.out.len; omega
        generalize blk false (l.drop (m + z)) = bz at *
        clear ht hst hf1 hf2 hbl2
        go_wp2_with fail
        refine (HF.out _ HSC.out.below).mono ?_
        rintro e w2 ⟨rfl, b2⟩
        have B2 := Lib.hid (HSC.out.below.trans (b2.mono HSC.out.below.size))
        have T2 := Lib.hid (HSC.out.toks.kept b2)
        clear b2
        unfold ansV tokC
        obtain ⟨v', w4, hrun, htk, hbw, hlt4⟩ := HAP.out vo ts (w2.alloc (.cells #[.int .i64 kd, .string (S tx), .int .i64 nm, .int .i64 (m : Int)] 79)) (World.ownsRow.alloc T2.out _) (by have := B2.out.size; simp; omega) htl kd tx nm m (w2.heap.size + 1) (by simp)
        have HRUN := Lib.hid hrun
        have HTK := Lib.hid htk
        have B4 := Lib.hid ((B2.out.alloc (by have := B2.out.size; omega) (.cells #[.int .i64 kd, .string (S tx), .int .i64 nm, .int .i64 (m : Int)] 79)).trans hbw)
        clear hrun htk hbw hlt4
        go_wp2_with (at_builtin; refine wpList_app rfl _ _ _ _ rfl rfl rfl _ _ HRUN.out ?_)
        refine (HB2.out _ B4.out).mono ?_
        rintro e w5 ⟨rfl, b5⟩
        have T5 := Lib.hid (HTK.out.kept b5)
        have B5 := Lib.hid (B4.out.trans (b5.mono B4.out.size))
        clear b5
        go_wp2_with fail
        go_roundw
        case rel => exact ⟨_, m + z + bz, _, rfl, by go_num, hf4, HST.out, by have := HSC.out.len; simp; omega, T5.out, B5.out⟩
        case measure => simp [intOf]; omega
    · obtain rfl : m = s.size := by omega
      have HR := Lib.hid (scan_end l ts s.size HSC.out.st (by have := HLS.out; omega))
      have htl : ts.length ≤ 100000 := by have := HSC.out.len; omega
      obtain ⟨v', w4, hrun, htk, hbw, _⟩ := HAP.out vo ts wr HSC.out.toks HSC.out.below.size htl 0 [] 0 s.size wr.heap.size rfl
      have HRUN := Lib.hid hrun
      have HTK := Lib.hid htk
      have B4 := Lib.hid (HSC.out.below.trans hbw)
      clear hrun htk hbw
      go_wp2_with (at_builtin; refine wpList_app rfl _ _ _ _ rfl rfl rfl _ _ HRUN.out ?_)
      go_ret3
      rw [HR.out]
      exact ⟨⟨_, rfl, HTK.out⟩, B4.out⟩
end Go.Proofs.YtlmmfhbdebfgkaaGreatDoor.Lx
namespace Go.Proofs.YtlmmfhbdebfgkaaGreatDoor.Lx
open Go.RowKit
open Va
structure TokAt (w : World) (g : Nat) (ts : List TA) : Prop where
  lt : g < w.heap.size
  cells : ∀ i t, ts[i]? = some t → w.cell? ⟨g, i * 4, none⟩ = some (.int .i64 t.kind) ∧ w.cell? ⟨g, i * 4 + 1, none⟩ = some (.string (S t.text)) ∧ w.cell? ⟨g, i * 4 + 2, none⟩ = some (.int .i64 t.num) ∧ w.cell? ⟨g, i * 4 + 3, none⟩ = some (.int .i64 (t.at_ : Int))
theorem TokAt.below {w w' : World} {g : Nat} {ts : List TA} (h : TokAt w g ts) (b : Below w.heap.size w w') : TokAt w' g ts :=
  ⟨Nat.lt_of_lt_of_le h.lt b.size, fun i t hi => by
    obtain ⟨h0, h1, h2, h3⟩ := h.cells i t hi
    exact ⟨(b.cell (p := ⟨g, i * 4, none⟩) h.lt).trans h0, (b.cell (p := ⟨g, i * 4 + 1, none⟩) h.lt).trans h1, (b.cell (p := ⟨g, i * 4 + 2, none⟩) h.lt).trans h2, (b.cell (p := ⟨g, i * 4 + 3, none⟩) h.lt).trans h3⟩⟩
theorem toksC_get : ∀ (ts : List TA) (i : Nat) (t : TA), ts[i]? = some t →
    (toksC ts)[i * 4]? = some (.int .i64 t.kind) ∧ (toksC ts)[i * 4 + 1]? = some (.string (S t.text)) ∧ (toksC ts)[i * 4 + 2]? = some (.int .i64 t.num) ∧ (toksC ts)[i * 4 + 3]? = some (.int .i64 (t.at_ : Int))
  | [], i, t, h => by simp at h
  | a :: ts, 0, t, h => by
    obtain rfl : a = t := by simpa using h
    exact ⟨rfl, rfl, rfl, rfl⟩
  | a :: ts, i + 1, t, h => by
    have ih := toksC_get ts i t (by simpa using h)
    have e : ∀ k, (toksC (a :: ts))[(i + 1) * 4 + k]? = (toksC ts)[i * 4 + k]? := fun k => by
      show ([Value.int .i64 a.kind, .string (S a.text), .int .i64 a.num, .int .i64 (a.at_ : Int)] ++ toksC ts)[(i + 1) * 4 + k]? = _
      rw [List.getElem?_append_right (by simp; omega)]
      congr 1
      simp; omega
    exact ⟨by rw [show (i + 1) * 4 = (i + 1) * 4 + 0 from rfl, e 0]; exact ih.1, by rw [e 1]; exact ih.2.1, by rw [e 2]; exact ih.2.2.1, by rw [e 3]; exact ih.2.2.2⟩
theorem Toks.at {w : World} {B : Nat} {v : Value} {ts : List TA} (h : Toks w B v ts) (hne : ts ≠ []) : ∃ g cap, v = .slice (some ⟨g, 0, none⟩) ts.length cap ∧ B ≤ g ∧ TokAt w g ts := by
  have hpos := List.length_pos_iff.2 hne
  rcases h.2 with ⟨_, h0⟩ | ⟨g, cap, cur, rfl, hB, hg, _⟩
  · omega
  · refine ⟨g, cap, rfl, hB, lt_of_heapV hg, fun i t hi => ?_⟩
    have hil := (List.getElem?_eq_some_iff.1 hi).1
    obtain ⟨h0, h1, h2, h3⟩ := toksC_get ts i t hi
    have c : ∀ k u, k < 4 → (toksC ts)[i * 4 + k]? = some u → w.cell? ⟨g, i * 4 + k, none⟩ = some u := fun k u hk hu => by
      have hl := toksC_length ts
      have := World.ownsRow.cells h (g := g) rfl (i * 4 + k) u hu
      have hadd : (⟨g, 0, none⟩ : Addr).add (i * 4 + k) = ⟨g, i * 4 + k, none⟩ := by unfold Addr.add; split <;> simp_all
      rw [hadd] at this
      exact this
    exact ⟨c 0 _ (by omega) h0, c 1 _ (by omega) h1, c 2 _ (by omega) h2, c 3 _ (by omega) h3⟩
theorem scan_long (s : ByteArray) (hs : 8000 < s.size) (w : World) :
    Calls Tryz.prog 24 #[.string s] w fun e w' => e = .returned (.tuple #[.slice none 0 0, .int .i64 0, .int .i64 5]) ∧ Below w.heap.size w w' := by
  have hsi : (8000 : Int) < (s.size : Int) := by omega
  go_enter Tryz.func24, Tryz.ntmps24
  go_wp2_with fail
  go_ret3
  exact ⟨rfl, Below.refl _ _⟩
theorem scan_ok (s : ByteArray) (hs : s.size ≤ 8000) (w : World) (hL : Laid w) (ts : List TA) (h : scanM s.data.toList 0 = (ts, none)) :
    Calls Tryz.prog 24 #[.string s] w fun e w' => (∃ g cap, e = .returned (.tuple #[.slice (some ⟨g, 0, none⟩) ts.length cap, .int .i64 0, .int .i64 0]) ∧ w.heap.size ≤ g ∧ TokAt w' g ts) ∧ Below w.heap.size w w' := by
  refine (scan_any s hs w hL).mono ?_
  rintro e w' ⟨hr, hb⟩
  rw [h] at hr
  obtain ⟨v, rfl, ht⟩ := hr
  have hne : ts ≠ [] := by
    have := scan_ne s.data.toList 0 (by rw [h])
    rw [h] at this
    exact this
  obtain ⟨g, cap, rfl, hB, hta⟩ := ht.at hne
  exact ⟨⟨g, cap, rfl, hB, hta⟩, hb⟩
theorem scan_err (s : ByteArray) (hs : s.size ≤ 8000) (w : World) (hL : Laid w) (ts : List TA) (p : Nat) (h : scanM s.data.toList 0 = (ts, some p)) :
    Calls Tryz.prog 24 #[.string s] w fun e w' => e = .returned (.tuple #[.slice none 0 0, .int .i64 (p : Int), .int .i64 24]) ∧ Below w.heap.size w w' := by
  refine (scan_any s hs w hL).mono ?_
  rintro e w' ⟨hr, hb⟩
  rw [h] at hr
  exact ⟨hr, hb⟩
end Go.Proofs.YtlmmfhbdebfgkaaGreatDoor.Lx
namespace Go.Proofs.YtlmmfhbdebfgkaaGreatDoor.Ex
open Go.RowKit
open Lx Va
def RdR (w : World) (r : T × Nat × Nat) (e : Ending) (w' : World) : Prop := ∃ p c, e = .returned (.tuple #[exprC r.1 p c, .int .i64 (r.2.2 : Int), .int .i64 (r.2.1 : Int)]) ∧ FAt w' (w.heap.size ≤ ·) r.1.args p
theorem read_none (s : ByteArray) (k p : Nat) (hk : k ≠ 0) (w : World) (hSC : ∀ W : World, Below w.heap.size w W → Calls Tryz.prog 24 #[.string s] W fun e w' => e = .returned (.tuple #[.slice none 0 0, .int .i64 (p : Int), .int .i64 (k : Int)]) ∧ Below W.heap.size W w') :
    Calls Tryz.prog 11 #[.string s] w fun e w' => RdR w (⟨0, 0, [], .nil⟩, k, p) e w' ∧ Below w.heap.size w w' := by
  have hb := (Below.refl w.heap.size w).alloc (Nat.le_refl _) (.cells #[.int .i64 0, .int .i64 0, .string ⟨#[]⟩, .slice none 0 0] 24)
  have HSC := Lib.hid (hSC _ hb)
  have HB := Lib.hid hb
  have HX := Lib.hid (Bx.new w (.int .i64 0) (.int .i64 0) (.string ⟨#[]⟩) (.slice none 0 0))
  have hk1 : ((k : Int) == 0) = false := by rw [beq_eq_false_iff_ne]; omega
  have hk2 : ((k : Int) != 0) = true := by simp; omega
  clear hb hSC hk
  go_enter Tryz.func11, Tryz.ntmps11
  go_wp2_with fail
  refine HSC.out.mono ?_
  rintro e w1 ⟨rfl, b1⟩
  have hx := HX.out.keep (Kept.of_below (ok := fun _ => True) b1) trivial
  have hB := HB.out.trans (b1.mono HB.out.size)
  have p0 := hx.c0
  have p1 := hx.c1
  have p2 := hx.c2
  have p3 := hx.c3
  have pf := hx.fz
  have HXF := Lib.hid (hx.put (.int .i64 0) (.int .i64 0) (.string ⟨#[]⟩) (.slice none 0 0))
  have HBF := Lib.hid (Below.put hB w.heap.size (Nat.le_refl _) (.int .i64 0) (.int .i64 0) (.string ⟨#[]⟩) (.slice none 0 0))
  clear b1 hx hB
  go_wp2_with fail
  refine bodyPost_ret (res_expr3 rfl _ _ w.heap.size _ _ _ _ (.int .i64 (p : Int)) (.int .i64 (k : Int)) rfl HXF.out rfl rfl) rfl ?_
  exact ⟨⟨none, 0, rfl, trivial⟩, HBF.out⟩
theorem read_yes (s : ByteArray) (hs : s.size ≤ 8000) (ts : List TA) (hsc : scanM s.data.toList 0 = (ts, none)) (x : T) (s2 : St) (hp : parseM ts 0 = .ok x s2) (hend : s2.at_ + 1 = ts.length) (w : World) (hL : Laid w) (hC : ConsAt w) :
    Calls Tryz.prog 11 #[.string s] w fun e w' => RdR w (x, 0, 0) e w' ∧ Below w.heap.size w w' := by
  have hls := list_size s
  have hlen := (scan_at _ s.data.toList 0 (Nat.le_refl _)).2
  rw [hsc] at hlen
  simp only at hlen
  have hn : ts.length ≤ 8001 := by omega
  have hE := scan_ends hsc
  have hK : ∀ i, TokS (tk ts i) := fun i => tk_of (P := TokS) (tokS_end 0) (by have h := scan_s s.data.toList.length s.data.toList 0 (Nat.le_refl _); rw [hsc] at h; exact h) i
  have HSC := Lib.hid (fun (W : World) (hb : Below w.heap.size w W) => scan_ok s hs W (hL.below hb) ts hsc)
  have HPA := Lib.hid (fun g cap W (k : TsAt W g ts) (kc : ConsAt W) => pparse_any g cap ts hE hn hK 0 hE.pos W k kc)
  rw [hp] at HPA
  have hni : (ts.length : Int) ≤ 8001 := by omega
  have hpi : (1 : Int) ≤ (ts.length : Int) := by have := hE.pos; omega
  have HC := Lib.hid hC
  have hb0 := (Below.refl w.heap.size w).alloc (Nat.le_refl _) (.cells #[.int .i64 0, .int .i64 0, .string ⟨#[]⟩, .slice none 0 0] 24)
  have HSC0 := Lib.hid (HSC.out _ hb0)
  have HB0 := Lib.hid hb0
  have HX0 := Lib.hid (Bx.new w (.int .i64 0) (.int .i64 0) (.string ⟨#[]⟩) (.slice none 0 0))
  have hnx : decide ((s2.at_ : Int) < (ts.length : Int) - 1) = false := by rw [decide_eq_false_iff_not]; omega
  have hny : ¬ (s2.at_ : Int) < (ts.length : Int) - 1 := by omega
  clear hls hlen hsc hE hn hp hK hL hC hb0 HSC
  go_enter Tryz.func11, Tryz.ntmps11
  go_wp2_with fail
  refine HSC0.out.mono ?_
  rintro e w1 ⟨⟨g, cap, rfl, hg, hta⟩, b1⟩
  have hts : TsAt w1 g ts := ⟨hta.lt, hta.cells⟩
  have hb1 := HB0.out.trans (b1.mono HB0.out.size)
  have HPA1 := Lib.hid (HPA.out g cap w1 hts (HC.out.keep (Kept.of_below (ok := fun _ => True) hb1) trivial))
  have HTS := Lib.hid hts
  have HB1 := Lib.hid hb1
  have HX1 := Lib.hid (HX0.out.keep (Kept.of_below (ok := fun _ => True) b1) trivial)
  have HG := Lib.hid (show w.heap.size < g by have h := hg; rw [World.size_alloc] at h; omega)
  clear hta b1 hts hb1 HPA hg
  go_wp2_with fail
  refine HPA1.out.mono ?_
  rintro e w5 ⟨hr, b5⟩
  obtain ⟨q, c, rfl, hfa⟩ := hr
  unfold exprC
  have hh := HX1.out.keep (Kept.of_below (ok := fun _ => True) b5) trivial
  have HZ1 := Lib.hid HX1.out.lt
  have f5 := hh.fz
  have p0 := hh.c0
  have p1 := hh.c1
  have p2 := hh.c2
  have p3 := hh.c3
  have hh5 := hh.lt
  have zh : ∀ o j, (w5.alloc o).cell? ⟨w.heap.size, j, none⟩ = w5.cell? ⟨w.heap.size, j, none⟩ := fun o j => Kept.cell (Kept.alloc (ok := fun _ => True) w5 o) trivial hh5
  have zf : ∀ o j, (w5.alloc o).frozen? ⟨w.heap.size, j, none⟩ = false := fun o j => (hh.keep (Kept.alloc (ok := fun _ => True) w5 o) trivial).fz j
  have HXF := Lib.hid (Bx.keep (ok := fun _ => True) (hh.put (.int .i64 x.op) (.int .i64 x.num) (.string (S x.text)) (.slice q x.args.len c)) (Kept.alloc _ (.cells #[.int .i64 x.op, .int .i64 x.num, .string (S x.text), .slice q x.args.len c] 24)) trivial)
  have hB5 := HB1.out.trans (b5.mono HB1.out.size)
  have HBF := Lib.hid ((Below.put hB5 w.heap.size (Nat.le_refl _) (.int .i64 x.op) (.int .i64 x.num) (.string (S x.text)) (.slice q x.args.len c)).alloc (by rw [put4_size]; omega) (.cells #[.int .i64 x.op, .int .i64 x.num, .string (S x.text), .slice q x.args.len c] 24))
  have HFF := Lib.hid (FAt.mono (ok' := (w.heap.size ≤ ·)) (fun y _ hg => by have h1 := HZ1.out; have h2 : w1.heap.size ≤ y := hg; show w.heap.size ≤ y; omega) _ _ ((hfa.keep (Kept.put w5 w.heap.size (.int .i64 x.op) (.int .i64 x.num) (.string (S x.text)) (.slice q x.args.len c) (by have := HZ1.out; omega))).keep (Kept.alloc _ (.cells #[.int .i64 x.op, .int .i64 x.num, .string (S x.text), .slice q x.args.len c] 24))))
  clear hh hfa b5 hB5
  go_wp2_with fail
  refine bodyPost_ret (res_expr3 rfl _ _ w.heap.size _ _ _ _ (.int .i64 0) (.int .i64 0) rfl HXF.out rfl rfl) rfl ?_
  exact ⟨⟨q, c, rfl, HFF.out⟩, HBF.out⟩
theorem read_more (s : ByteArray) (hs : s.size ≤ 8000) (ts : List TA) (hsc : scanM s.data.toList 0 = (ts, none)) (x : T) (s2 : St) (hp : parseM ts 0 = .ok x s2) (hend : s2.at_ + 1 ≠ ts.length) (w : World) (hL : Laid w) (hC : ConsAt w) :
    Calls Tryz.prog 11 #[.string s] w fun e w' => RdR w (⟨0, 0, [], .nil⟩, 25, (tk ts s2.at_).at_) e w' ∧ Below w.heap.size w w' := by
  have hls := list_size s
  have hlen := (scan_at _ s.data.toList 0 (Nat.le_refl _)).2
  rw [hsc] at hlen
  simp only at hlen
  have hn : ts.length ≤ 8001 := by omega
  have hE := scan_ends hsc
  have hK : ∀ i, TokS (tk ts i) := fun i => tk_of (P := TokS) (tokS_end 0) (by have h := scan_s s.data.toList.length s.data.toList 0 (Nat.le_refl _); rw [hsc] at h; exact h) i
  have HSC := Lib.hid (fun (W : World) (hb : Below w.heap.size w W) => scan_ok s hs W (hL.below hb) ts hsc)
  have HPA := Lib.hid (fun g cap W (k : TsAt W g ts) (kc : ConsAt W) => pparse_any g cap ts hE hn hK 0 hE.pos W k kc)
  rw [hp] at HPA
  have hni : (ts.length : Int) ≤ 8001 := by omega
  have hpi : (1 : Int) ≤ (ts.length : Int) := by have := hE.pos; omega
  have HC := Lib.hid hC
  have hb0 := (Below.refl w.heap.size w).alloc (Nat.le_refl _) (.cells #[.int .i64 0, .int .i64 0, .string ⟨#[]⟩, .slice none 0 0] 24)
  have HSC0 := Lib.hid (HSC.out _ hb0)
  have HB0 := Lib.hid hb0
  have HX0 := Lib.hid (Bx.new w (.int .i64 0) (.int .i64 0) (.string ⟨#[]⟩) (.slice none 0 0))
  have hat : s2.at_ < ts.length := (lv_st hE FUEL 0 _ _ _ (⟨hE.pos, by simp, by simp⟩ : StOk ts ⟨0, 0, 0⟩) hp).lt
  have hny : (s2.at_ : Int) < (ts.length : Int) - 1 := by omega
  have hnx : decide ((s2.at_ : Int) < (ts.length : Int) - 1) = true := by rw [decide_eq_true_eq]; omega
  have hati : (s2.at_ : Int) < (ts.length : Int) := by omega
  have HAT := Lib.hid hat
  clear hat hend
  clear hls hlen hsc hE hn hp hK hL hC hb0 HSC
  go_enter Tryz.func11, Tryz.ntmps11
  go_wp2_with fail
  refine HSC0.out.mono ?_
  rintro e w1 ⟨⟨g, cap, rfl, hg, hta⟩, b1⟩
  have hts : TsAt w1 g ts := ⟨hta.lt, hta.cells⟩
  have hb1 := HB0.out.trans (b1.mono HB0.out.size)
  have HPA1 := Lib.hid (HPA.out g cap w1 hts (HC.out.keep (Kept.of_below (ok := fun _ => True) hb1) trivial))
  have HTS := Lib.hid hts
  have HB1 := Lib.hid hb1
  have HX1 := Lib.hid (HX0.out.keep (Kept.of_below (ok := fun _ => True) b1) trivial)
  have HG := Lib.hid (show w.heap.size < g by have h := hg; rw [World.size_alloc] at h; omega)
  clear hta b1 hts hb1 HPA hg
  go_wp2_with fail
  refine HPA1.out.mono ?_
  rintro e w5 ⟨hr, b5⟩
  obtain ⟨q, c, rfl, hfa⟩ := hr
  unfold exprC
  clear hfa
  have hh := HX1.out.keep (Kept.of_below (ok := fun _ => True) b5) trivial
  have ht5 := HTS.out.below b5
  have hh5 := hh.lt
  have hB5 := HB1.out.trans (b5.mono HB1.out.size)
  obtain ⟨W6, hW6⟩ : ∃ W6, W6 = w5.alloc (.cells #[.int .i64 x.op, .int .i64 x.num, .string (S x.text), .slice q x.args.len c] 24) := ⟨_, rfl⟩
  have k6 : Kept (fun _ => True) w5 W6 := by rw [hW6]; exact Kept.alloc _ _
  have hh6 := hh.keep k6 trivial
  have ht6 := ht5.keep k6 trivial
  have hB6 : Below w.heap.size w W6 := by rw [hW6]; exact hB5.alloc hB5.size _
  obtain ⟨t0, t1, t2, t3⟩ := ht6.tok HAT.out
  have f5 := hh6.fz
  have p0 := hh6.c0
  have p1 := hh6.c1
  have p2 := hh6.c2
  have p3 := hh6.c3
  have hgh : ¬ g = w.heap.size := by have := HG.out; omega
  have hhg : ¬ w.heap.size = g := by have := HG.out; omega
  have HW6 := Lib.hid hW6
  have HXF := Lib.hid (Bx.drew' (hh6.put (.int .i64 0) (.int .i64 0) (.string ⟨#[]⟩) (.slice none 0 0)))
  have HBF := Lib.hid ((Below.put hB6 w.heap.size (Nat.le_refl _) (.int .i64 0) (.int .i64 0) (.string ⟨#[]⟩) (.slice none 0 0)).drew)
  clear hh ht5 hB5 b5 hh5 hW6 k6 hh6 ht6 hB6
  go_upto_region 8 with fail
  rw [← HW6.out]
  go_region
  all_goals
    simp only [Exit.then]
    go_wp2_with fail
    refine bodyPost_ret (res_expr3 rfl _ _ w.heap.size _ _ _ _ (.int .i64 ((tk ts s2.at_).at_ : Int)) (.int .i64 25) rfl HXF.out rfl rfl) rfl ?_
    exact ⟨⟨none, 0, rfl, trivial⟩, HBF.out⟩
theorem read_bad (s : ByteArray) (hs : s.size ≤ 8000) (ts : List TA) (hsc : scanM s.data.toList 0 = (ts, none)) (er j : Nat) (hp : parseM ts 0 = .bad er j) (w : World) (hL : Laid w) (hC : ConsAt w) :
    Calls Tryz.prog 11 #[.string s] w fun e w' => RdR w (⟨0, 0, [], .nil⟩, er, (tk ts j).at_) e w' ∧ Below w.heap.size w w' := by
  have hls := list_size s
  have hlen := (scan_at _ s.data.toList 0 (Nat.le_refl _)).2
  rw [hsc] at hlen
  simp only at hlen
  have hn : ts.length ≤ 8001 := by omega
  have hE := scan_ends hsc
  have hK : ∀ i, TokS (tk ts i) := fun i => tk_of (P := TokS) (tokS_end 0) (by have h := scan_s s.data.toList.length s.data.toList 0 (Nat.le_refl _); rw [hsc] at h; exact h) i
  have HSC := Lib.hid (fun (W : World) (hb : Below w.heap.size w W) => scan_ok s hs W (hL.below hb) ts hsc)
  have HPA := Lib.hid (fun g cap W (k : TsAt W g ts) (kc : ConsAt W) => pparse_any g cap ts hE hn hK 0 hE.pos W k kc)
  rw [hp] at HPA
  have hni : (ts.length : Int) ≤ 8001 := by omega
  have hpi : (1 : Int) ≤ (ts.length : Int) := by have := hE.pos; omega
  have HC := Lib.hid hC
  have hb0 := (Below.refl w.heap.size w).alloc (Nat.le_refl _) (.cells #[.int .i64 0, .int .i64 0, .string ⟨#[]⟩, .slice none 0 0] 24)
  have HSC0 := Lib.hid (HSC.out _ hb0)
  have HB0 := Lib.hid hb0
  have HX0 := Lib.hid (Bx.new w (.int .i64 0) (.int .i64 0) (.string ⟨#[]⟩) (.slice none 0 0))
  have hbd := parse_bad hE hp
  have hat : j < ts.length := hbd.2
  have her : er ≠ 0 := by have := hbd.1; omega
  have hk1 : ((er : Int) == 0) = false := by rw [beq_eq_false_iff_ne]; omega
  have hk2 : ((er : Int) != 0) = true := by simp; omega
  have hati : (j : Int) < (ts.length : Int) := by omega
  have HAT := Lib.hid hat
  clear hat hbd her
  clear hls hlen hsc hE hn hp hK hL hC hb0 HSC
  go_enter Tryz.func11, Tryz.ntmps11
  go_wp2_with fail
  refine HSC0.out.mono ?_
  rintro e w1 ⟨⟨g, cap, rfl, hg, hta⟩, b1⟩
  have hts : TsAt w1 g ts := ⟨hta.lt, hta.cells⟩
  have hb1 := HB0.out.trans (b1.mono HB0.out.size)
  have HPA1 := Lib.hid (HPA.out g cap w1 hts (HC.out.keep (Kept.of_below (ok := fun _ => True) hb1) trivial))
  have HTS := Lib.hid hts
  have HB1 := Lib.hid hb1
  have HX1 := Lib.hid (HX0.out.keep (Kept.of_below (ok := fun _ => True) b1) trivial)
  have HG := Lib.hid (show w.heap.size < g by have h := hg; rw [World.size_alloc] at h; omega)
  clear hta b1 hts hb1 HPA hg
  go_wp2_with fail
  refine HPA1.out.mono ?_
  rintro e w5 ⟨hr, b5⟩
  obtain ⟨_, rfl⟩ := hr
  unfold noX
  have hh := HX1.out.keep (Kept.of_below (ok := fun _ => True) b5) trivial
  have ht5 := HTS.out.below b5
  have hh5 := hh.lt
  have hB5 := HB1.out.trans (b5.mono HB1.out.size)
  obtain ⟨W6, hW6⟩ : ∃ W6, W6 = w5.alloc (.cells #[.int .i64 0, .int .i64 0, .string ⟨#[]⟩, .slice none 0 0] 24) := ⟨_, rfl⟩
  have k6 : Kept (fun _ => True) w5 W6 := by rw [hW6]; exact Kept.alloc _ _
  have hh6 := hh.keep k6 trivial
  have ht6 := ht5.keep k6 trivial
  have hB6 : Below w.heap.size w W6 := by rw [hW6]; exact hB5.alloc hB5.size _
  obtain ⟨t0, t1, t2, t3⟩ := ht6.tok HAT.out
  have f5 := hh6.fz
  have p0 := hh6.c0
  have p1 := hh6.c1
  have p2 := hh6.c2
  have p3 := hh6.c3
  have hgh : ¬ g = w.heap.size := by have := HG.out; omega
  have hhg : ¬ w.heap.size = g := by have := HG.out; omega
  have HW6 := Lib.hid hW6
  have HXF := Lib.hid (Bx.drew' (hh6.put (.int .i64 0) (.int .i64 0) (.string ⟨#[]⟩) (.slice none 0 0)))
  have HBF := Lib.hid ((Below.put hB6 w.heap.size (Nat.le_refl _) (.int .i64 0) (.int .i64 0) (.string ⟨#[]⟩) (.slice none 0 0)).drew)
  clear hh ht5 hB5 b5 hh5 hW6 k6 hh6 ht6 hB6
  go_upto_region 8 with fail
  rw [← HW6.out]
  go_region
  all_goals
    simp only [Exit.then]
    go_wp2_with fail
    refine bodyPost_ret (res_expr3 rfl _ _ w.heap.size _ _ _ _ (.int .i64 ((tk ts j).at_ : Int)) (.int .i64 er) rfl HXF.out rfl rfl) rfl ?_
    exact ⟨⟨none, 0, rfl, trivial⟩, HBF.out⟩
theorem pread_any (s : ByteArray) (w : World) (hL : Laid w) (hC : ConsAt w) : Calls Tryz.prog 11 #[.string s] w fun e w' => RdR w (rdM s.data.toList) e w' ∧ Below w.heap.size w w' := by
  have hls := list_size s
  unfold rdM
  by_cases hs : 8000 < s.data.toList.length
  · rw [if_pos hs]
    exact read_none s 5 0 (by decide) w (fun W hb => scan_long s (by omega) W)
  · rw [if_neg hs]
    have hs' : s.size ≤ 8000 := by omega
    obtain ⟨ts, o, ho⟩ : ∃ ts o, scanM s.data.toList 0 = (ts, o) := ⟨_, _, rfl⟩
    rw [ho]
    cases o with
    | some p => exact read_none s 24 p (by decide) w (fun W hb => scan_err s hs' W (hL.below hb) ts p ho)
    | none =>
      simp only
      unfold readM
      cases hp : parseM ts 0 with
      | ok x s2 =>
        simp only
        by_cases he : s2.at_ + 1 = ts.length
        · rw [if_pos he]; exact read_yes s hs' ts ho x s2 hp he w hL hC
        · rw [if_neg he]; exact read_more s hs' ts ho x s2 hp he w hL hC
      | bad er j => exact read_bad s hs' ts ho er j hp w hL hC
end Go.Proofs.YtlmmfhbdebfgkaaGreatDoor.Ex
namespace Go.Proofs.YtlmmfhbdebfgkaaGreatDoor.Ex
open Go.RowKit
open Lx Va
theorem nums_of : ∀ f : F, NumF f → f.nums
  | .nil, _ => trivial
  | .cons _ _ _ a r, ⟨h1, h2, h3⟩ => ⟨h1, nums_of a h2, nums_of r h3⟩
theorem wf_len {o n : Int} {t : List UInt8} {a : F} (h1 : formedB o n t a.len = true) : a.len ≤ 16 := by
  rcases node_kinds (frm h1) with ⟨_, rfl⟩ | ⟨_, h⟩ | ⟨_, x, rfl⟩ | ⟨_, x, rfl⟩ | ⟨_, x, y, rfl⟩ | ⟨_, x, y, rfl⟩
  · show 0 ≤ 16; omega
  · exact h
  · show 1 ≤ 16; omega
  · show 1 ≤ 16; omega
  · show 2 ≤ 16; omega
  · show 2 ≤ 16; omega
theorem wf_fits : ∀ f : F, WfF f → f.fits
  | .nil, _ => trivial
  | .cons o n t a r, ⟨h1, h2, h3, h4⟩ => by
    refine ⟨?_, Nat.le_trans (wf_len h1) (by omega), wf_fits a h3, wf_fits r h4⟩
    have hf := frm h1
    rcases hf.text with h | h | h | h | h
    · rw [h]; simp
    · have := hf.short h; omega
    · have := (nameB_ne (named_six h2 (by simp [h]))).2.1; omega
    · have := (nameB_ne (named_six h2 (by simp [h]))).2.1; omega
    · have := (nameB_ne (named_six h2 (by simp [h]))).2.1; omega
theorem rd_fine {l : List UInt8} {x : T} {p : Nat} (h : rdM l = (x, 0, p)) : Fine x ∧ x.row.fits ∧ x.row.nums := by
  obtain ⟨_, _, m, e, s, hx⟩ := rd_ok h
  have hf := hx.fine.1
  exact ⟨hf, wf_fits x.row hf.wf, nums_of x.row hf.num⟩
theorem consB {w w' : World} (h : ConsAt w) (b : Below w.heap.size w w') : ConsAt w' := h.keep (Kept.of_below (ok := fun _ => True) b) trivial
end Go.Proofs.YtlmmfhbdebfgkaaGreatDoor.Ex
namespace Go.Proofs.YtlmmfhbdebfgkaaGreatDoor.Ex
open Go.RowKit
open Lx Va
theorem pread_l {l : List UInt8} {x : T} {k p : Nat} (h : rdM l = (x, k, p)) (w : World) (hL : Laid w) (hC : ConsAt w) : Calls Tryz.prog 11 #[.string (S l)] w fun e w' =>
    (∃ q c, e = .returned (.tuple #[.agg #[.int .i64 x.op, .int .i64 x.num, .string (S x.text), .slice q x.args.len c], .int .i64 (p : Int), .int .i64 (k : Int)]) ∧ FAt w' (w.heap.size ≤ ·) x.args q) ∧ Below w.heap.size w w' := by
  have hr := pread_any (S l) w hL hC
  rw [show (S l).data.toList = l by simp [S], h] at hr
  exact hr
theorem pread_0 {l : List UInt8} {x : T} {p : Nat} (h : rdM l = (x, 0, p)) (w : World) (hL : Laid w) (hC : ConsAt w) : Calls Tryz.prog 11 #[.string (S l)] w fun e w' =>
    (∃ q c, e = .returned (.tuple #[.agg #[.int .i64 x.op, .int .i64 x.num, .string (S x.text), .slice q x.args.len c], .int .i64 (p : Int), .int .i64 0]) ∧ FAt w' (w.heap.size ≤ ·) x.args q) ∧ Below w.heap.size w w' := pread_l h w hL hC
end Go.Proofs.YtlmmfhbdebfgkaaGreatDoor.Ex
