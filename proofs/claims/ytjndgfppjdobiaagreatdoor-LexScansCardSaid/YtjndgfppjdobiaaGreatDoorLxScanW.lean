/-
  The program's lexer: Scan.
-/
import Derived.Test.YtjndgfppjdobiaaGreatDoorLxFirst
import Derived.Test.YtjndgfppjdobiaaGreatDoorLxScanP
import Derived.Test.YtjndgfppjdobiaaGreatDoorVlBld
import Derived.Laws.AppendOwn
namespace Go.Proofs.YtjndgfppjdobiaaGreatDoor.Lx
open Go.RowKit
open Va

/-- A row of tokens, cell by cell. -/
def toksC (ts : List TA) : List Value := ts.flatMap fun t => [.int .i64 t.kind, .string (S t.text), .int .i64 t.num, .int .i64 (t.at_ : Int)]
theorem toksC_length (ts : List TA) : (toksC ts).length = ts.length * 4 := by
  induction ts with
  | nil => rfl
  | cons t ts ih =>
    show (_ ++ toksC ts).length = _
    rw [List.length_append, ih]; simp; omega
theorem toksC_append (a b : List TA) : toksC (a ++ b) = toksC a ++ toksC b := by simp [toksC]
theorem infoTok : (Tryz.prog.info? 32).map (fun i => (i.zero, i.size, i.bytes)) = some (some (.agg #[.int .i64 0, .string ⟨#[]⟩, .int .i64 0, .int .i64 0]), 4, 40) := by kernel_rfl
/-- The call's own row of tokens. -/
def Toks (w : World) (B : Nat) (v : Value) (ts : List TA) : Prop := w.ownsRow B 32 4 v ts.length (toksC ts)
theorem Toks.kept {w w' : World} {B : Nat} {v : Value} {ts : List TA} (h : Toks w B v ts) (hb : Below w.heap.size w w') : Toks w' B v ts :=
  World.ownsRow.kept (row := none) h ⟨hb.os, hb.tape, hb.output, hb.size, fun k hk _ => hb.block k hk⟩ (Classical.em _)
/-- One more token, that lies in a box. -/
theorem app_tok (B : Nat) (v : Value) (ts : List TA) (w : World) (h : Toks w B v ts) (hB : B ≤ w.heap.size) (hn : ts.length ≤ 100000) (k : Int) (t : List UInt8) (n : Int) (m : Nat) (H : Nat) (hH : w.heap.size = H) :
    ∃ v' w', (Builtin.append_ #[23, 23] 23 #[v, .slice (some ⟨H, 0, none⟩) 1 1]).run Tryz.prog (w.alloc (.cells #[.int .i64 k, .string (S t), .int .i64 n, .int .i64 (m : Int)] 32)) = .ok v' w' ∧
      Toks w' B v' (ts ++ [⟨k, t, n, m⟩]) ∧ Below B w w' ∧ w.heap.size < w'.heap.size := by
  subst hH
  obtain ⟨i0, hi, hz0, hz1, hz2⟩ := info_parts infoTok
  have hown := World.ownsRow.alloc h (.cells #[.int .i64 k, .string (S t), .int .i64 n, .int .i64 (m : Int)] 32)
  have hnews : ∀ j u, [Value.int .i64 k, .string (S t), .int .i64 n, .int .i64 (m : Int)][j]? = some u → (w.alloc (.cells #[.int .i64 k, .string (S t), .int .i64 n, .int .i64 (m : Int)] 32)).cell? ((⟨w.heap.size, 0, none⟩ : Addr).add j) = some u := by
    intro j u hj
    have hadd : (⟨w.heap.size, 0, none⟩ : Addr).add j = ⟨w.heap.size, j, none⟩ := by unfold Addr.add; split <;> simp_all
    rw [hadd, cell_of_row _ w.heap.size j _ _ (0, 0) (heap_alloc_new w _)]
    simpa using hj
  have h1 : ∀ u ∈ [Value.int .i64 k, .string (S t), .int .i64 n, .int .i64 (m : Int)], u.oneCell' = true := by
    intro u hu
    simp only [List.mem_cons, List.not_mem_nil, or_false] at hu
    rcases hu with rfl | rfl | rfl | rfl <;> rfl
  obtain ⟨v', w', hr, h2, h3, _⟩ := run_append_own (P := Tryz.prog) (w.alloc (.cells #[.int .i64 k, .string (S t), .int .i64 n, .int .i64 (m : Int)] 32)) B 23 23 32 i0 _ 4 40 Tryz.underlying23 hi hz0 hz1 hz2 rfl (by decide) v ts.length (toksC ts) hown ⟨w.heap.size, 0, none⟩ 1 1 [.int .i64 k, .string (S t), .int .i64 n, .int .i64 (m : Int)] rfl hnews h1 (by unfold maxLen; omega) (by omega) (by simp; omega)
  refine ⟨v', w', hr, ?_, ((Below.refl _ _).alloc hB _).grown h3 (by simp; omega) (fun k hk => (World.ownsRow.lt h k hk).1), ?_⟩
  · unfold Toks
    rw [toksC_append, List.length_append]
    exact h2
  · have := h3.size
    simp at this
    omega
/-- What Scan returns. -/
def scanR (B : Nat) (x : List TA × Option Nat) (e : Ending) (w' : World) : Prop := match x with
  | (ts, none) => ∃ v, e = .returned (.tuple #[v, .int .i64 0, .int .i64 0]) ∧ Toks w' B v ts
  | (_, some p) => e = .returned (.tuple #[.slice none 0 0, .int .i64 (p : Int), .int .i64 24])
/-- The state of the loop. -/
structure ScLoop (l : List UInt8) (w : World) (v : Value) (ts : List TA) (m : Nat) (wr : World) : Prop where
  st : ScanSt l ts m
  len : ts.length ≤ m
  toks : Toks wr w.heap.size v ts
  below : Below w.heap.size w wr

set_option linter.unusedSimpArgs false
set_option maxRecDepth 100000 in
set_option maxHeartbeats 6400000 in
theorem scan_any (s : ByteArray) (hs : s.size ≤ 8000) (w : World) (hL : Laid w) :
    Calls Tryz.prog 5 #[.string s] w fun e w' => scanR w.heap.size (scanM s.data.toList 0) e w' ∧ Below w.heap.size w w' := by
  have hls := list_size s
  obtain ⟨l, hl⟩ : ∃ l, s.data.toList = l := ⟨_, rfl⟩
  have HBL := Lib.hid (fun (wr : World) (hb : Below w.heap.size w wr) => blank_any s (by omega) wr (hL.below hb).max)
  have HBM := Lib.hid (fun (m : Nat) (hm : m ≤ s.size) (wr : World) (hb : Below w.heap.size w wr) => show Calls Tryz.prog 8 #[.string (s.extract m s.size)] wr fun e w' => e = .returned (.int .i64 (blk false (l.drop m) : Int)) ∧ Below wr.heap.size wr w' from by
    have := blank_any (s.extract m s.size) (by rw [ByteArray.size_extract]; omega) wr (hL.below hb).max
    rw [S_extract, S_toList, List.take_of_length_le (by rw [List.length_drop, hls]; exact Nat.le_refl _), hl] at this
    rw [S_extract, List.take_of_length_le (by rw [List.length_drop, hls]; exact Nat.le_refl _), hl]
    exact this)
  have HFI := Lib.hid (fun (m : Nat) (hm : m < s.size) (wr : World) (hb : Below w.heap.size w wr) => show Calls Tryz.prog 9 #[.string (s.extract m s.size)] wr fun e w' => e = .returned (ansV (tokM (l.drop m))) ∧ Below wr.heap.size wr w' from by
    have := first_any (s.extract m s.size) (by rw [ByteArray.size_extract]; omega) (by rw [ByteArray.size_extract]; omega) wr (hL.below hb)
    rw [S_extract, S_toList, List.take_of_length_le (by rw [List.length_drop, hls]; exact Nat.le_refl _), hl] at this
    rw [S_extract, List.take_of_length_le (by rw [List.length_drop, hls]; exact Nat.le_refl _), hl]
    exact this)
  rw [hl] at hls HBL ⊢
  have HAP := Lib.hid (fun v ts wr (h : Toks wr w.heap.size v ts) (hB : w.heap.size ≤ wr.heap.size) (hn : ts.length ≤ 100000) k t n m H hH => app_tok w.heap.size v ts wr h hB hn k t n m H hH)
  have hbl := blk_le false l
  have HS0 := Lib.hid (scan_start l)
  have HLS := Lib.hid hls
  have hbi : ((blk false l : Nat) : Int) ≤ (s.size : Int) := by omega
  have hsi : (s.size : Int) ≤ 8000 := by omega
  generalize hb0 : blk false l = b0 at *
  clear hb0 hl hls hL
  go_enter Tryz.func5, Tryz.ntmps5
  go_wp2_with fail
  refine (HBL.out _ (Below.refl _ _)).mono ?_
  rintro e w1 ⟨rfl, b1⟩
  have B1 := Lib.hid b1
  clear b1
  go_wp2_with fail
  go_loopw [5, 6] (fun xo va wr => ∃ (ts : List TA) (m : Nat) (vo : Value), vo = xo ∧ va = .int .i64 m ∧ m ≤ s.size ∧ ScLoop l w vo ts m wr) (fun _ va _ => s.size - (intOf va).toNat)
  case atStart => exact ⟨[], b0, _, rfl, rfl, by omega, HS0.out, by simp, World.ownsRow_nil _ _ _ _, B1.out⟩
  case round =>
    obtain ⟨ts, m, vo, rfl, rfl, hm, hsc⟩ := hrel
    have HSC := Lib.hid hsc
    clear hsc
    by_cases hlt : m < s.size
    · have hmi : (m : Int) < (s.size : Int) := by omega
      have HF := Lib.hid (HFI.out m hlt)
      cases ht : tokM (l.drop m) with
      | none =>
        rw [ht] at HF
        have HR := Lib.hid (scan_bad l ts m HSC.out.st (by have := HLS.out; omega) ht)
        clear ht
        go_wp2_with fail
        refine (HF.out _ HSC.out.below).mono ?_
        rintro e w2 ⟨rfl, b2⟩
        have B2 := Lib.hid (HSC.out.below.trans (b2.mono HSC.out.below.size))
        clear b2
        unfold ansV tokC
        go_wp2_with fail
        go_ret3
        rw [HR.out]
        exact ⟨rfl, B2.out.alloc (by have := B2.out.size; omega) _⟩
      | some t =>
        rw [ht] at HF
        obtain ⟨hf1, hf2⟩ := tok_fits l m t ht (by have := HLS.out; omega)
        have hst := scan_next l ts m HSC.out.st (by have := HLS.out; omega) t ht
        have hbl2 := blk_le false (l.drop (m + t.len))
        rw [List.length_drop] at hbl2
        have hf3 : m + t.len ≤ s.size := by have := HLS.out; omega
        have hf4 : m + t.len + blk false (l.drop (m + t.len)) ≤ s.size := by have := HLS.out; omega
        have HB2 := Lib.hid (HBM.out (m + t.len) hf3)
        have HST := Lib.hid hst
        obtain ⟨kd, tx, nm, z⟩ := t
        simp only at hf1 hf2 hf3 hf4 HST HB2 hbl2
        have hzi : (1 : Int) ≤ (z : Int) := by omega
        have hz0 : ((z : Int) == 0) = false := by rw [beq_eq_false_iff_ne]; omega
        have hz3 : (m : Int) + (z : Int) ≤ (s.size : Int) := by omega
        have hz4 : (m : Int) + (z : Int) + ((blk false (l.drop (m + z)) : Nat) : Int) ≤ (s.size : Int) := by omega
        have htl : ts.length ≤ 100000 := by have := HSC.out.len; omega
        generalize blk false (l.drop (m + z)) = bz at *
        clear ht hst hf1 hf2 hbl2
        go_wp2_with fail
        refine (HF.out _ HSC.out.below).mono ?_
        rintro e w2 ⟨rfl, b2⟩
        have B2 := Lib.hid (HSC.out.below.trans (b2.mono HSC.out.below.size))
        have T2 := Lib.hid (HSC.out.toks.kept b2)
        clear b2
        unfold ansV tokC
        obtain ⟨v', w4, hrun, htk, hbw, hlt4⟩ := HAP.out vo ts (w2.alloc (.cells #[.int .i64 kd, .string (S tx), .int .i64 nm, .int .i64 (m : Int)] 32)) (World.ownsRow.alloc T2.out _) (by have := B2.out.size; simp; omega) htl kd tx nm m (w2.heap.size + 1) (by simp)
        have HRUN := Lib.hid hrun
        have HTK := Lib.hid htk
        have B4 := Lib.hid ((B2.out.alloc (by have := B2.out.size; omega) (.cells #[.int .i64 kd, .string (S tx), .int .i64 nm, .int .i64 (m : Int)] 32)).trans hbw)
        clear hrun htk hbw hlt4
        go_wp2_with (at_builtin; refine wpList_app rfl _ _ _ _ rfl rfl rfl _ _ HRUN.out ?_)
        refine (HB2.out _ B4.out).mono ?_
        rintro e w5 ⟨rfl, b5⟩
        have T5 := Lib.hid (HTK.out.kept b5)
        have B5 := Lib.hid (B4.out.trans (b5.mono B4.out.size))
        clear b5
        go_wp2_with fail
        go_roundw
        case rel => exact ⟨_, m + z + bz, _, rfl, by go_num, hf4, HST.out, by have := HSC.out.len; simp; omega, T5.out, B5.out⟩
        case measure => simp [intOf]; omega
    · obtain rfl : m = s.size := by omega
      have HR := Lib.hid (scan_end l ts s.size HSC.out.st (by have := HLS.out; omega))
      have htl : ts.length ≤ 100000 := by have := HSC.out.len; omega
      obtain ⟨v', w4, hrun, htk, hbw, _⟩ := HAP.out vo ts wr HSC.out.toks HSC.out.below.size htl 0 [] 0 s.size wr.heap.size rfl
      have HRUN := Lib.hid hrun
      have HTK := Lib.hid htk
      have B4 := Lib.hid (HSC.out.below.trans hbw)
      clear hrun htk hbw
      go_wp2_with (at_builtin; refine wpList_app rfl _ _ _ _ rfl rfl rfl _ _ HRUN.out ?_)
      go_ret3
      rw [HR.out]
      exact ⟨⟨_, rfl, HTK.out⟩, B4.out⟩

end Go.Proofs.YtjndgfppjdobiaaGreatDoor.Lx
