/-
  LxRScanW, ExRTok, ExRead, EvAwake.
-/
import Derived.Test.YtlmmfhbdebfgkaaGreatDoorVLxRefQ
import Derived.Test.YtlmmfhbdebfgkaaGreatDoorVLxRTokNQ
import Derived.Test.YtlmmfhbdebfgkaaGreatDoorVLxTokQ
import Derived.Test.YtlmmfhbdebfgkaaGreatDoorVLxRTokPQ
import Derived.Test.YtlmmfhbdebfgkaaGreatDoorVExMemQ
import Derived.Test.YtlmmfhbdebfgkaaGreatDoorVExRefYQ
import Derived.Test.YtlmmfhbdebfgkaaGreatDoorVEvOfPQ
import Derived.Laws.AppendOwn
import Derived.KernelRfl
set_option linter.unusedVariables false
set_option linter.unusedSimpArgs false
set_option maxRecDepth 100000
set_option maxHeartbeats 16000000
namespace Go.Proofs.YtlmmfhbdebfgkaaGreatDoor.Lx
open Go.RowKit
open Va
theorem refToken_any (s : ByteArray) (a : Nat) (ha : a < s.size) (hs : s.size ≤ 100000) (w : World) :
    Calls Tryz.prog 82 #[.string s, .int .i64 (a : Int)] w fun e w' => e = .returned (refAns (tokM (s.data.toList.drop a)) a) ∧ Below w.heap.size w w' := by
  by_cases h39 : s[a] = 39
  · exact refToken_tick s a ha hs h39 w
  · cases hl : letB s[a] with
    | true => exact refToken_let s a ha hs hl w
    | false =>
      cases hd : digB s[a] with
      | true => exact refToken_dig s a ha hs hd w
      | false =>
        by_cases h34 : s[a] = 34
        · exact refToken_quo s a ha hs h34 w
        · exact refToken_sign s a ha hs h39 hl hd h34 w
def rtoksC (ts : List TA) : List Value := ts.flatMap fun t => [.int .i64 t.kind, .string (S t.text), .int .i64 t.num, .int .i64 (t.at_ : Int)]
theorem rtoksC_append (a b : List TA) : rtoksC (a ++ b) = rtoksC a ++ rtoksC b := by simp [rtoksC]
theorem rinfoTok : (Tryz.prog.info? 79).map (fun i => (i.zero, i.size, i.bytes)) = some (some (.agg #[.int .i64 0, .string ⟨#[]⟩, .int .i64 0, .int .i64 0]), 4, 40) := by kernel_rfl
def RToks (w : World) (B : Nat) (v : Value) (ts : List TA) : Prop := w.ownsRow B 79 4 v ts.length (rtoksC ts)
theorem RToks.kept {w w' : World} {B : Nat} {v : Value} {ts : List TA} (h : RToks w B v ts) (hb : Below w.heap.size w w') : RToks w' B v ts :=
  World.ownsRow.kept (row := none) h ⟨hb.os, hb.tape, hb.output, hb.size, fun k hk _ => hb.block k hk⟩ (Classical.em _)
theorem rapp_tok (B : Nat) (v : Value) (ts : List TA) (w : World) (h : RToks w B v ts) (hB : B ≤ w.heap.size) (hn : ts.length ≤ 100000) (k : Int) (t : List UInt8) (n : Int) (m : Nat) (H : Nat) (hH : w.heap.size = H) :
    ∃ v' w', (Builtin.append_ #[74, 74] 74 #[v, .slice (some ⟨H, 0, none⟩) 1 1]).run Tryz.prog (w.alloc (.cells #[.int .i64 k, .string (S t), .int .i64 n, .int .i64 (m : Int)] 79)) = .ok v' w' ∧
      RToks w' B v' (ts ++ [⟨k, t, n, m⟩]) ∧ Below B w w' ∧ w.heap.size < w'.heap.size := by
  subst hH
  obtain ⟨i0, hi, hz0, hz1, hz2⟩ := info_parts rinfoTok
  have hown := World.ownsRow.alloc h (.cells #[.int .i64 k, .string (S t), .int .i64 n, .int .i64 (m : Int)] 79)
  have hnews : ∀ j u, [Value.int .i64 k, .string (S t), .int .i64 n, .int .i64 (m : Int)][j]? = some u → (w.alloc (.cells #[.int .i64 k, .string (S t), .int .i64 n, .int .i64 (m : Int)] 79)).cell? ((⟨w.heap.size, 0, none⟩ : Addr).add j) = some u := by
    intro j u hj
    have hadd : (⟨w.heap.size, 0, none⟩ : Addr).add j = ⟨w.heap.size, j, none⟩ := by unfold Addr.add; split <;> simp_all
    rw [hadd, cell_of_row _ w.heap.size j _ _ (0, 0) (heap_alloc_new w _)]
    simpa using hj
  have h1 : ∀ u ∈ [Value.int .i64 k, .string (S t), .int .i64 n, .int .i64 (m : Int)], u.oneCell' = true := by
    intro u hu
    simp only [List.mem_cons, List.not_mem_nil, or_false] at hu
    rcases hu with rfl | rfl | rfl | rfl <;> rfl
  obtain ⟨v', w', hr, h2, h3, _⟩ := run_append_own (P := Tryz.prog) (w.alloc (.cells #[.int .i64 k, .string (S t), .int .i64 n, .int .i64 (m : Int)] 79)) B 74 74 79 i0 _ 4 40 Tryz.underlying74 hi hz0 hz1 hz2 rfl (by decide) v ts.length (rtoksC ts) hown ⟨w.heap.size, 0, none⟩ 1 1 [.int .i64 k, .string (S t), .int .i64 n, .int .i64 (m : Int)] rfl hnews h1 (by unfold maxLen; omega) (by omega) (by simp; omega)
  refine ⟨v', w', hr, ?_, ((Below.refl _ _).alloc hB _).grown h3 (by simp; omega) (fun k hk => (World.ownsRow.lt h k hk).1), ?_⟩
  · unfold RToks
    rw [rtoksC_append, List.length_append]
    exact h2
  · have := h3.size
    simp at this
    omega
def rscanR (B : Nat) (x : List TA × Option Nat) (e : Ending) (w' : World) : Prop := match x with
  | (ts, none) => ∃ v, e = .returned (.tuple #[v, .int .i64 0, .int .i64 0]) ∧ RToks w' B v ts
  | (_, some p) => e = .returned (.tuple #[.slice none 0 0, .int .i64 (p : Int), .int .i64 24])
structure RScLoop (l : List UInt8) (w : World) (v : Value) (ts : List TA) (m : Nat) (wr : World) : Prop where
  st : ScanSt l ts m
  len : ts.length ≤ m
  toks : RToks wr w.heap.size v ts
  below : Below w.heap.size w wr
theorem refScan_any (s : ByteArray) (hs : s.size ≤ 8000) (w : World) :
    Calls Tryz.prog 49 #[.string s] w fun e w' => rscanR w.heap.size (scanM s.data.toList 0) e w' ∧ Below w.heap.size w w' := by
  have hls := list_size s
  obtain ⟨l, hl⟩ : ∃ l, s.data.toList = l := ⟨_, rfl⟩
  have HBM := Lib.hid (fun (m : Nat) (hm : m ≤ s.size) (wr : World) => refBlanks_any s m hm (by omega) wr)
  have HFI := Lib.hid (fun (m : Nat) (hm : m < s.size) (wr : World) => refToken_any s m hm (by omega) wr)
  rw [hl] at hls HBM HFI ⊢
  have hB0 := HBM.out 0 (by omega)
  rw [List.drop_zero] at hB0
  have HBL := Lib.hid (fun (wr : World) => show Calls Tryz.prog 81 #[.string s, .int .i64 0] wr fun e w' => e = .returned (.int .i64 (blk false l : Int)) ∧ wr = w' from hB0 wr)
  have HAP := Lib.hid (fun v ts wr (h : RToks wr w.heap.size v ts) (hB : w.heap.size ≤ wr.heap.size) (hn : ts.length ≤ 100000) k t n m H hH => rapp_tok w.heap.size v ts wr h hB hn k t n m H hH)
  have hbl := blk_le false l
  have HS0 := Lib.hid (scan_start l)
  have HLS := Lib.hid hls
  have hbi : ((blk false l : Nat) : Int) ≤ (s.size : Int) := by omega
  have hsi : (s.size : Int) ≤ 8000 := by omega
  generalize hb0 : blk false l = b0 at *
  clear hb0 hl hls hB0
  go_enter Tryz.func49, Tryz.ntmps49
  go_wp2_with fail
  refine (HBL.out _).mono ?_
  rintro e w1 ⟨rfl, rfl⟩
  go_wp2_with fail
  go_loopw [5, 6] (fun xo va wr => ∃ (ts : List TA) (m : Nat) (vo : Value), vo = xo ∧ va = .int .i64 m ∧ m ≤ s.size ∧ RScLoop l w vo ts m wr) (fun _ va _ => s.size - (intOf va).toNat)
  case atStart => exact ⟨[], b0, _, rfl, rfl, by omega, HS0.out, by simp, World.ownsRow_nil _ _ _ _, Below.refl _ _⟩
  case round =>
    obtain ⟨ts, m, vo, rfl, rfl, hm, hsc⟩ := hrel
    have HSC := Lib.hid hsc
    clear hsc
    by_cases hlt : m < s.size
    · have hmi : (m : Int) < (s.size : Int) := by omega
      have HF := Lib.hid (HFI.out m hlt)
      cases ht : tokM (l.drop m) with
      | none =>
        rw [ht] at HF
        have HR := Lib.hid (scan_bad l ts m HSC.out.st (by have := HLS.out; omega) ht)
        clear ht
        go_wp2_with fail
        refine (HF.out _).mono ?_
        rintro e w2 ⟨rfl, b2⟩
        have B2 := Lib.hid (HSC.out.below.trans (b2.mono HSC.out.below.size))
        clear b2
        unfold refAns
        go_wp2_with fail
        go_ret3
        rw [HR.out]
        exact ⟨rfl, B2.out.alloc (by have := B2.out.size; omega) _⟩
      | some t =>
        rw [ht] at HF
        obtain ⟨hf1, hf2⟩ := tok_fits l m t ht (by have := HLS.out; omega)
        have hst := scan_next l ts m HSC.out.st (by have := HLS.out; omega) t ht
        have hbl2 := blk_le false (l.drop (m + t.len))
        rw [List.length_drop] at hbl2
        have hf3 : m + t.len ≤ s.size := by have := HLS.out; omega
        have hf4 : m + t.len + blk false (l.drop (m + t.len)) ≤ s.size := by have := HLS.out; omega
        have HB2 := Lib.hid (HBM.out (m + t.len) hf3)
        have HST := Lib.hid hst
        obtain ⟨kd, tx, nm, z⟩ := t
        simp only at hf1 hf2 hf3 hf4 HST HB2 hbl2
        have hzi : (1 : Int) ≤ (z : Int) := by omega
        have hz0 : ((z : Int) == 0) = false := by rw [beq_eq_false_iff_ne]; omega
        have hz3 : (m : Int) + (z : Int) ≤ (s.size : Int) := by omega
        have hz4 : (m : Int) + (z : Int) + ((blk false (l.drop (m + z)) : Nat) : Int) ≤ (s.size : Int) := by omega
        have htl : ts.length ≤ 100000 := by have := HSC.out.len; omega
        have HB3 := Lib.hid (fun (wr : World) => show Calls Tryz.prog 81 #[.string s, .int .i64 ((m : Int) + (z : Int))] wr fun e w' => e = .returned (.int .i64 (blk false (l.drop (m + z)) : Int)) ∧ wr = w' from by
          have := HB2.out wr
          rw [show (((m + z : Nat)) : Int) = (m : Int) + (z : Int) by omega] at this
          exact this)
        generalize blk false (l.drop (m + z)) = bz at *
        clear ht hst hf1 hf2 hbl2 HB2
        go_wp2_with fail
        refine (HF.out _).mono ?_
        rintro e w2 ⟨rfl, b2⟩
        have B2 := Lib.hid (HSC.out.below.trans (b2.mono HSC.out.below.size))
        have T2 := Lib.hid (HSC.out.toks.kept b2)
        clear b2
        unfold refAns
        obtain ⟨v', w4, hrun, htk, hbw, hlt4⟩ := HAP.out vo ts (w2.alloc (.cells #[.int .i64 kd, .string (S tx), .int .i64 nm, .int .i64 (m : Int)] 79)) (World.ownsRow.alloc T2.out _) (by have := B2.out.size; simp; omega) htl kd tx nm m (w2.heap.size + 1) (by simp)
        have HRUN := Lib.hid hrun
        have HTK := Lib.hid htk
        have B4 := Lib.hid ((B2.out.alloc (by have := B2.out.size; omega) (.cells #[.int .i64 kd, .string (S tx), .int .i64 nm, .int .i64 (m : Int)] 79)).trans hbw)
        clear hrun htk hbw hlt4
        go_wp2_with (at_builtin; refine wpList_appR rfl _ _ _ _ rfl rfl rfl _ _ HRUN.out ?_)
        refine (HB3.out _).mono ?_
        rintro e w5 ⟨rfl, rfl⟩
        go_wp2_with fail
        go_roundw
        case rel => exact ⟨_, m + z + bz, _, rfl, by go_num, hf4, HST.out, by have := HSC.out.len; simp; omega, HTK.out, B4.out⟩
        case measure => simp [intOf]; omega
    · obtain rfl : m = s.size := by omega
      have HR := Lib.hid (scan_end l ts s.size HSC.out.st (by have := HLS.out; omega))
      have htl : ts.length ≤ 100000 := by have := HSC.out.len; omega
      obtain ⟨v', w4, hrun, htk, hbw, _⟩ := HAP.out vo ts wr HSC.out.toks HSC.out.below.size htl 0 [] 0 s.size wr.heap.size rfl
      have HRUN := Lib.hid hrun
      have HTK := Lib.hid htk
      have B4 := Lib.hid (HSC.out.below.trans hbw)
      clear hrun htk hbw
      go_wp2_with (at_builtin; refine wpList_appR rfl _ _ _ _ rfl rfl rfl _ _ HRUN.out ?_)
      go_ret3
      rw [HR.out]
      exact ⟨⟨_, rfl, HTK.out⟩, B4.out⟩
end Go.Proofs.YtlmmfhbdebfgkaaGreatDoor.Lx
namespace Go.Proofs.YtlmmfhbdebfgkaaGreatDoor.Ex
open Go.RowKit
open Lx
theorem rtoksC_get : ∀ (ts : List TA) (i : Nat) (t : TA), ts[i]? = some t →
    (rtoksC ts)[i * 4]? = some (.int .i64 t.kind) ∧ (rtoksC ts)[i * 4 + 1]? = some (.string (S t.text)) ∧ (rtoksC ts)[i * 4 + 2]? = some (.int .i64 t.num) ∧ (rtoksC ts)[i * 4 + 3]? = some (.int .i64 (t.at_ : Int))
  | [], i, t, h => by simp at h
  | a :: ts, 0, t, h => by
    obtain rfl : a = t := by simpa using h
    exact ⟨rfl, rfl, rfl, rfl⟩
  | a :: ts, i + 1, t, h => by
    have ih := rtoksC_get ts i t (by simpa using h)
    have e : ∀ k, (rtoksC (a :: ts))[(i + 1) * 4 + k]? = (rtoksC ts)[i * 4 + k]? := fun k => by
      show ([Value.int .i64 a.kind, .string (S a.text), .int .i64 a.num, .int .i64 (a.at_ : Int)] ++ rtoksC ts)[(i + 1) * 4 + k]? = _
      rw [List.getElem?_append_right (by simp; omega)]
      congr 1
      simp; omega
    exact ⟨by rw [show (i + 1) * 4 = (i + 1) * 4 + 0 from rfl, e 0]; exact ih.1, by rw [e 1]; exact ih.2.1, by rw [e 2]; exact ih.2.2.1, by rw [e 3]; exact ih.2.2.2⟩
theorem RToks.ts {w : World} {B : Nat} {v : Value} {ts : List TA} (h : RToks w B v ts) (hne : ts ≠ []) : ∃ g cap, v = .slice (some ⟨g, 0, none⟩) ts.length cap ∧ B ≤ g ∧ TsAt w g ts := by
  have hpos := List.length_pos_iff.2 hne
  rcases h.2 with ⟨_, h0⟩ | ⟨g, cap, cur, rfl, hB, hg, _⟩
  · omega
  · refine ⟨g, cap, rfl, hB, (Array.getElem?_eq_some_iff.1 hg).1, fun i t hi => ?_⟩
    obtain ⟨h0, h1, h2, h3⟩ := rtoksC_get ts i t hi
    have c : ∀ k u, (rtoksC ts)[i * 4 + k]? = some u → w.cell? ⟨g, i * 4 + k, none⟩ = some u := fun k u hu => by
      have := World.ownsRow.cells h (g := g) rfl (i * 4 + k) u hu
      have hadd : (⟨g, 0, none⟩ : Addr).add (i * 4 + k) = ⟨g, i * 4 + k, none⟩ := by unfold Addr.add; split <;> simp_all
      rw [hadd] at this
      exact this
    exact ⟨c 0 _ h0, c 1 _ h1, c 2 _ h2, c 3 _ h3⟩
theorem tokM_ne {l : List UInt8} {t : Tok} (h : tokM l = some t) : t.kind ≠ 0 := by
  unfold tokM at h
  split at h
  · cases h
  · simp only at h
    repeat' split at h
    all_goals first
      | (obtain rfl := Option.some.inj h; simp)
      | cases h
theorem scanF_ends : ∀ (f : Nat) (l : List UInt8) (a : Nat) (ts : List TA), scanF f l a = (ts, none) → ∃ m e, ts = m ++ [e] ∧ e.kind = 0 ∧ ∀ t ∈ m, t.kind ≠ 0
  | 0, l, a, ts, h => by
    unfold scanF at h
    cases h
  | f + 1, l, a, ts, h => by
    unfold scanF at h
    simp only at h
    split at h
    · cases h
      exact ⟨[], _, rfl, rfl, by simp⟩
    · rename_i c r hm
      split at h
      · cases h
      · rename_i t ht
        obtain ⟨us, o, hu⟩ : ∃ us o, scanF f ((c :: r).drop t.len) (a + blk false l + t.len) = (us, o) := ⟨_, _, rfl⟩
        rw [hu] at h
        simp only [Prod.mk.injEq] at h
        obtain ⟨rfl, rfl⟩ := h
        obtain ⟨m, e, rfl, he, hk⟩ := scanF_ends f _ _ us hu
        exact ⟨_ :: m, e, rfl, he, fun x hx => by
          rcases List.mem_cons.1 hx with rfl | hx
          · exact tokM_ne ht
          · exact hk x hx⟩
theorem ends_of {m : List TA} {e : TA} (he : e.kind = 0) (hk : ∀ t ∈ m, t.kind ≠ 0) : Ends (m ++ [e]) := by
  refine ⟨by simp, fun i hi => ?_, ?_⟩
  · have h1 : i < m.length := by simp at hi; omega
    have e1 : tk (m ++ [e]) i = m[i] := by
      simp [tk, List.getD_eq_getElem?_getD, List.getElem?_append_left h1, h1]
    rw [e1]
    exact hk _ (List.getElem_mem _)
  · have e1 : tk (m ++ [e]) ((m ++ [e]).length - 1) = e := by simp [tk, List.getD_eq_getElem?_getD]
    rw [e1]; exact he
theorem scan_ends {l : List UInt8} {ts : List TA} (h : scanM l 0 = (ts, none)) : Ends ts := by
  obtain ⟨m, e, rfl, he, hk⟩ := scanF_ends _ l 0 ts (show scanF (l.length + 1) l 0 = (ts, none) from h)
  exact ends_of he hk
end Go.Proofs.YtlmmfhbdebfgkaaGreatDoor.Ex
namespace Go.Proofs.YtlmmfhbdebfgkaaGreatDoor.Ex
open Go.RowKit
open Lx
theorem refRead_ok (s : ByteArray) (hs : s.size ≤ 8000) (ts : List TA) (hsc : scanM s.data.toList 0 = (ts, none)) (x : T) (s2 : St) (hp : parseM ts 0 = .ok x s2) (hend : s2.at_ + 1 = ts.length) (w : World) :
    Calls Tryz.prog 26 #[.string s] w fun e w' => (∃ p c, e = .returned (.tuple #[exprC x p c, .int .i64 0, .int .i64 0]) ∧ FAt w' (w.heap.size ≤ ·) x.args p) ∧ Below w.heap.size w w' := by
  have hls := list_size s
  have hlen := (scan_at _ s.data.toList 0 (Nat.le_refl _)).2
  rw [hsc] at hlen
  simp only at hlen
  have hn : ts.length ≤ 8001 := by omega
  have hE := scan_ends hsc
  have hne : ts ≠ [] := by intro e; have := hE.pos; rw [e] at this; simp at this
  have HSC := Lib.hid (fun (w1 : World) => refScan_any s hs w1)
  rw [hsc] at HSC
  have HPA := Lib.hid (fun g cap w1 (k : TsAt w1 g ts) => refParse_any g cap ts hE hn w1 k)
  rw [hp] at HPA
  have hni : (ts.length : Int) ≤ 8001 := by omega
  have hnx : ((s2.at_ : Int) == (ts.length : Int) - 1) = true := by rw [beq_iff_eq]; omega
  have hnx2 : ((s2.at_ : Int) != (ts.length : Int) - 1) = false := by simp only [bne_eq_false_iff_eq]; omega
  have hpi : (1 : Int) ≤ (ts.length : Int) := by have := hE.pos; omega
  have HNE := Lib.hid hne
  have HB0 := Lib.hid ((Below.refl w.heap.size w).alloc (Nat.le_refl _) (.cells #[.int .i64 0, .int .i64 0, .string ⟨#[]⟩, .slice none 0 0] 24))
  have HX0 := Lib.hid (Bx.new w (.int .i64 0) (.int .i64 0) (.string ⟨#[]⟩) (.slice none 0 0))
  clear hls hlen hsc hE hne hp hend
  go_enter Tryz.func26, Tryz.ntmps26
  go_wp2_with fail
  refine (HSC.out _).mono ?_
  rintro e w1 ⟨hr, b1⟩
  obtain ⟨v, rfl, htk⟩ := hr
  obtain ⟨g, cap, rfl, _, hts⟩ := RToks.ts (B := _) (v := v) htk HNE.out
  have HTS := Lib.hid hts
  have HB1 := Lib.hid (HB0.out.trans (b1.mono (by simp)))
  have HX1 := Lib.hid (HX0.out.keep (Kept.of_below (ok := fun _ => True) b1) trivial)
  clear hts b1 htk
  go_wp2_with fail
  refine (HPA.out g cap _ HTS.out).mono ?_
  rintro e w5 ⟨hr, b5⟩
  obtain ⟨q, c, rfl, hfa⟩ := hr
  unfold exprC
  have hh := HX1.out.keep (Kept.of_below (ok := fun _ => True) b5) trivial
  have HZ1 := Lib.hid HX1.out.lt
  have f5 := hh.fz
  have p0 := hh.c0
  have p1 := hh.c1
  have p2 := hh.c2
  have p3 := hh.c3
  have hh5 := hh.lt
  have zh : ∀ o j, (w5.alloc o).cell? ⟨w.heap.size, j, none⟩ = w5.cell? ⟨w.heap.size, j, none⟩ := fun o j => Kept.cell (Kept.alloc (ok := fun _ => True) w5 o) trivial hh5
  have zf : ∀ o j, (w5.alloc o).frozen? ⟨w.heap.size, j, none⟩ = false := fun o j => (hh.keep (Kept.alloc (ok := fun _ => True) w5 o) trivial).fz j
  have HXF := Lib.hid (Bx.keep (ok := fun _ => True) (hh.put (.int .i64 x.op) (.int .i64 x.num) (.string (S x.text)) (.slice q x.args.len c)) (Kept.alloc _ (.cells #[.int .i64 x.op, .int .i64 x.num, .string (S x.text), .slice q x.args.len c] 24)) trivial)
  have hB5 := HB1.out.trans (b5.mono HB1.out.size)
  have HBF := Lib.hid ((Below.put hB5 w.heap.size (Nat.le_refl _) (.int .i64 x.op) (.int .i64 x.num) (.string (S x.text)) (.slice q x.args.len c)).alloc (by rw [put4_size]; omega) (.cells #[.int .i64 x.op, .int .i64 x.num, .string (S x.text), .slice q x.args.len c] 24))
  have HFF := Lib.hid (FAt.mono (ok' := (w.heap.size ≤ ·)) (fun y _ hg => by have h1 := HZ1.out; have h2 : w1.heap.size ≤ y := hg; show w.heap.size ≤ y; omega) _ _ ((hfa.keep (Kept.put w5 w.heap.size (.int .i64 x.op) (.int .i64 x.num) (.string (S x.text)) (.slice q x.args.len c) (by have := HZ1.out; omega))).keep (Kept.alloc _ (.cells #[.int .i64 x.op, .int .i64 x.num, .string (S x.text), .slice q x.args.len c] 24))))
  clear hh hfa b5 hB5
  go_wp2_with fail
  refine bodyPost_ret (res_expr3 rfl _ _ w.heap.size _ _ _ _ (.int .i64 0) (.int .i64 0) rfl HXF.out rfl rfl) rfl ?_
  exact ⟨⟨q, c, rfl, HFF.out⟩, HBF.out⟩
end Go.Proofs.YtlmmfhbdebfgkaaGreatDoor.Ex
namespace Go.Proofs.YtlmmfhbdebfgkaaGreatDoor.Ev
open Go.RowKit
open Ex Lx Va Ty
def en0 : En := ⟨[], [], [], []⟩
def rw0 : Rows := ⟨none, none, none, none, 0, 0, 0, 0⟩
theorem en0_fit : EnFit en0 := ⟨by decide, by decide, by decide, by decide, (fun x hx => by cases hx), (fun x hx => by cases hx)⟩
theorem en0_at (w : World) : EnAt w none none none none en0 := ⟨fun i hi => absurd hi (Nat.not_lt_zero _), fun i hi => absurd hi (Nat.not_lt_zero _), fun i hi => absurd hi (Nat.not_lt_zero _), fun i hi => absurd hi (Nat.not_lt_zero _)⟩
def RdP (w : World) (x : T) (e : Ending) (w' : World) : Prop := (∃ p c, e = .returned (.tuple #[.agg #[.int .i64 x.op, .int .i64 x.num, .string (S x.text), .slice p x.args.len c], .int .i64 0, .int .i64 0]) ∧ FAt w' (fun _ => True) x.args p) ∧ Below w.heap.size w w'
theorem read_ex (s : ByteArray) (hs : s.size ≤ 8000) (ts : List TA) (h1 : scanM s.data.toList 0 = (ts, none)) (x : T) (s2 : St) (h2 : parseM ts 0 = .ok x s2) (h3 : s2.at_ + 1 = ts.length) (w : World) :
    Calls Tryz.prog 26 #[.string s] w (RdP w x) :=
  (refRead_ok s hs ts h1 x s2 h2 h3 w).mono fun e w' ⟨⟨p, c, h, f⟩, b⟩ => ⟨⟨p, c, h, FAt.mono (fun _ _ _ => trivial) _ _ f⟩, b⟩
def avX1 : T := ⟨21, 0, [], .cons 1 1 [] .nil (.cons 1 0 [] .nil .nil)⟩
def avX2 : T := ⟨40, 0, [], .cons 3 0 [] .nil (.cons 30 0 [] (.cons 21 0 [] (.cons 1 1 [] .nil (.cons 1 0 [] .nil .nil)) (.cons 1 1 [] .nil .nil)) .nil)⟩
def avX3 : T := ⟨24, 0, [], .cons 11 0 [] (.cons 1 9223372036854775807 [] .nil .nil) (.cons 1 2 [] .nil .nil)⟩
def avX4 : T := ⟨22, 0, [], .cons 11 0 [] (.cons 1 7 [] .nil .nil) (.cons 1 2 [] .nil .nil)⟩
theorem av_v1 : evM en0 avX1 = (zeroV, 31) := by kernel_rfl
theorem av_v2 : evM en0 avX2 = (boolV false, 0) := by kernel_rfl
theorem av_v3 : evM en0 avX3 = (zeroV, 30) := by kernel_rfl
theorem av_v4 : evM en0 avX4 = (intV (-1), 0) := by kernel_rfl
def avT1 : List TA := (scanM [49, 32, 47, 32, 48] 0).1
def avT2 : List TA := (scanM [102, 97, 108, 115, 101, 32, 38, 38, 32, 49, 32, 47, 32, 48, 32, 61, 61, 32, 49] 0).1
def avT3 : List TA := (scanM [45, 57, 50, 50, 51, 51, 55, 50, 48, 51, 54, 56, 53, 52, 55, 55, 53, 56, 48, 55, 32, 45, 32, 50] 0).1
def avT4 : List TA := (scanM [45, 55, 32, 37, 32, 50] 0).1
theorem av_s1 : scanM (⟨#[49, 32, 47, 32, 48]⟩ : ByteArray).data.toList 0 = (avT1, none) := by kernel_rfl
theorem av_s2 : scanM (⟨#[102, 97, 108, 115, 101, 32, 38, 38, 32, 49, 32, 47, 32, 48, 32, 61, 61, 32, 49]⟩ : ByteArray).data.toList 0 = (avT2, none) := by kernel_rfl
theorem av_s3 : scanM (⟨#[45, 57, 50, 50, 51, 51, 55, 50, 48, 51, 54, 56, 53, 52, 55, 55, 53, 56, 48, 55, 32, 45, 32, 50]⟩ : ByteArray).data.toList 0 = (avT3, none) := by kernel_rfl
theorem av_s4 : scanM (⟨#[45, 55, 32, 37, 32, 50]⟩ : ByteArray).data.toList 0 = (avT4, none) := by kernel_rfl
theorem av_p1 : parseM avT1 0 = .ok avX1 ⟨3, 3, 0⟩ := by kernel_rfl
theorem av_p2 : parseM avT2 0 = .ok avX2 ⟨7, 7, 0⟩ := by kernel_rfl
theorem av_p3 : parseM avT3 0 = .ok avX3 ⟨4, 4, 0⟩ := by kernel_rfl
theorem av_p4 : parseM avT4 0 = .ok avX4 ⟨4, 4, 0⟩ := by kernel_rfl
theorem av_e1 : 3 + 1 = avT1.length := by kernel_rfl
theorem av_e2 : 7 + 1 = avT2.length := by kernel_rfl
theorem av_e3 : 4 + 1 = avT3.length := by kernel_rfl
theorem av_e4 : 4 + 1 = avT4.length := by kernel_rfl
theorem ofText (s : ByteArray) (hs : s.size ≤ 8000) (ts : List TA) (h1 : scanM s.data.toList 0 = (ts, none)) (x : T) (s2 : St) (h2 : parseM ts 0 = .ok x s2) (h3 : s2.at_ + 1 = ts.length) (hfit : x.row.fits) (hnums : x.row.nums) (X : V × Nat) (hX : evM en0 x = X) (w : World) (htab : Va.Tab w) (hC : ConsAt w) :
    Calls Tryz.prog 28 #[.string s] w fun e w' => OfR w.heap.size X e w' ∧ Below w.heap.size w w' := by
  have HR := Lib.hid (fun W => read_ex s hs ts h1 x s2 h2 h3 W)
  have HO := Lib.hid (fun (p : Option Addr) (c : Nat) (W : World) (k : Below w.heap.size w W) (hfa : FAt W (fun _ => True) x.args p) => evOf_any en0 rw0 en0_fit x hfit hnums p c W (en0_at W) hfa (htab.below k) (hC.keep (Kept.of_below (ok := fun _ => True) k) trivial))
  clear htab hC hfit hnums h1 h2 h3
  go_enter Tryz.func28, Tryz.ntmps28
  go_wp2_with fail
  have hb0 := (Below.refl w.heap.size w).alloc (Nat.le_refl _) (.cells #[.int .i64 0, .int .i64 0, .string ⟨#[]⟩, .slice none 0 0] 52)
  have hv0 := VB.new w (.int .i64 0) (.int .i64 0) (.string ⟨#[]⟩) (.slice none 0 0) _ rfl
  refine (HR.out _).mono ?_
  rintro e w1 ⟨⟨p1, c1, rfl, fa1⟩, b1⟩
  have hb1 := hb0.trans (b1.mono hb0.size)
  have hv1 := hv0.later b1
  have ba := (Below.refl w1.heap.size w1).alloc (Nat.le_refl _) (.cells #[.int .i64 x.op, .int .i64 x.num, .string (S x.text), .slice p1 x.args.len c1] 24)
  have HV := Lib.hid (hv1.later ba)
  have HBA := Lib.hid (hb1.trans (ba.mono hb1.size))
  have HFA := Lib.hid (fa1.keep (Kept.of_below ba))
  have HO2 := Lib.hid (HO.out p1 c1 _ HBA.out HFA.out)
  clear hb0 hv0 b1 hb1 hv1 ba fa1 HR HO
  rw [hX] at HO2
  clear hX
  unfold envC en0 rw0 at HO2
  simp only [List.length_nil] at HO2
  obtain ⟨⟨xk, xn, xt, xl⟩, er⟩ := X
  go_wp2_with fail
  refine HO2.out.mono ?_
  rintro e w2 ⟨⟨a2, c2, rfl, hn2⟩, b2⟩
  have hnb := HV.out.later b2
  have fz := hnb.fz
  have k0 := hnb.c0
  have k1 := hnb.c1
  have k2 := hnb.c2
  have k3 := hnb.c3
  simp only at hn2
  have HP := Lib.hid (hnb.put (.int .i64 xk) (.int .i64 xn) (.string (S xt)) (.slice a2 xl.length c2))
  have HBE := Lib.hid (below_put (HBA.out.trans (b2.mono HBA.out.size)) w.heap.size (Nat.le_refl _) (.int .i64 xk) (.int .i64 xn) (.string (S xt)) (.slice a2 xl.length c2))
  have HN := Lib.hid ((hn2.keep (Kept.put w2 w.heap.size (.int .i64 xk) (.int .i64 xn) (.string (S xt)) (.slice a2 xl.length c2) (by have := HBA.out.size; have := HV.out.lt; show ¬ _ ≤ w.heap.size; omega))).mono HBA.out.size)
  clear b2 hnb hn2
  unfold valC
  go_wp2_with fail
  have d0 := HP.out.c0
  have d1 := HP.out.c1
  have d2 := HP.out.c2
  have d3 := HP.out.c3
  unfold put4 at d0 d1 d2 d3
  exact bodyPost_ret (v := .tuple #[.agg #[.int .i64 xk, .int .i64 xn, .string (S xt), .slice a2 xl.length c2], .int .i64 er]) (by simp [results, d0, d1, d2, d3, Tryz.results28, go_sem]) rfl ⟨⟨a2, c2, rfl, HN.out⟩, HBE.out⟩
def exR (k n er : Int) (e : Ending) : Prop := ∃ a c, e = .returned (.tuple #[.agg #[.int .i64 k, .int .i64 n, .string ⟨#[]⟩, .slice a 0 c], .int .i64 er])
theorem exR_of {x : V × Nat} {k n : Int} {er : Nat} (h : x = (⟨k, n, [], []⟩, er)) {e : Ending} {w : World} {B : Nat} (hx : OfR B x e w) : exR k n er e := by
  subst h
  obtain ⟨a, c, he, _⟩ := hx
  exact ⟨a, c, he⟩
theorem awake_any (w : World) (htab : Va.Tab w) (hC : ConsAt w) : Calls Tryz.prog 16 #[] w fun e w' => e = .returned (.bool true) ∧ Below w.heap.size w w' := by
  have A1 := Lib.hid (fun W (k : Below w.heap.size w W) => (ofText ⟨#[49, 32, 47, 32, 48]⟩ (by decide) avT1 av_s1 avX1 _ av_p1 av_e1 (by simp [avX1, T.row, F.fits, F.len]) (by simp [avX1, T.row, F.nums]) _ av_v1 W (htab.below k) (hC.keep (Kept.of_below (ok := fun _ => True) k) trivial)).mono (R' := fun e w' => exR 0 0 31 e ∧ Below W.heap.size W w') (fun e w' h => ⟨exR_of (er := 31) rfl h.1, h.2⟩))
  have A2 := Lib.hid (fun W (k : Below w.heap.size w W) => (ofText ⟨#[102, 97, 108, 115, 101, 32, 38, 38, 32, 49, 32, 47, 32, 48, 32, 61, 61, 32, 49]⟩ (by decide) avT2 av_s2 avX2 _ av_p2 av_e2 (by simp [avX2, T.row, F.fits, F.len]) (by simp [avX2, T.row, F.nums]) _ av_v2 W (htab.below k) (hC.keep (Kept.of_below (ok := fun _ => True) k) trivial)).mono (R' := fun e w' => exR 2 0 0 e ∧ Below W.heap.size W w') (fun e w' h => ⟨exR_of (er := 0) rfl h.1, h.2⟩))
  have A3 := Lib.hid (fun W (k : Below w.heap.size w W) => (ofText ⟨#[45, 57, 50, 50, 51, 51, 55, 50, 48, 51, 54, 56, 53, 52, 55, 55, 53, 56, 48, 55, 32, 45, 32, 50]⟩ (by decide) avT3 av_s3 avX3 _ av_p3 av_e3 (by simp [avX3, T.row, F.fits, F.len]) (by simp [avX3, T.row, F.nums]) _ av_v3 W (htab.below k) (hC.keep (Kept.of_below (ok := fun _ => True) k) trivial)).mono (R' := fun e w' => exR 0 0 30 e ∧ Below W.heap.size W w') (fun e w' h => ⟨exR_of (er := 30) rfl h.1, h.2⟩))
  have A4 := Lib.hid (fun W (k : Below w.heap.size w W) => (ofText ⟨#[45, 55, 32, 37, 32, 50]⟩ (by decide) avT4 av_s4 avX4 _ av_p4 av_e4 (by simp [avX4, T.row, F.fits, F.len]) (by simp [avX4, T.row, F.nums]) _ av_v4 W (htab.below k) (hC.keep (Kept.of_below (ok := fun _ => True) k) trivial)).mono (R' := fun e w' => exR 1 (-1) 0 e ∧ Below W.heap.size W w') (fun e w' h => ⟨exR_of (er := 0) rfl h.1, h.2⟩))
  have HR := Lib.hid (Below.refl w.heap.size w)
  clear htab hC
  go_enter Tryz.func16, Tryz.ntmps16
  go_wp2_with fail
  refine (A1.out _ HR.out).mono ?_
  rintro e w1 ⟨⟨a1, c1, rfl⟩, b1⟩
  have B1 := Lib.hid b1
  clear b1
  go_wp2_with fail
  have B1a := Lib.hid (B1.out.trans (((Below.refl w1.heap.size w1).alloc (Nat.le_refl _) (.cells #[.int .i64 0, .int .i64 0, .string ⟨#[]⟩, .slice a1 0 c1] 52)).mono B1.out.size))
  refine (A2.out _ B1a.out).mono ?_
  rintro e w2 ⟨⟨a2, c2, rfl⟩, b2⟩
  have B2 := Lib.hid (B1a.out.trans (b2.mono B1a.out.size))
  clear b2
  go_wp2_with fail
  have B2a := Lib.hid (B2.out.trans (((Below.refl w2.heap.size w2).alloc (Nat.le_refl _) (.cells #[.int .i64 2, .int .i64 0, .string ⟨#[]⟩, .slice a2 0 c2] 52)).mono B2.out.size))
  have V2 := Lib.hid (VB.new w2 (.int .i64 2) (.int .i64 0) (.string ⟨#[]⟩) (.slice a2 0 c2) _ rfl)
  refine (A3.out _ B2a.out).mono ?_
  rintro e w3 ⟨⟨a3, c3, rfl⟩, b3⟩
  have B3 := Lib.hid (B2a.out.trans (b3.mono B2a.out.size))
  have V2a := Lib.hid (V2.out.later b3)
  clear b3
  go_wp2_with fail
  have B3a := Lib.hid (B3.out.trans (((Below.refl w3.heap.size w3).alloc (Nat.le_refl _) (.cells #[.int .i64 0, .int .i64 0, .string ⟨#[]⟩, .slice a3 0 c3] 52)).mono B3.out.size))
  have V2b := Lib.hid (V2a.out.later ((Below.refl w3.heap.size w3).alloc (Nat.le_refl _) (.cells #[.int .i64 0, .int .i64 0, .string ⟨#[]⟩, .slice a3 0 c3] 52)))
  refine (A4.out _ B3a.out).mono ?_
  rintro e w4 ⟨⟨a4, c4, rfl⟩, b4⟩
  have B4 := Lib.hid (B3a.out.trans (b4.mono B3a.out.size))
  have hx := (V2b.out.later b4).later ((Below.refl w4.heap.size w4).alloc (Nat.le_refl _) (.cells #[.int .i64 1, .int .i64 (-1), .string ⟨#[]⟩, .slice a4 0 c4] 52))
  have x0 := hx.c0
  have x1 := hx.c1
  clear hx
  clear b4
  go_wp2_with fail
  have B4a := Lib.hid (B4.out.trans (((Below.refl w4.heap.size w4).alloc (Nat.le_refl _) (.cells #[.int .i64 1, .int .i64 (-1), .string ⟨#[]⟩, .slice a4 0 c4] 52)).mono B4.out.size))
  have V4 := Lib.hid (VB.new w4 (.int .i64 1) (.int .i64 (-1)) (.string ⟨#[]⟩) (.slice a4 0 c4) _ rfl)
  go_ret
  exact ⟨rfl, B4a.out⟩
end Go.Proofs.YtlmmfhbdebfgkaaGreatDoor.Ev
