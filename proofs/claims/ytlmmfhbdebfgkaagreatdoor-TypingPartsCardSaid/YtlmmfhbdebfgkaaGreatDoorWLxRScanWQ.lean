/-
  LxRScanW, ExRTok, ExRead, TyAwake.
-/
import Derived.Test.YtlmmfhbdebfgkaaGreatDoorWLxRTokSQ
import Derived.Test.YtlmmfhbdebfgkaaGreatDoorWLxRDigQ
import Derived.Test.YtlmmfhbdebfgkaaGreatDoorWLxTokQ
import Derived.Test.YtlmmfhbdebfgkaaGreatDoorWLxRTokPQ
import Derived.Test.YtlmmfhbdebfgkaaGreatDoorWExMemQ
import Derived.Test.YtlmmfhbdebfgkaaGreatDoorWExRefYQ
import Derived.Test.YtlmmfhbdebfgkaaGreatDoorWTyTreeQ
import Derived.Laws.AppendOwn
import Derived.KernelRfl
set_option linter.unusedVariables false
set_option linter.unusedSimpArgs false
set_option maxRecDepth 100000
set_option maxHeartbeats 16000000
namespace Go.Proofs.YtlmmfhbdebfgkaaGreatDoor.Lx
open Go.RowKit
open Va
theorem refToken_any (s : ByteArray) (a : Nat) (ha : a < s.size) (hs : s.size ≤ 100000) (w : World) :
    Calls Tryz.prog 82 #[.string s, .int .i64 (a : Int)] w fun e w' => e = .returned (refAns (tokM (s.data.toList.drop a)) a) ∧ Below w.heap.size w w' := by
  by_cases h39 : s[a] = 39
  · exact refToken_tick s a ha hs h39 w
  · cases hl : letB s[a] with
    | true => exact refToken_let s a ha hs hl w
    | false =>
      cases hd : digB s[a] with
      | true => exact refToken_dig s a ha hs hd w
      | false =>
        by_cases h34 : s[a] = 34
        · exact refToken_quo s a ha hs h34 w
        · exact refToken_sign s a ha hs h39 hl hd h34 w
def rtoksC (ts : List TA) : List Value := ts.flatMap fun t => [.int .i64 t.kind, .string (S t.text), .int .i64 t.num, .int .i64 (t.at_ : Int)]
theorem rtoksC_append (a b : List TA) : rtoksC (a ++ b) = rtoksC a ++ rtoksC b := by simp [rtoksC]
theorem rinfoTok : (Tryz.prog.info? 79).map (fun i => (i.zero, i.size, i.bytes)) = some (some (.agg #[.int .i64 0, .string ⟨#[]⟩, .int .i64 0, .int .i64 0]), 4, 40) := by kernel_rfl
def RToks (w : World) (B : Nat) (v : Value) (ts : List TA) : Prop := w.ownsRow B 79 4 v ts.length (rtoksC ts)
theorem RToks.kept {w w' : World} {B : Nat} {v : Value} {ts : List TA} (h : RToks w B v ts) (hb : Below w.heap.size w w') : RToks w' B v ts :=
  World.ownsRow.kept (row := none) h ⟨hb.os, hb.tape, hb.output, hb.size, fun k hk _ => hb.block k hk⟩ (Classical.em _)
theorem rapp_tok (B : Nat) (v : Value) (ts : List TA) (w : World) (h : RToks w B v ts) (hB : B ≤ w.heap.size) (hn : ts.length ≤ 100000) (k : Int) (t : List UInt8) (n : Int) (m : Nat) (H : Nat) (hH : w.heap.size = H) :
    ∃ v' w', (Builtin.append_ #[74, 74] 74 #[v, .slice (some ⟨H, 0, none⟩) 1 1]).run Tryz.prog (w.alloc (.cells #[.int .i64 k, .string (S t), .int .i64 n, .int .i64 (m : Int)] 79)) = .ok v' w' ∧
      RToks w' B v' (ts ++ [⟨k, t, n, m⟩]) ∧ Below B w w' ∧ w.heap.size < w'.heap.size := by
  subst hH
  obtain ⟨i0, hi, hz0, hz1, hz2⟩ := info_parts rinfoTok
  have hown := World.ownsRow.alloc h (.cells #[.int .i64 k, .string (S t), .int .i64 n, .int .i64 (m : Int)] 79)
  have hnews : ∀ j u, [Value.int .i64 k, .string (S t), .int .i64 n, .int .i64 (m : Int)][j]? = some u → (w.alloc (.cells #[.int .i64 k, .string (S t), .int .i64 n, .int .i64 (m : Int)] 79)).cell? ((⟨w.heap.size, 0, none⟩ : Addr).add j) = some u := by
    intro j u hj
    have hadd : (⟨w.heap.size, 0, none⟩ : Addr).add j = ⟨w.heap.size, j, none⟩ := by unfold Addr.add; split <;> simp_all
    rw [hadd, cell_of_row _ w.heap.size j _ _ (0, 0) (heap_alloc_new w _)]
    simpa using hj
  have h1 : ∀ u ∈ [Value.int .i64 k, .string (S t), .int .i64 n, .int .i64 (m : Int)], u.oneCell' = true := by
    intro u hu
    simp only [List.mem_cons, List.not_mem_nil, or_false] at hu
    rcases hu with rfl | rfl | rfl | rfl <;> rfl
  obtain ⟨v', w', hr, h2, h3, _⟩ := run_append_own (P := Tryz.prog) (w.alloc (.cells #[.int .i64 k, .string (S t), .int .i64 n, .int .i64 (m : Int)] 79)) B 74 74 79 i0 _ 4 40 Tryz.underlying74 hi hz0 hz1 hz2 rfl (by decide) v ts.length (rtoksC ts) hown ⟨w.heap.size, 0, none⟩ 1 1 [.int .i64 k, .string (S t), .int .i64 n, .int .i64 (m : Int)] rfl hnews h1 (by unfold maxLen; omega) (by omega) (by simp; omega)
  refine ⟨v', w', hr, ?_, ((Below.refl _ _).alloc hB _).grown h3 (by simp; omega) (fun k hk => (World.ownsRow.lt h k hk).1), ?_⟩
  · unfold RToks
    rw [rtoksC_append, List.length_append]
    exact h2
  · have := h3.size
    simp at this
    omega
def rscanR (B : Nat) (x : List TA × Option Nat) (e : Ending) (w' : World) : Prop := match x with
  | (ts, none) => ∃ v, e = .returned (.tuple #[v, .int .i64 0, .int .i64 0]) ∧ RToks w' B v ts
  | (_, some p) => e = .returned (.tuple #[.slice none 0 0, .int .i64 (p : Int), .int .i64 24])
structure RScLoop (l : List UInt8) (w : World) (v : Value) (ts : List TA) (m : Nat) (wr : World) : Prop where
  st : ScanSt l ts m
  len : ts.length ≤ m
  toks : RToks wr w.heap.size v ts
  below : Below w.heap.size w wr
theorem refScan_any (s : ByteArray) (hs : s.size ≤ 8000) (w : World) :
    Calls Tryz.prog 49 #[.string s] w fun e w' => rscanR w.heap.size (scanM s.data.toList 0) e w' ∧ Below w.heap.size w w' := by
  have hls := list_size s
  obtain ⟨l, hl⟩ : ∃ l, s.data.toList = l := ⟨_, rfl⟩
  have HBM := Lib.hid (fun (m : Nat) (hm : m ≤ s.size) (wr : World) => refBlanks_any s m hm (by omega) wr)
  have HFI := Lib.hid (fun (m : Nat) (hm : m < s.size) (wr : World) => refToken_any s m hm (by omega) wr)
  rw [hl] at hls HBM HFI ⊢
  have hB0 := HBM.out 0 (by omega)
  rw [List.drop_zero] at hB0
  have HBL := Lib.hid (fun (wr : World) => show Calls Tryz.prog 81 #[.string s, .int .i64 0] wr fun e w' => e = .returned (.int .i64 (blk false l : Int)) ∧ wr = w' from hB0 wr)
  have HAP := Lib.hid (fun v ts wr (h : RToks wr w.heap.size v ts) (hB : w.heap.size ≤ wr.heap.size) (hn : ts.length ≤ 100000) k t n m H hH => rapp_tok w.heap.size v ts wr h hB hn k t n m H hH)
  have hbl := blk_le false l
  have HS0 := Lib.hid (scan_start l)
  have HLS := Lib.hid hls
  have hbi : ((blk false l : Nat) : Int) ≤ (s.size : Int) := by omega
  have hsi : (s.size : Int) ≤ 8000 := by omega
  generalize hb0 : blk false l = b0 at *
  clear hb0 hl hls hB0
  go_enter Tryz.func49, Tryz.ntmps49
  go_wp2_with fail
  refine (HBL.out _).mono ?_
  rintro e w1 ⟨rfl, rfl⟩
  go_wp2_with fail
  go_loopw [5, 6] (fun xo va wr => ∃ (ts : List TA) (m : Nat) (vo : Value), vo = xo ∧ va = .int .i64 m ∧ m ≤ s.size ∧ RScLoop l w vo ts m wr) (fun _ va _ => s.size - (intOf va).toNat)
  case atStart => exact ⟨[], b0, _, rfl, rfl, by omega, HS0.out, by simp, World.ownsRow_nil _ _ _ _, Below.refl _ _⟩
  case round =>
    obtain ⟨ts, m, vo, rfl, rfl, hm, hsc⟩ := hrel
    have HSC := Lib.hid hsc
    clear hsc
    by_cases hlt : m < s.size
    · have hmi : (m : Int) < (s.size : Int) := by omega
      have HF := Lib.hid (HFI.out m hlt)
      cases ht : tokM (l.drop m) with
      | none =>
        rw [ht] at HF
        have HR := Lib.hid (scan_bad l ts m HSC.out.st (by have := HLS.out; omega) ht)
        clear ht
        go_wp2_with fail
        refine (HF.out _).mono ?_
        rintro e w2 ⟨rfl, b2⟩
        have B2 := Lib.hid (HSC.out.below.trans (b2.mono HSC.out.below.size))
        clear b2
        unfold refAns
        go_wp2_with fail
        go_ret3
        rw [HR.out]
        exact ⟨rfl, B2.out.alloc (by have := B2.out.size; omega) _⟩
      | some t =>
        rw [ht] at HF
        obtain ⟨hf1, hf2⟩ := tok_fits l m t ht (by have := HLS.out; omega)
        have hst := scan_next l ts m HSC.out.st (by have := HLS.out; omega) t ht
        have hbl2 := blk_le false (l.drop (m + t.len))
        rw [List.length_drop] at hbl2
        have hf3 : m + t.len ≤ s.size := by have := HLS.out; omega
        have hf4 : m + t.len + blk false (l.drop (m + t.len)) ≤ s.size := by have := HLS.out; omega
        have HB2 := Lib.hid (HBM.out (m + t.len) hf3)
        have HST := Lib.hid hst
        obtain ⟨kd, tx, nm, z⟩ := t
        simp only at hf1 hf2 hf3 hf4 HST HB2 hbl2
        have hzi : (1 : Int) ≤ (z : Int) := by omega
        have hz0 : ((z : Int) == 0) = false := by rw [beq_eq_false_iff_ne]; omega
        have hz3 : (m : Int) + (z : Int) ≤ (s.size : Int) := by omega
        have hz4 : (m : Int) + (z : Int) + ((blk false (l.drop (m + z)) : Nat) : Int) ≤ (s.size : Int) := by omega
        have htl : ts.length ≤ 100000 := by have := HSC.out.len; omega
        have HB3 := Lib.hid (fun (wr : World) => show Calls Tryz.prog 81 #[.string s, .int .i64 ((m : Int) + (z : Int))] wr fun e w' => e = .returned (.int .i64 (blk false (l.drop (m + z)) : Int)) ∧ wr = w' from by
          have := HB2.out wr
          rw [show (((m + z : Nat)) : Int) = (m : Int) + (z : Int) by omega] at this
          exact this)
        generalize blk false (l.drop (m + z)) = bz at *
        clear ht hst hf1 hf2 hbl2 HB2
        go_wp2_with fail
        refine (HF.out _).mono ?_
        rintro e w2 ⟨rfl, b2⟩
        have B2 := Lib.hid (HSC.out.below.trans (b2.mono HSC.out.below.size))
        have T2 := Lib.hid (HSC.out.toks.kept b2)
        clear b2
        unfold refAns
        obtain ⟨v', w4, hrun, htk, hbw, hlt4⟩ := HAP.out vo ts (w2.alloc (.cells #[.int .i64 kd, .string (S tx), .int .i64 nm, .int .i64 (m : Int)] 79)) (World.ownsRow.alloc T2.out _) (by have := B2.out.size; simp; omega) htl kd tx nm m (w2.heap.size + 1) (by simp)
        have HRUN := Lib.hid hrun
        have HTK := Lib.hid htk
        have B4 := Lib.hid ((B2.out.alloc (by have := B2.out.size; omega) (.cells #[.int .i64 kd, .string (S tx), .int .i64 nm, .int .i64 (m : Int)] 79)).trans hbw)
        clear hrun htk hbw hlt4
        go_wp2_with (at_builtin; refine wpList_appR rfl _ _ _ _ rfl rfl rfl _ _ HRUN.out ?_)
        refine (HB3.out _).mono ?_
        rintro e w5 ⟨rfl, rfl⟩
        go_wp2_with fail
        go_roundw
        case rel => exact ⟨_, m + z + bz, _, rfl, by go_num, hf4, HST.out, by have := HSC.out.len; simp; omega, HTK.out, B4.out⟩
        case measure => simp [intOf]; omega
    · obtain rfl : m = s.size := by omega
      have HR := Lib.hid (scan_end l ts s.size HSC.out.st (by have := HLS.out; omega))
      have htl : ts.length ≤ 100000 := by have := HSC.out.len; omega
      obtain ⟨v', w4, hrun, htk, hbw, _⟩ := HAP.out vo ts wr HSC.out.toks HSC.out.below.size htl 0 [] 0 s.size wr.heap.size rfl
      have HRUN := Lib.hid hrun
      have HTK := Lib.hid htk
      have B4 := Lib.hid (HSC.out.below.trans hbw)
      clear hrun htk hbw
      go_wp2_with (at_builtin; refine wpList_appR rfl _ _ _ _ rfl rfl rfl _ _ HRUN.out ?_)
      go_ret3
      rw [HR.out]
      exact ⟨⟨_, rfl, HTK.out⟩, B4.out⟩
end Go.Proofs.YtlmmfhbdebfgkaaGreatDoor.Lx
namespace Go.Proofs.YtlmmfhbdebfgkaaGreatDoor.Ex
open Go.RowKit
open Lx
theorem rtoksC_get : ∀ (ts : List TA) (i : Nat) (t : TA), ts[i]? = some t →
    (rtoksC ts)[i * 4]? = some (.int .i64 t.kind) ∧ (rtoksC ts)[i * 4 + 1]? = some (.string (S t.text)) ∧ (rtoksC ts)[i * 4 + 2]? = some (.int .i64 t.num) ∧ (rtoksC ts)[i * 4 + 3]? = some (.int .i64 (t.at_ : Int))
  | [], i, t, h => by simp at h
  | a :: ts, 0, t, h => by
    obtain rfl : a = t := by simpa using h
    exact ⟨rfl, rfl, rfl, rfl⟩
  | a :: ts, i + 1, t, h => by
    have ih := rtoksC_get ts i t (by simpa using h)
    have e : ∀ k, (rtoksC (a :: ts))[(i + 1) * 4 + k]? = (rtoksC ts)[i * 4 + k]? := fun k => by
      show ([Value.int .i64 a.kind, .string (S a.text), .int .i64 a.num, .int .i64 (a.at_ : Int)] ++ rtoksC ts)[(i + 1) * 4 + k]? = _
      rw [List.getElem?_append_right (by simp; omega)]
      congr 1
      simp; omega
    exact ⟨by rw [show (i + 1) * 4 = (i + 1) * 4 + 0 from rfl, e 0]; exact ih.1, by rw [e 1]; exact ih.2.1, by rw [e 2]; exact ih.2.2.1, by rw [e 3]; exact ih.2.2.2⟩
theorem RToks.ts {w : World} {B : Nat} {v : Value} {ts : List TA} (h : RToks w B v ts) (hne : ts ≠ []) : ∃ g cap, v = .slice (some ⟨g, 0, none⟩) ts.length cap ∧ B ≤ g ∧ TsAt w g ts := by
  have hpos := List.length_pos_iff.2 hne
  rcases h.2 with ⟨_, h0⟩ | ⟨g, cap, cur, rfl, hB, hg, _⟩
  · omega
  · refine ⟨g, cap, rfl, hB, (Array.getElem?_eq_some_iff.1 hg).1, fun i t hi => ?_⟩
    obtain ⟨h0, h1, h2, h3⟩ := rtoksC_get ts i t hi
    have c : ∀ k u, (rtoksC ts)[i * 4 + k]? = some u → w.cell? ⟨g, i * 4 + k, none⟩ = some u := fun k u hu => by
      have := World.ownsRow.cells h (g := g) rfl (i * 4 + k) u hu
      have hadd : (⟨g, 0, none⟩ : Addr).add (i * 4 + k) = ⟨g, i * 4 + k, none⟩ := by unfold Addr.add; split <;> simp_all
      rw [hadd] at this
      exact this
    exact ⟨c 0 _ h0, c 1 _ h1, c 2 _ h2, c 3 _ h3⟩
theorem tokM_ne {l : List UInt8} {t : Tok} (h : tokM l = some t) : t.kind ≠ 0 := by
  unfold tokM at h
  split at h
  · cases h
  · simp only at h
    repeat' split at h
    all_goals first
      | (obtain rfl := Option.some.inj h; simp)
      | cases h
theorem scanF_ends : ∀ (f : Nat) (l : List UInt8) (a : Nat) (ts : List TA), scanF f l a = (ts, none) → ∃ m e, ts = m ++ [e] ∧ e.kind = 0 ∧ ∀ t ∈ m, t.kind ≠ 0
  | 0, l, a, ts, h => by
    unfold scanF at h
    cases h
  | f + 1, l, a, ts, h => by
    unfold scanF at h
    simp only at h
    split at h
    · cases h
      exact ⟨[], _, rfl, rfl, by simp⟩
    · rename_i c r hm
      split at h
      · cases h
      · rename_i t ht
        obtain ⟨us, o, hu⟩ : ∃ us o, scanF f ((c :: r).drop t.len) (a + blk false l + t.len) = (us, o) := ⟨_, _, rfl⟩
        rw [hu] at h
        simp only [Prod.mk.injEq] at h
        obtain ⟨rfl, rfl⟩ := h
        obtain ⟨m, e, rfl, he, hk⟩ := scanF_ends f _ _ us hu
        exact ⟨_ :: m, e, rfl, he, fun x hx => by
          rcases List.mem_cons.1 hx with rfl | hx
          · exact tokM_ne ht
          · exact hk x hx⟩
theorem ends_of {m : List TA} {e : TA} (he : e.kind = 0) (hk : ∀ t ∈ m, t.kind ≠ 0) : Ends (m ++ [e]) := by
  refine ⟨by simp, fun i hi => ?_, ?_⟩
  · have h1 : i < m.length := by simp at hi; omega
    have e1 : tk (m ++ [e]) i = m[i] := by
      simp [tk, List.getD_eq_getElem?_getD, List.getElem?_append_left h1, h1]
    rw [e1]
    exact hk _ (List.getElem_mem _)
  · have e1 : tk (m ++ [e]) ((m ++ [e]).length - 1) = e := by simp [tk, List.getD_eq_getElem?_getD]
    rw [e1]; exact he
theorem scan_ends {l : List UInt8} {ts : List TA} (h : scanM l 0 = (ts, none)) : Ends ts := by
  obtain ⟨m, e, rfl, he, hk⟩ := scanF_ends _ l 0 ts (show scanF (l.length + 1) l 0 = (ts, none) from h)
  exact ends_of he hk
end Go.Proofs.YtlmmfhbdebfgkaaGreatDoor.Ex
namespace Go.Proofs.YtlmmfhbdebfgkaaGreatDoor.Ex
open Go.RowKit
open Lx
theorem refRead_ok (s : ByteArray) (hs : s.size ≤ 8000) (ts : List TA) (hsc : scanM s.data.toList 0 = (ts, none)) (x : T) (s2 : St) (hp : parseM ts 0 = .ok x s2) (hend : s2.at_ + 1 = ts.length) (w : World) :
    Calls Tryz.prog 26 #[.string s] w fun e w' => (∃ p c, e = .returned (.tuple #[exprC x p c, .int .i64 0, .int .i64 0]) ∧ FAt w' (w.heap.size ≤ ·) x.args p) ∧ Below w.heap.size w w' := by
  have hls := list_size s
  have hlen := (scan_at _ s.data.toList 0 (Nat.le_refl _)).2
  rw [hsc] at hlen
  simp only at hlen
  have hn : ts.length ≤ 8001 := by omega
  have hE := scan_ends hsc
  have hne : ts ≠ [] := by intro e; have := hE.pos; rw [e] at this; simp at this
  have HSC := Lib.hid (fun (w1 : World) => refScan_any s hs w1)
  rw [hsc] at HSC
  have HPA := Lib.hid (fun g cap w1 (k : TsAt w1 g ts) => refParse_any g cap ts hE hn w1 k)
  rw [hp] at HPA
  have hni : (ts.length : Int) ≤ 8001 := by omega
  have hnx : ((s2.at_ : Int) == (ts.length : Int) - 1) = true := by rw [beq_iff_eq]; omega
  have hnx2 : ((s2.at_ : Int) != (ts.length : Int) - 1) = false := by simp only [bne_eq_false_iff_eq]; omega
  have hpi : (1 : Int) ≤ (ts.length : Int) := by have := hE.pos; omega
  have HNE := Lib.hid hne
  have HB0 := Lib.hid ((Below.refl w.heap.size w).alloc (Nat.le_refl _) (.cells #[.int .i64 0, .int .i64 0, .string ⟨#[]⟩, .slice none 0 0] 24))
  have HX0 := Lib.hid (Bx.new w (.int .i64 0) (.int .i64 0) (.string ⟨#[]⟩) (.slice none 0 0))
  clear hls hlen hsc hE hne hp hend
  go_enter Tryz.func26, Tryz.ntmps26
  go_wp2_with fail
  refine (HSC.out _).mono ?_
  rintro e w1 ⟨hr, b1⟩
  obtain ⟨v, rfl, htk⟩ := hr
  obtain ⟨g, cap, rfl, _, hts⟩ := RToks.ts (B := _) (v := v) htk HNE.out
  have HTS := Lib.hid hts
  have HB1 := Lib.hid (HB0.out.trans (b1.mono (by simp)))
  have HX1 := Lib.hid (HX0.out.keep (Kept.of_below (ok := fun _ => True) b1) trivial)
  clear hts b1 htk
  go_wp2_with fail
  refine (HPA.out g cap _ HTS.out).mono ?_
  rintro e w5 ⟨hr, b5⟩
  obtain ⟨q, c, rfl, hfa⟩ := hr
  unfold exprC
  have hh := HX1.out.keep (Kept.of_below (ok := fun _ => True) b5) trivial
  have HZ1 := Lib.hid HX1.out.lt
  have f5 := hh.fz
  have p0 := hh.c0
  have p1 := hh.c1
  have p2 := hh.c2
  have p3 := hh.c3
  have hh5 := hh.lt
  have zh : ∀ o j, (w5.alloc o).cell? ⟨w.heap.size, j, none⟩ = w5.cell? ⟨w.heap.size, j, none⟩ := fun o j => Kept.cell (Kept.alloc (ok := fun _ => True) w5 o) trivial hh5
  have zf : ∀ o j, (w5.alloc o).frozen? ⟨w.heap.size, j, none⟩ = false := fun o j => (hh.keep (Kept.alloc (ok := fun _ => True) w5 o) trivial).fz j
  have HXF := Lib.hid (Bx.keep (ok := fun _ => True) (hh.put (.int .i64 x.op) (.int .i64 x.num) (.string (S x.text)) (.slice q x.args.len c)) (Kept.alloc _ (.cells #[.int .i64 x.op, .int .i64 x.num, .string (S x.text), .slice q x.args.len c] 24)) trivial)
  have hB5 := HB1.out.trans (b5.mono HB1.out.size)
  have HBF := Lib.hid ((Below.put hB5 w.heap.size (Nat.le_refl _) (.int .i64 x.op) (.int .i64 x.num) (.string (S x.text)) (.slice q x.args.len c)).alloc (by rw [put4_size]; omega) (.cells #[.int .i64 x.op, .int .i64 x.num, .string (S x.text), .slice q x.args.len c] 24))
  have HFF := Lib.hid (FAt.mono (ok' := (w.heap.size ≤ ·)) (fun y _ hg => by have h1 := HZ1.out; have h2 : w1.heap.size ≤ y := hg; show w.heap.size ≤ y; omega) _ _ ((hfa.keep (Kept.put w5 w.heap.size (.int .i64 x.op) (.int .i64 x.num) (.string (S x.text)) (.slice q x.args.len c) (by have := HZ1.out; omega))).keep (Kept.alloc _ (.cells #[.int .i64 x.op, .int .i64 x.num, .string (S x.text), .slice q x.args.len c] 24))))
  clear hh hfa b5 hB5
  go_wp2_with fail
  refine bodyPost_ret (res_expr3 rfl _ _ w.heap.size _ _ _ _ (.int .i64 0) (.int .i64 0) rfl HXF.out rfl rfl) rfl ?_
  exact ⟨⟨q, c, rfl, HFF.out⟩, HBF.out⟩
end Go.Proofs.YtlmmfhbdebfgkaaGreatDoor.Ex
namespace Go.Proofs.YtlmmfhbdebfgkaaGreatDoor.Ty
open Go.RowKit
open Ex Lx
def exX1 : T := ⟨30, 0, [], .cons 6 0 [101] .nil (.cons 4 0 [114, 101, 100] .nil .nil)⟩
def exX2 : T := ⟨30, 0, [], .cons 6 0 [101] .nil (.cons 4 0 [103, 114, 101, 101, 110] .nil .nil)⟩
def exX3 : T := ⟨23, 0, [], .cons 6 0 [102] .nil (.cons 1 1 [] .nil .nil)⟩
def exS : Sc := ⟨[⟨[99, 111, 108, 111, 114], [[114, 101, 100], [98, 108, 117, 101]]⟩], [⟨[101], 4, [99, 111, 108, 111, 114]⟩], []⟩
theorem ex_of1 : ofM exS exX1 = (⟨2, [], []⟩, 0) := by kernel_rfl
theorem ex_of2 : ofM exS exX2 = (TT.zero, 23) := by kernel_rfl
theorem ex_of3 : ofM exS exX3 = (TT.zero, 20) := by kernel_rfl
theorem exS_fit : ScFit exS := ⟨by decide, by decide, by decide, by decide, by decide, by decide⟩
def exT1 : List TA := (scanM [101, 32, 61, 61, 32, 39, 114, 101, 100] 0).1
def exT2 : List TA := (scanM [101, 32, 61, 61, 32, 39, 103, 114, 101, 101, 110] 0).1
def exT3 : List TA := (scanM [102, 32, 43, 32, 49] 0).1
theorem ex_s1 : scanM (⟨#[101, 32, 61, 61, 32, 39, 114, 101, 100]⟩ : ByteArray).data.toList 0 = (exT1, none) := by kernel_rfl
theorem ex_s2 : scanM (⟨#[101, 32, 61, 61, 32, 39, 103, 114, 101, 101, 110]⟩ : ByteArray).data.toList 0 = (exT2, none) := by kernel_rfl
theorem ex_s3 : scanM (⟨#[102, 32, 43, 32, 49]⟩ : ByteArray).data.toList 0 = (exT3, none) := by kernel_rfl
theorem ex_p1 : parseM exT1 0 = .ok exX1 ⟨3, 3, 0⟩ := by kernel_rfl
theorem ex_p2 : parseM exT2 0 = .ok exX2 ⟨3, 3, 0⟩ := by kernel_rfl
theorem ex_p3 : parseM exT3 0 = .ok exX3 ⟨3, 3, 0⟩ := by kernel_rfl
theorem ex_e1 : 3 + 1 = exT1.length := by kernel_rfl
theorem ex_e2 : 3 + 1 = exT2.length := by kernel_rfl
theorem ex_e3 : 3 + 1 = exT3.length := by kernel_rfl
def RdP (w : World) (x : T) (e : Ending) (w' : World) : Prop := (∃ p c, e = .returned (.tuple #[.agg #[.int .i64 x.op, .int .i64 x.num, .string (S x.text), .slice p x.args.len c], .int .i64 0, .int .i64 0]) ∧ FAt w' (fun _ => True) x.args p) ∧ Below w.heap.size w w'
theorem read_ex (s : ByteArray) (hs : s.size ≤ 8000) (ts : List TA) (h1 : scanM s.data.toList 0 = (ts, none)) (x : T) (s2 : St) (h2 : parseM ts 0 = .ok x s2) (h3 : s2.at_ + 1 = ts.length) (w : World) :
    Calls Tryz.prog 26 #[.string s] w (RdP w x) :=
  (refRead_ok s hs ts h1 x s2 h2 h3 w).mono fun e w' ⟨⟨p, c, h, f⟩, b⟩ => ⟨⟨p, c, h, FAt.mono (fun _ _ _ => trivial) _ _ f⟩, b⟩
theorem exS_at (w w' : World) (k : Below (((w.alloc (.cells #[.string ⟨#[114, 101, 100]⟩, .string ⟨#[98, 108, 117, 101]⟩] 9)).alloc (.cells #[.string ⟨#[99, 111, 108, 111, 114]⟩, .slice (some ⟨w.heap.size, 0, none⟩) 2 2] 81)).alloc (.cells #[.string ⟨#[101]⟩, .int .i64 4, .string ⟨#[99, 111, 108, 111, 114]⟩] 49)).heap.size (((w.alloc (.cells #[.string ⟨#[114, 101, 100]⟩, .string ⟨#[98, 108, 117, 101]⟩] 9)).alloc (.cells #[.string ⟨#[99, 111, 108, 111, 114]⟩, .slice (some ⟨w.heap.size, 0, none⟩) 2 2] 81)).alloc (.cells #[.string ⟨#[101]⟩, .int .i64 4, .string ⟨#[99, 111, 108, 111, 114]⟩] 49)) w') : ScAt w' (some ⟨w.heap.size + 1, 0, none⟩) (some ⟨w.heap.size + 1 + 1, 0, none⟩) none exS := by
  have h2 := (k.block (w.heap.size + 1 + 1) (by simp)).trans (new_box _ _ _ _ (by simp))
  have h1 := ((k.block (w.heap.size + 1) (by simp)).trans (((Below.refl _ _).alloc (Nat.le_refl _) _).block (w.heap.size + 1) (by simp))).trans (new_box _ _ _ _ (by simp))
  have h0 := (((k.block w.heap.size (by simp; omega)).trans (((Below.refl _ _).alloc (Nat.le_refl _) _).block w.heap.size (by simp; omega))).trans (((Below.refl _ _).alloc (Nat.le_refl _) _).block w.heap.size (by simp))).trans (heap_alloc_new w _)
  have l2 := (Array.getElem?_eq_some_iff.1 h2).1
  refine ⟨fun i hi => ?_, fun i hi => ?_, fun i hi => absurd hi (Nat.not_lt_zero _)⟩
  · obtain rfl : i = 0 := by have : i < 1 := hi; omega
    refine ⟨w.heap.size + 1, 0, some ⟨w.heap.size, 0, none⟩, 2, rfl, by omega, cell_of_row w' _ 0 _ _ (0, 0) h1, cell_of_row w' _ 1 _ _ (0, 0) h1, fun j hj => ?_⟩
    have hj2 : j = 0 ∨ j = 1 := by have : j < 2 := hj; omega
    rcases hj2 with rfl | rfl
    · exact ⟨w.heap.size, 0, rfl, by omega, cell_of_row w' _ 0 _ _ (0, 0) h0⟩
    · exact ⟨w.heap.size, 0, rfl, by omega, cell_of_row w' _ 1 _ _ (0, 0) h0⟩
  · obtain rfl : i = 0 := by have : i < 1 := hi; omega
    exact ⟨w.heap.size + 1 + 1, 0, rfl, by omega, cell_of_row w' _ 0 _ _ (0, 0) h2, cell_of_row w' _ 1 _ _ (0, 0) h2, cell_of_row w' _ 2 _ _ (0, 0) h2⟩
theorem of_ex (x : T) (hf : x.row.fits) (hn : x.row.nums) (k n : Int) (r : TT × Nat) (hr : ofM exS x = r) (hk : r.1 = ⟨k, [], []⟩) (hn2 : (r.2 : Int) = n) (w0 : World) (htab : Va.Tab w0) (hC : ConsAt w0) (pe pa : Option Addr) (p : Option Addr) (c : Nat) (w : World) (b : Below w0.heap.size w0 w) (hs : ScAt w pe pa none exS) (hfa : FAt w (fun _ => True) x.args p) :
    Calls Tryz.prog 15 #[.slice pe 1 1, .slice pa 1 1, .slice none 0 0, .agg #[.int .i64 x.op, .int .i64 x.num, .string (S x.text), .slice p x.args.len c]] w fun e w' => e = .returned (.tuple #[.agg #[.int .i64 k, .string ⟨#[]⟩, .string ⟨#[]⟩], .int .i64 n]) ∧ Below w.heap.size w w' := by
  subst hr hn2
  refine (of_any exS pe pa none 1 1 0 exS_fit x hf hn p c w hs hfa (htab.below b) (hC.keep (Kept.of_below (ok := fun _ => True) b) trivial)).mono ?_
  rintro e w' ⟨h1, h2⟩
  refine ⟨h1.trans ?_, h2⟩
  unfold retT
  rw [hk]
  rfl
theorem awake_any (w : World) (htab : Va.Tab w) (hC : ConsAt w) : Calls Tryz.prog 13 #[] w fun e w' => e = .returned (.bool true) ∧ Below w.heap.size w w' := by
  have hb3 := (((Below.refl w.heap.size w).alloc (Nat.le_refl _) (.cells #[.string ⟨#[114, 101, 100]⟩, .string ⟨#[98, 108, 117, 101]⟩] 9)).alloc (by simp) (.cells #[.string ⟨#[99, 111, 108, 111, 114]⟩, .slice (some ⟨w.heap.size, 0, none⟩) 2 2] 81)).alloc (by simp; omega) (.cells #[.string ⟨#[101]⟩, .int .i64 4, .string ⟨#[99, 111, 108, 111, 114]⟩] 49)
  obtain ⟨W3, hW3⟩ : ∃ W3, W3 = ((w.alloc (.cells #[.string ⟨#[114, 101, 100]⟩, .string ⟨#[98, 108, 117, 101]⟩] 9)).alloc (.cells #[.string ⟨#[99, 111, 108, 111, 114]⟩, .slice (some ⟨w.heap.size, 0, none⟩) 2 2] 81)).alloc (.cells #[.string ⟨#[101]⟩, .int .i64 4, .string ⟨#[99, 111, 108, 111, 114]⟩] 49) := ⟨_, rfl⟩
  have hex := exS_at w
  rw [← hW3] at hb3 hex
  have HTAB := Lib.hid htab
  have HC := Lib.hid hC
  have HB3 := Lib.hid hb3
  have HEX := Lib.hid hex
  have R1 := Lib.hid (fun wr => read_ex ⟨#[101, 32, 61, 61, 32, 39, 114, 101, 100]⟩ (by decide) exT1 ex_s1 exX1 _ ex_p1 ex_e1 wr)
  have R2 := Lib.hid (fun wr => read_ex ⟨#[101, 32, 61, 61, 32, 39, 103, 114, 101, 101, 110]⟩ (by decide) exT2 ex_s2 exX2 _ ex_p2 ex_e2 wr)
  have R3 := Lib.hid (fun wr => read_ex ⟨#[102, 32, 43, 32, 49]⟩ (by decide) exT3 ex_s3 exX3 _ ex_p3 ex_e3 wr)
  have O1 := Lib.hid (of_ex exX1 (by simp [exX1, T.row, F.fits, F.len]) (by simp [exX1, T.row, F.nums]) 2 0 _ ex_of1 rfl rfl w htab hC)
  have O2 := Lib.hid (of_ex exX2 (by simp [exX2, T.row, F.fits, F.len]) (by simp [exX2, T.row, F.nums]) 0 23 _ ex_of2 rfl rfl w htab hC)
  have O3 := Lib.hid (of_ex exX3 (by simp [exX3, T.row, F.fits, F.len]) (by simp [exX3, T.row, F.nums]) 0 20 _ ex_of3 rfl rfl w htab hC)
  clear htab hC hb3 hex
  go_enter Tryz.func13, Tryz.ntmps13
  go_wp2_with fail
  rw [← hW3]
  have HW3 := Lib.hid hW3
  clear hW3
  refine (R1.out W3).mono ?_
  rintro e w1 ⟨⟨p1, c1, rfl, fa1⟩, b1⟩
  have HA1 := Lib.hid fa1
  have HB1 := Lib.hid b1
  clear fa1 b1
  generalize exX1 = X1 at *
  go_wp2_with fail
  have ba1 := (Below.refl w1.heap.size w1).alloc (Nat.le_refl _) (.cells #[.int .i64 X1.op, .int .i64 X1.num, .string (S X1.text), .slice p1 X1.args.len c1] 24)
  have HX1 := Lib.hid (Bx.new w1 (.int .i64 X1.op) (.int .i64 X1.num) (.string (S X1.text)) (.slice p1 X1.args.len c1))
  have HB1a := Lib.hid (HB1.out.trans (ba1.mono HB1.out.size))
  have HA1a := Lib.hid (HA1.out.keep (Kept.of_below ba1))
  clear ba1
  refine (R2.out _).mono ?_
  rintro e w2 ⟨⟨p2, c2, rfl, fa2⟩, b2⟩
  have HA2 := Lib.hid fa2
  have HB2 := Lib.hid (HB1a.out.trans (b2.mono HB1a.out.size))
  have HX1b := Lib.hid (HX1.out.keep (Kept.of_below (ok := fun _ => True) b2) trivial)
  have HA1b := Lib.hid (HA1a.out.keep (Kept.of_below b2))
  clear fa2 b2
  generalize exX2 = X2 at *
  go_wp2_with fail
  have ba2 := (Below.refl w2.heap.size w2).alloc (Nat.le_refl _) (.cells #[.int .i64 X2.op, .int .i64 X2.num, .string (S X2.text), .slice p2 X2.args.len c2] 24)
  have HX2 := Lib.hid (Bx.new w2 (.int .i64 X2.op) (.int .i64 X2.num) (.string (S X2.text)) (.slice p2 X2.args.len c2))
  have HB2a := Lib.hid (HB2.out.trans (ba2.mono HB2.out.size))
  have HX1c := Lib.hid (HX1b.out.keep (Kept.of_below (ok := fun _ => True) ba2) trivial)
  have HA1c := Lib.hid (HA1b.out.keep (Kept.of_below ba2))
  have HA2a := Lib.hid (HA2.out.keep (Kept.of_below ba2))
  clear ba2
  refine (R3.out _).mono ?_
  rintro e w3 ⟨⟨p3, c3, rfl, fa3⟩, b3⟩
  have ba3 := b3.trans (((Below.refl w3.heap.size w3).alloc (Nat.le_refl _) (.cells #[.int .i64 exX3.op, .int .i64 exX3.num, .string (S exX3.text), .slice p3 exX3.args.len c3] 24)).mono b3.size)
  have HB3a := Lib.hid (HB2a.out.trans (ba3.mono HB2a.out.size))
  have hx1 := HX1c.out.keep (Kept.of_below (ok := fun _ => True) ba3) trivial
  have HA1d := Lib.hid (HA1c.out.keep (Kept.of_below ba3))
  have hx2 := HX2.out.keep (Kept.of_below (ok := fun _ => True) ba3) trivial
  have HA2b := Lib.hid (HA2a.out.keep (Kept.of_below ba3))
  have hx3 := Bx.new w3 (.int .i64 exX3.op) (.int .i64 exX3.num) (.string (S exX3.text)) (.slice p3 exX3.args.len c3)
  have HA3 := Lib.hid (fa3.keep (Kept.alloc w3 (.cells #[.int .i64 exX3.op, .int .i64 exX3.num, .string (S exX3.text), .slice p3 exX3.args.len c3] 24)))
  obtain ⟨W6, hW6⟩ : ∃ W6, W6 = w3.alloc (.cells #[.int .i64 exX3.op, .int .i64 exX3.num, .string (S exX3.text), .slice p3 exX3.args.len c3] 24) := ⟨_, rfl⟩
  rw [← hW6] at HB3a hx1 HA1d hx2 HA2b hx3 HA3
  have HX1 := Lib.hid hx1
  have HX2 := Lib.hid hx2
  have HX3 := Lib.hid hx3
  rw [hW6] at hx1
  have qa0 := hx1.c0
  have qa1 := hx1.c1
  have qa2 := hx1.c2
  have qa3 := hx1.c3
  have hy1 := HX1c.out.keep (Kept.of_below (ok := fun _ => True) b3) trivial
  have qb0 := hy1.c0
  have qb1 := hy1.c1
  have qb2 := hy1.c2
  have qb3 := hy1.c3
  have hlt1 := hy1.lt
  have HW6 := Lib.hid hW6
  clear fa3 b3 ba3 hx1 hx2 hx3 hy1 hW6
  generalize exX3 = X3 at *
  go_wp2_with fail
  rw [← HW6.out]
  refine (O1.out _ _ p1 c1 W6 (HB3.out.trans (HB3a.out.mono HB3.out.size)) (HEX.out W6 HB3a.out) HA1d.out).mono ?_
  rintro e w4 ⟨rfl, b4⟩
  clear qa0 qa1 qa2 qa3 qb0 qb1 qb2 qb3 hlt1
  have ba4 := b4.trans (((Below.refl w4.heap.size w4).alloc (Nat.le_refl _) (.cells #[.int .i64 2, .string ⟨#[]⟩, .string ⟨#[]⟩] 44)).mono b4.size)
  have HB4 := Lib.hid (HB3a.out.trans (ba4.mono HB3a.out.size))
  have hx2 := HX2.out.keep (Kept.of_below (ok := fun _ => True) ba4) trivial
  have hx3 := HX3.out.keep (Kept.of_below (ok := fun _ => True) ba4) trivial
  have hy2 := HX2.out.keep (Kept.of_below (ok := fun _ => True) b4) trivial
  have qa0 := hx2.c0
  have qa1 := hx2.c1
  have qa2 := hx2.c2
  have qa3 := hx2.c3
  have qb0 := hy2.c0
  have qb1 := hy2.c1
  have qb2 := hy2.c2
  have qb3 := hy2.c3
  have hlt2 := hy2.lt
  have HX3b := Lib.hid hx3
  have HA2c := Lib.hid (HA2b.out.keep (Kept.of_below ba4))
  have HA3b := Lib.hid (HA3.out.keep (Kept.of_below ba4))
  have HT4 := Lib.hid (heap_alloc_new w4 (.cells #[.int .i64 2, .string ⟨#[]⟩, .string ⟨#[]⟩] 44))
  obtain ⟨W8, hW8⟩ : ∃ W8, W8 = w4.alloc (.cells #[.int .i64 2, .string ⟨#[]⟩, .string ⟨#[]⟩] 44) := ⟨_, rfl⟩
  rw [← hW8] at HB4 HX3b HA2c HA3b HT4
  have HW8 := Lib.hid hW8
  clear b4 ba4 hx2 hx3 hy2 hW8
  go_wp2_with fail
  rw [← HW8.out]
  refine (O2.out _ _ p2 c2 W8 (HB3.out.trans (HB4.out.mono HB3.out.size)) (HEX.out W8 HB4.out) HA2c.out).mono ?_
  rintro e w5 ⟨rfl, b5⟩
  clear qa0 qa1 qa2 qa3 qb0 qb1 qb2 qb3 hlt2
  have ba5 := b5.trans (((Below.refl w5.heap.size w5).alloc (Nat.le_refl _) (.cells #[.int .i64 0, .string ⟨#[]⟩, .string ⟨#[]⟩] 44)).mono b5.size)
  have HB5 := Lib.hid (HB4.out.trans (ba5.mono HB4.out.size))
  have hx3 := HX3b.out.keep (Kept.of_below (ok := fun _ => True) ba5) trivial
  have hy3 := HX3b.out.keep (Kept.of_below (ok := fun _ => True) b5) trivial
  have qa0 := hx3.c0
  have qa1 := hx3.c1
  have qa2 := hx3.c2
  have qa3 := hx3.c3
  have qb0 := hy3.c0
  have qb1 := hy3.c1
  have qb2 := hy3.c2
  have qb3 := hy3.c3
  have hlt3 := hy3.lt
  have HA3c := Lib.hid (HA3b.out.keep (Kept.of_below ba5))
  have HT5 := Lib.hid ((ba5.block w4.heap.size (Array.getElem?_eq_some_iff.1 HT4.out).1).trans HT4.out)
  obtain ⟨W9, hW9⟩ : ∃ W9, W9 = w5.alloc (.cells #[.int .i64 0, .string ⟨#[]⟩, .string ⟨#[]⟩] 44) := ⟨_, rfl⟩
  rw [← hW9] at HB5 HA3c HT5
  have HW9 := Lib.hid hW9
  clear b5 ba5 hx3 hy3 hW9
  go_wp2_with fail
  rw [← HW9.out]
  refine (O3.out _ _ p3 c3 W9 (HB3.out.trans (HB5.out.mono HB3.out.size)) (HEX.out W9 HB5.out) HA3c.out).mono ?_
  rintro e w6 ⟨rfl, b6⟩
  clear qa0 qa1 qa2 qa3 qb0 qb1 qb2 qb3 hlt3
  have ba6 := b6.trans (((Below.refl w6.heap.size w6).alloc (Nat.le_refl _) (.cells #[.int .i64 0, .string ⟨#[]⟩, .string ⟨#[]⟩] 44)).mono b6.size)
  have HB6 := Lib.hid (HB5.out.trans (ba6.mono HB5.out.size))
  have t6 := cell_of_row _ w4.heap.size 0 _ _ (0, 0) ((ba6.block w4.heap.size (Array.getElem?_eq_some_iff.1 HT5.out).1).trans HT5.out)
  have t6b := cell_of_row _ w4.heap.size 0 _ _ (0, 0) ((b6.block w4.heap.size (Array.getElem?_eq_some_iff.1 HT5.out).1).trans HT5.out)
  have hlt4 : w4.heap.size < w6.heap.size := Nat.lt_of_lt_of_le (Array.getElem?_eq_some_iff.1 HT5.out).1 b6.size
  simp only [List.getElem?_toArray, List.getElem?_cons_zero] at t6 t6b
  clear b6 ba6
  go_wp2_with fail
  go_ret
  exact ⟨rfl, HB3.out.trans (HB6.out.mono HB3.out.size)⟩
end Go.Proofs.YtlmmfhbdebfgkaaGreatDoor.Ty
