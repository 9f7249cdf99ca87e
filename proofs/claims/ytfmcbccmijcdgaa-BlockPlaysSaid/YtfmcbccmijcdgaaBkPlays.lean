/-
  BlockPlays: the program's device and the document's, side by side.
-/
import Derived.Test.YtfmcbccmijcdgaaBkRefH
import Derived.Test.YtfmcbccmijcdgaaBkAwake
import Derived.Test.YtfmcbccmijcdgaaBkReadAll
namespace Go.Proofs.Ytfmcbccmijcdgaa.Bk
open Go.RowKit

/-- The same device, as plain data: the fuse's loss matters where there is a fuse. -/
structure Same (d r : Dev) : Prop where
  dur : r.dur = d.dur
  pend : r.pend = d.pend
  off : r.off = d.off
  calls : r.calls = d.calls
  fuse : d.calls ≠ 0 → r.keep = d.keep ∧ r.torn = d.torn ∧ r.at_ = d.at_
  dark : d.off = true → d.pend = []
theorem Same.refE {d r : Dev} (h : Same d r) (i : Int) : refE r i = refE d i := by unfold Bk.refE; rw [h.off, h.dur]
theorem Same.burnE {d r : Dev} (h : Same d r) : burnE r = burnE d := by unfold Bk.burnE; rw [h.calls]
theorem same_burn {d r : Dev} (h : Same d r) : Same (burnD d) (blownD r) := by
  unfold burnD blownD
  rw [h.calls]
  by_cases h1 : d.calls = 1
  · obtain ⟨e1, e2, e3⟩ := h.fuse (by omega)
    rw [if_neg (by omega), if_neg (by omega), if_pos h1]
    exact ⟨by show loseK r.keep r.torn r.at_ r.pend r.dur _ = loseK d.keep d.torn d.at_ d.pend d.dur _; rw [h.dur, h.pend, e1, e2, e3], rfl, rfl, rfl, fun h => absurd rfl h, fun _ => rfl⟩
  · by_cases h0 : d.calls = 0
    · rw [if_pos h0, if_neg h1, if_neg (by omega)]
      exact h
    · rw [if_neg h0, if_pos (by omega), if_neg h1, if_pos (by omega)]
      exact ⟨h.dur, h.pend, h.off, rfl, fun _ => h.fuse h0, h.dark⟩
theorem same_write {d r : Dev} (h : Same d r) (i : Int) (l : List UInt8) : writeE r i l.length = writeE d i l.length ∧ Same (writeD d i l) (refWriteD r i l) := by
  unfold writeE writeD refWriteD
  rw [h.refE, h.burnE]
  refine ⟨rfl, ?_⟩
  by_cases h0 : refE d i ≠ 0
  · rw [if_pos h0, if_pos h0]; exact h
  · rw [if_neg h0, if_neg h0]
    by_cases hl : l.length ≠ 64
    · rw [if_pos hl, if_pos hl]; exact h
    · rw [if_neg hl, if_neg hl]
      have hoff : d.off = false := by
        cases ho : d.off with
        | false => rfl
        | true => exfalso; apply h0; unfold Bk.refE; rw [if_pos ho]; simp
      exact same_burn (d := { d with pend := d.pend ++ [(i.toNat, l)] }) (r := { r with pend := r.pend ++ [(i.toNat, l)] }) ⟨h.dur, by show r.pend ++ _ = d.pend ++ _; rw [h.pend], h.off, h.calls, h.fuse, fun h1 => by simp [hoff] at h1⟩
theorem same_flush {d r : Dev} (h : Same d r) : flushE r = flushE d ∧ Same (flushD d) (refFlushD r) := by
  unfold flushE flushD refFlushD
  rw [h.off, h.burnE]
  refine ⟨rfl, ?_⟩
  cases hoff : d.off with
  | true => simp only [if_true]; exact h
  | false =>
    simp only [Bool.false_eq_true, if_false]
    have hb := same_burn h
    by_cases h1 : d.calls = 1
    · have hb10 : Bk.burnE d ≠ 0 := by unfold Bk.burnE; rw [if_pos h1]; simp
      rw [if_pos hb10, if_pos (h.calls.trans h1)]; exact hb
    · have hb10 : ¬ Bk.burnE d ≠ 0 := by unfold Bk.burnE; rw [if_neg h1]; simp
      rw [if_neg hb10, if_neg (by rw [h.calls]; exact h1)]
      have e1 : (burnD d).pend = d.pend ∧ (burnD d).dur = d.dur := by
        unfold burnD
        by_cases h0 : d.calls = 0
        · rw [if_pos h0]; exact ⟨rfl, rfl⟩
        · rw [if_neg h0, if_pos (by omega)]; exact ⟨rfl, rfl⟩
      exact ⟨by show flushK r.pend r.dur r.pend.length = flushK (burnD d).pend (burnD d).dur (burnD d).pend.length; rw [e1.1, e1.2, h.dur, h.pend], rfl, hb.off, hb.calls, hb.fuse, fun _ => rfl⟩
theorem same_kill {d r : Dev} (h : Same d r) (keep : Nat) (torn at_ : Int) : Same (killD d keep torn at_) (refKillD r keep torn at_) := by
  unfold killD refKillD
  rw [h.off]
  cases hoff : d.off with
  | true =>
    have hp := h.dark hoff
    rw [if_pos rfl]
    refine ⟨?_, ?_, rfl, rfl, fun h => absurd rfl h, fun h => by simp at h⟩
    · show r.dur = loseK keep torn at_ d.pend d.dur d.pend.length; rw [hp, h.dur]; rfl
    · show r.pend = []; rw [h.pend, hp]
  | false =>
    rw [if_neg (by simp)]
    exact ⟨by show loseK keep torn at_ r.pend r.dur r.pend.length = loseK keep torn at_ d.pend d.dur d.pend.length; rw [h.dur, h.pend], rfl, rfl, rfl, fun h => absurd rfl h, fun h => by simp at h⟩
theorem same_fuse {d r : Dev} (h : Same d r) (n : Int) (keep : Nat) (torn at_ : Int) : Same (fuseD d n keep torn at_) { r with calls := (max 0 n).toNat, keep := keep, torn := torn, at_ := at_ } := by
  unfold fuseD
  by_cases hn : 1 ≤ n
  · rw [if_pos hn]
    exact ⟨h.dur, h.pend, h.off, by show (max 0 n).toNat = n.toNat; congr 1; omega, fun _ => ⟨rfl, rfl, rfl⟩, h.dark⟩
  · rw [if_neg hn]
    exact ⟨h.dur, h.pend, h.off, by show (max 0 n).toNat = 0; omega, fun h => absurd rfl h, h.dark⟩
theorem same_up {d r : Dev} (h : Same d r) : Same { d with off := false, calls := 0, keep := 0, torn := 0, at_ := 0 } { r with off := false, calls := 0 } :=
  ⟨h.dur, h.pend, rfl, rfl, fun h => absurd rfl h, fun h => by simp at h⟩
theorem same_fill {d r : Dev} (h : Same d r) (l : List UInt8) : Same { d with dur := fillK l d.dur d.dur.length, pend := [] } { r with dur := fillK l r.dur r.dur.length, pend := [] } :=
  ⟨by show fillK l r.dur r.dur.length = _; rw [h.dur], rfl, h.off, h.calls, h.fuse, fun _ => rfl⟩
theorem same_new (n : Nat) : Same (newD n) (newD n) := ⟨rfl, rfl, rfl, rfl, fun _ => ⟨rfl, rfl, rfl⟩, fun _ => rfl⟩

/-! ### lengths -/
theorem len_burn (d : Dev) : (burnD d).pend.length ≤ d.pend.length := by unfold burnD; split; · omega
                                                                         · split <;> simp [loseD]
theorem len_write (d : Dev) (i : Int) (l : List UInt8) : (writeD d i l).pend.length ≤ d.pend.length + 1 := by
  unfold writeD; split
  · omega
  · split
    · omega
    · exact Nat.le_trans (len_burn _) (by simp)
theorem len_flush (d : Dev) : (flushD d).pend.length ≤ d.pend.length := by
  unfold flushD; split
  · omega
  · split
    · exact len_burn d
    · simp

/-- The two devices in one world, a box beside them, in what is new since n0. -/
structure PX (n0 : Nat) (w : World) (D R : Nat) (pv : Value) (d : Dev) (B : Nat) (lv wv tv : Value) (r : Dev) (m X : Nat) (o : Obj) : Prop where
  dev : DevAt w D R pv d
  ref : RefAt w B lv wv tv r
  tears : lenV tv ≤ m
  apart : ∀ k, k ∈ blocks D R pv → k ∉ rblocks B lv wv tv
  hi1 : ∀ k, k ∈ blocks D R pv → n0 ≤ k
  hi2 : ∀ k, k ∈ rblocks B lv wv tv → n0 ≤ k
  box : w.heap[X]? = some o
  x1 : X ∉ blocks D R pv
  x2 : X ∉ rblocks B lv wv tv
def PP (n0 : Nat) (w : World) (D R : Nat) (d : Dev) (B : Nat) (r : Dev) (m X : Nat) (o : Obj) : Prop := ∃ pv lv wv tv, PX n0 w D R pv d B lv wv tv r m X o

theorem PX.stepD {n0 : Nat} {w w' : World} {D R : Nat} {pv pv' : Value} {d d' : Dev} {B : Nat} {lv wv tv : Value} {r : Dev} {m X : Nat} {o : Obj} (h : PX n0 w D R pv d B lv wv tv r m X o) (hn : n0 ≤ w.heap.size)
    (k : DevAt w' D R pv' d') (f : Fresh w pv pv') (on : Onl (blocks D R pv) w w') : PP n0 w' D R d' B r m X o ∧ Below n0 w w' := by
  have hX := lt_of_heap h.box
  have new : ∀ b, b ∈ blocks D R pv' → b ∈ blocks D R pv ∨ w.heap.size ≤ b := by
    intro b hb
    rcases mem_blocks.1 hb with e | e | e
    · exact .inl (mem_blocks.2 (.inl e))
    · exact .inl (mem_blocks.2 (.inr (.inl e)))
    · rcases f b e with e | e
      · exact .inl (mem_blocks.2 (.inr (.inr e)))
      · exact .inr e
  refine ⟨⟨pv', lv, wv, tv, k, h.ref.later on (fun b hb hb' => h.apart b hb' hb), h.tears, ?_, ?_, h.hi2, (on.block X hX h.x1).trans h.box, ?_, h.x2⟩, on.below h.hi1 hn⟩
  · intro b hb hb2
    rcases new b hb with e | e
    · exact h.apart b e hb2
    · have := h.ref.lt b hb2; omega
  · intro b hb
    rcases new b hb with e | e
    · exact h.hi1 b e
    · omega
  · intro hb
    rcases new X hb with e | e
    · exact h.x1 e
    · omega
theorem PX.stepR {n0 : Nat} {w w' : World} {D R : Nat} {pv : Value} {d : Dev} {B : Nat} {lv wv tv : Value} {r r' : Dev} {m m' X : Nat} {o : Obj} (h : PX n0 w D R pv d B lv wv tv r m X o) (hn : n0 ≤ w.heap.size)
    (k : RefTo m' w B (rblocks B lv wv tv) w' r') : PP n0 w' D R d B r' m' X o ∧ Below n0 w w' := by
  obtain ⟨lv', wv', tv', k, ht, f, on⟩ := k
  have hX := lt_of_heap h.box
  refine ⟨⟨pv, lv', wv', tv', h.dev.later on (fun b hb hb' => h.apart b hb hb'), k, ht, ?_, h.hi1, ?_, (on.block X hX h.x2).trans h.box, h.x1, ?_⟩, on.below h.hi2 hn⟩
  · intro b hb hb2
    rcases f b hb2 with e | e
    · exact h.apart b hb e
    · have := h.dev.lt b hb; omega
  · intro b hb
    rcases f b hb with e | e
    · exact h.hi2 b e
    · omega
  · intro hb
    rcases f X hb with e | e
    · exact h.x2 e
    · omega
theorem PX.below {n0 : Nat} {w w' : World} {D R : Nat} {pv : Value} {d : Dev} {B : Nat} {lv wv tv : Value} {r : Dev} {m X : Nat} {o : Obj} (h : PX n0 w D R pv d B lv wv tv r m X o)
    (b : Below w.heap.size w w') : PX n0 w' D R pv d B lv wv tv r m X o :=
  ⟨h.dev.later (Onl.of_below b []) (by simp), h.ref.later (Onl.of_below b []) (by simp), h.tears, h.apart, h.hi1, h.hi2, (b.block X (lt_of_heap h.box)).trans h.box, h.x1, h.x2⟩
theorem PP.below {n0 : Nat} {w w' : World} {D R : Nat} {d : Dev} {B : Nat} {r : Dev} {m X : Nat} {o : Obj} (h : PP n0 w D R d B r m X o) (b : Below w.heap.size w w') : PP n0 w' D R d B r m X o := by
  obtain ⟨pv, lv, wv, tv, h⟩ := h
  exact ⟨pv, lv, wv, tv, h.below b⟩
/-- Another box, which is new. -/
theorem PX.newBox {n0 : Nat} {w w' : World} {D R : Nat} {pv : Value} {d : Dev} {B : Nat} {lv wv tv : Value} {r : Dev} {m X : Nat} {o o' : Obj} (h : PX n0 w D R pv d B lv wv tv r m X o)
    (b : Below w.heap.size w w') (hx : w'.heap[w.heap.size]? = some o') : PX n0 w' D R pv d B lv wv tv r m w.heap.size o' := by
  have h' := h.below b
  exact ⟨h'.dev, h'.ref, h.tears, h.apart, h.hi1, h.hi2, hx, fun e => by have := h.dev.lt _ e; omega, fun e => by have := h.ref.lt _ e; omega⟩

/-! ### the calls -/
variable {n0 : Nat} {w : World} {D R : Nat} {d : Dev} {B : Nat} {r : Dev} {m X : Nat} {o : Obj}

theorem ok_ref {pv lv wv tv : Value} (h : PX n0 w D R pv d B lv wv tv r m X o) (hd : r.dur = d.dur) (hp : r.pend = d.pend) : DevOk r :=
  ⟨by rw [hd]; exact h.dev.ok.dur, by rw [hd, hp]; exact h.dev.ok.pend, by rw [hd]; exact h.dev.ok.most, h.ref.calls, h.ref.keep⟩

theorem pp_flushD (h : PP n0 w D R d B r m X o) (hn : n0 ≤ w.heap.size) (hm : d.pend.length ≤ 900) :
    Calls Try.prog 9 #[.pointer (some ⟨D, 0, none⟩)] w fun e w' => e = .returned (.int .i64 (flushE d : Nat)) ∧ PP n0 w' D R (flushD d) B r m X o ∧ Below n0 w w' := by
  obtain ⟨pv, lv, wv, tv, h⟩ := h
  refine (flush_any h.dev (by omega)).mono ?_
  rintro e w' ⟨he, ⟨pv', k', f'⟩, o'⟩
  exact ⟨he, h.stepD hn k' (by rcases f' with rfl | rfl; exact Fresh.refl _ _; exact Fresh.nil _ _) (o'.mono (by simp [blocks]))⟩
theorem pp_flushR (h : PP n0 w D R d B r m X o) (hn : n0 ≤ w.heap.size) (ok : DevOk r) (hm : r.pend.length ≤ 900) (hm2 : m ≤ 100000) :
    Calls Try.prog 10 #[.pointer (some ⟨B, 0, none⟩)] w fun e w' => e = .returned (.int .i64 (flushE r : Nat)) ∧ PP n0 w' D R d B (refFlushD r) (m + 1000) X o ∧ Below n0 w w' := by
  obtain ⟨pv, lv, wv, tv, h⟩ := h
  have ht := h.tears
  refine (refFlush_any h.ref ok (by omega) (by omega)).mono ?_
  rintro e w' ⟨he, lv', wv', tv', a1, a2, a3, a4⟩
  exact ⟨he, h.stepR hn ⟨lv', wv', tv', a1, by omega, a3, a4⟩⟩
theorem pp_killD (h : PP n0 w D R d B r m X o) (hn : n0 ≤ w.heap.size) (hm : d.pend.length ≤ 900) (keep : Nat) (hk : keep < 18446744073709551616) (torn at_ : Int) :
    Calls Try.prog 11 #[.pointer (some ⟨D, 0, none⟩), .agg #[.int .u64 (keep : Int), .int .i64 torn, .int .i64 at_]] w fun e w' => e = .returned (.tuple #[]) ∧ PP n0 w' D R (killD d keep torn at_) B r m X o ∧ Below n0 w w' := by
  obtain ⟨pv, lv, wv, tv, h⟩ := h
  refine (kill_any h.dev (by omega) keep hk torn at_).mono ?_
  rintro e w' ⟨he, k', o'⟩
  exact ⟨he, h.stepD hn k' (Fresh.nil _ _) (o'.mono (by simp [blocks]))⟩
theorem pp_killR (h : PP n0 w D R d B r m X o) (hn : n0 ≤ w.heap.size) (ok : DevOk r) (hm : r.pend.length ≤ 900) (hm2 : m ≤ 100000) (keep : Nat) (hk : keep < 18446744073709551616) (torn at_ : Int) :
    Calls Try.prog 12 #[.pointer (some ⟨B, 0, none⟩), .agg #[.int .u64 (keep : Int), .int .i64 torn, .int .i64 at_]] w fun e w' => e = .returned (.tuple #[]) ∧ PP n0 w' D R d B (refKillD r keep torn at_) (m + 1000) X o ∧ Below n0 w w' := by
  obtain ⟨pv, lv, wv, tv, h⟩ := h
  have ht := h.tears
  refine (refKill_any h.ref ok (by omega) (by omega) keep hk torn at_).mono ?_
  rintro e w' ⟨he, lv', wv', tv', a1, a2, a3, a4⟩
  exact ⟨he, h.stepR hn ⟨lv', wv', tv', a1, by omega, a3, a4⟩⟩
theorem pp_fuseD (h : PP n0 w D R d B r m X o) (hn : n0 ≤ w.heap.size) (n : Int) (hn2 : n ≤ 9223372036854775807) (keep : Nat) (hk : keep < 18446744073709551616) (torn at_ : Int) :
    Calls Try.prog 13 #[.pointer (some ⟨D, 0, none⟩), .int .i64 n, .agg #[.int .u64 (keep : Int), .int .i64 torn, .int .i64 at_]] w fun e w' => e = .returned (.tuple #[]) ∧ PP n0 w' D R (fuseD d n keep torn at_) B r m X o ∧ Below n0 w w' := by
  obtain ⟨pv, lv, wv, tv, h⟩ := h
  refine (fuse_any h.dev n hn2 keep hk torn at_).mono ?_
  rintro e w' ⟨he, k', o'⟩
  exact ⟨he, h.stepD hn k' (Fresh.refl _ _) (o'.mono (by simp [blocks]))⟩
theorem pp_fuseR (h : PP n0 w D R d B r m X o) (hn : n0 ≤ w.heap.size) (n : Int) (hn2 : n ≤ 9223372036854775807) (keep : Nat) (hk : keep < 18446744073709551616) (torn at_ : Int) :
    Calls Try.prog 14 #[.pointer (some ⟨B, 0, none⟩), .int .i64 n, .agg #[.int .u64 (keep : Int), .int .i64 torn, .int .i64 at_]] w fun e w' => e = .returned (.tuple #[]) ∧ PP n0 w' D R d B { r with calls := (max 0 n).toNat, keep := keep, torn := torn, at_ := at_ } (m + 1000) X o ∧ Below n0 w w' := by
  obtain ⟨pv, lv, wv, tv, h⟩ := h
  have ht := h.tears
  refine (refFuse_any h.ref n hn2 keep hk torn at_).mono ?_
  rintro e w' ⟨he, k', o'⟩
  exact ⟨he, h.stepR hn ⟨lv, wv, tv, k', by omega, FreshL.refl _ _, o'.mono (by simp [rblocks])⟩⟩
theorem pp_upD (h : PP n0 w D R d B r m X o) (hn : n0 ≤ w.heap.size) :
    Calls Try.prog 15 #[.pointer (some ⟨D, 0, none⟩)] w fun e w' => e = .returned (.tuple #[]) ∧ PP n0 w' D R { d with off := false, calls := 0, keep := 0, torn := 0, at_ := 0 } B r m X o ∧ Below n0 w w' := by
  obtain ⟨pv, lv, wv, tv, h⟩ := h
  refine (up_any h.dev).mono ?_
  rintro e w' ⟨he, k', o'⟩
  exact ⟨he, h.stepD hn k' (Fresh.refl _ _) (o'.mono (by simp [blocks]))⟩
theorem pp_upR (h : PP n0 w D R d B r m X o) (hn : n0 ≤ w.heap.size) :
    Calls Try.prog 16 #[.pointer (some ⟨B, 0, none⟩)] w fun e w' => e = .returned (.tuple #[]) ∧ PP n0 w' D R d B { r with off := false, calls := 0 } (m + 1000) X o ∧ Below n0 w w' := by
  obtain ⟨pv, lv, wv, tv, h⟩ := h
  have ht := h.tears
  refine (refUp_any h.ref).mono ?_
  rintro e w' ⟨he, k', o'⟩
  exact ⟨he, h.stepR hn ⟨lv, wv, tv, k', by omega, FreshL.refl _ _, o'.mono (by simp [rblocks])⟩⟩
theorem pp_fillD (h : PP n0 w D R d B r m X o) (hn : n0 ≤ w.heap.size) (l : List UInt8) :
    Calls Try.prog 17 #[.pointer (some ⟨D, 0, none⟩), .string (S l)] w fun e w' => e = .returned (.tuple #[]) ∧ PP n0 w' D R { d with dur := fillK l d.dur d.dur.length, pend := [] } B r m X o ∧ Below n0 w w' := by
  obtain ⟨pv, lv, wv, tv, h⟩ := h
  refine (fill_any h.dev l).mono ?_
  rintro e w' ⟨he, k', o'⟩
  exact ⟨he, h.stepD hn k' (Fresh.nil _ _) (o'.mono (by simp [blocks]))⟩
theorem pp_fillR (h : PP n0 w D R d B r m X o) (hn : n0 ≤ w.heap.size) (ok : DevOk r) (l : List UInt8) :
    Calls Try.prog 18 #[.pointer (some ⟨B, 0, none⟩), .string (S l)] w fun e w' => e = .returned (.tuple #[]) ∧ PP n0 w' D R d B { r with dur := fillK l r.dur r.dur.length, pend := [] } (m + 1000) X o ∧ Below n0 w w' := by
  obtain ⟨pv, lv, wv, tv, h⟩ := h
  have ht := h.tears
  refine (refFill_any h.ref ok l).mono ?_
  rintro e w' ⟨he, lv', wv', tv', a1, a2, a3, a4⟩
  exact ⟨he, h.stepR hn ⟨lv', wv', tv', a1, by omega, a3, a4⟩⟩
theorem pp_writeD (h : PP n0 w D R d B r m X o) (hn : n0 ≤ w.heap.size) (hm : d.pend.length ≤ 900) (i : Int) (l : List UInt8) :
    Calls Try.prog 19 #[.pointer (some ⟨D, 0, none⟩), .int .i64 i, .string (S l)] w fun e w' => e = .returned (.int .i64 (writeE d i l.length : Nat)) ∧ PP n0 w' D R (writeD d i l) B r m X o ∧ Below n0 w w' := by
  obtain ⟨pv, lv, wv, tv, h⟩ := h
  have := write_any h.dev (by omega) i (S l)
  rw [S_toList, S_size] at this
  refine this.mono ?_
  rintro e w' ⟨he, ⟨pv', k', f'⟩, o'⟩
  exact ⟨he, h.stepD hn k' f' o'⟩
theorem pp_writeR (h : PP n0 w D R d B r m X o) (hn : n0 ≤ w.heap.size) (ok : DevOk r) (hm : r.pend.length ≤ 900) (hm2 : m ≤ 100000) (i : Int) (l : List UInt8) :
    Calls Try.prog 21 #[.pointer (some ⟨B, 0, none⟩), .int .i64 i, .string (S l)] w fun e w' => e = .returned (.int .i64 (writeE r i l.length : Nat)) ∧ PP n0 w' D R d B (refWriteD r i l) (m + 1000) X o ∧ Below n0 w w' := by
  obtain ⟨pv, lv, wv, tv, h⟩ := h
  have ht := h.tears
  have := refWrite_any h.ref ok (by omega) (by omega) i (S l)
  rw [S_toList, S_size] at this
  refine this.mono ?_
  rintro e w' ⟨he, lv', wv', tv', a1, a2, a3, a4⟩
  exact ⟨he, h.stepR hn ⟨lv', wv', tv', a1, by omega, a3, a4⟩⟩

/-- What a read answers. -/
def readE (d : Dev) (i : Int) : List UInt8 := if refE d i = 0 then lastW d.pend (d.dur.getD i.toNat []) i.toNat d.pend.length else []
theorem ref0 {d : Dev} {i : Int} (h : refE d i = 0) : d.off = false ∧ 0 ≤ i ∧ i < (d.dur.length : Int) := by
  unfold refE at h
  cases ho : d.off with
  | true => rw [if_pos ho] at h; omega
  | false =>
    rw [if_neg (by simp [ho])] at h
    by_cases hh : i < 0 ∨ (d.dur.length : Int) ≤ i
    · rw [if_pos hh] at h; omega
    · exact ⟨rfl, by omega, by omega⟩
theorem pp_readD (h : PP n0 w D R d B r m X o) (hm : d.pend.length ≤ 900) (i : Int) :
    Calls Try.prog 7 #[.pointer (some ⟨D, 0, none⟩), .int .i64 i] w fun e w' => e = .returned (.tuple #[.string (S (readE d i)), .int .i64 (refE d i : Nat)]) ∧ PP n0 w' D R d B r m X o ∧ Below w.heap.size w w' := by
  obtain ⟨pv, lv, wv, tv, h⟩ := h
  by_cases hr : refE d i = 0
  · obtain ⟨h1, h2, h3⟩ := ref0 hr
    have e : readE d i = lastW d.pend (d.dur.getD i.toNat []) i.toNat d.pend.length := if_pos hr
    have := read_any h.dev (by omega) i.toNat (by rw [Int.toNat_of_nonneg h2]; exact hr) (by omega)
    rw [Int.toNat_of_nonneg h2] at this
    rw [e, hr]
    refine this.mono ?_
    rintro e w' ⟨he, b⟩
    exact ⟨he, ⟨pv, lv, wv, tv, h.below b⟩, b⟩
  · have e : readE d i = [] := if_neg hr
    rw [e]
    refine (read_no h.dev i hr).mono ?_
    rintro e w' ⟨he, b⟩
    exact ⟨he, ⟨pv, lv, wv, tv, h.below b⟩, b⟩
theorem pp_readR (h : PP n0 w D R d B r m X o) (hm : r.pend.length ≤ 900) (i : Int) :
    Calls Try.prog 8 #[.pointer (some ⟨B, 0, none⟩), .int .i64 i] w fun e w' => e = .returned (.tuple #[.string (S (readE r i)), .int .i64 (refE r i : Nat)]) ∧ PP n0 w' D R d B r m X o ∧ Below w.heap.size w w' := by
  obtain ⟨pv, lv, wv, tv, h⟩ := h
  by_cases hr : refE r i = 0
  · obtain ⟨h1, h2, h3⟩ := ref0 hr
    have e : readE r i = lastW r.pend (r.dur.getD i.toNat []) i.toNat r.pend.length := if_pos hr
    rw [e, hr]
    have hi := Int.toNat_of_nonneg h2
    obtain ⟨g1, c1, rfl⟩ : ∃ g cap, lv = .slice (some ⟨g, 0, none⟩) r.dur.length cap := by
      rcases own_form h.ref.lasts with ⟨_, h0⟩ | ⟨g, cap, h1⟩
      · omega
      · exact ⟨g, cap, h1⟩
    rcases own_form h.ref.waits with ⟨rfl, h0⟩ | ⟨g2, c2, rfl⟩
    · have hp : r.pend = [] := List.eq_nil_of_length_eq_zero h0
      have := refRead_none h.ref i.toNat h1 (by omega)
      rw [hi] at this
      rw [hp]
      refine this.mono ?_
      rintro e w' ⟨he, b⟩
      exact ⟨he, ⟨_, _, _, _, h.below b⟩, b⟩
    · have := refRead_some h.ref i.toNat (by omega) h1 (by omega)
      rw [hi] at this
      refine this.mono ?_
      rintro e w' ⟨he, b⟩
      exact ⟨he, ⟨_, _, _, _, h.below b⟩, b⟩
  · have e : readE r i = [] := if_neg hr
    rw [e]
    refine (refRead_no h.ref i hr).mono ?_
    rintro e w' ⟨he, rfl⟩
    exact ⟨he, ⟨pv, lv, wv, tv, h⟩, Below.refl _ _⟩
theorem same_read {d r : Dev} (h : Same d r) (i : Int) : readE r i = readE d i := by unfold readE; rw [h.refE, h.pend, h.dur]

theorem pp_off (h : PP n0 w D R d B r m X o) : Calls Try.prog 22 #[.pointer (some ⟨D, 0, none⟩)] w fun e w' => e = .returned (.bool d.off) ∧ w = w' := by
  obtain ⟨pv, lv, wv, tv, h⟩ := h
  exact off_any h.dev
theorem pp_waits (h : PP n0 w D R d B r m X o) : Calls Try.prog 23 #[.pointer (some ⟨D, 0, none⟩)] w fun e w' => e = .returned (.int .i64 (d.pend.length : Int)) ∧ w = w' := by
  obtain ⟨pv, lv, wv, tv, h⟩ := h
  exact waits_any h.dev
theorem pp_lastD (h : PP n0 w D R d B r m X o) : Calls Try.prog 24 #[.pointer (some ⟨D, 0, none⟩)] w fun e w' => e = .returned (.string (S d.dur.flatten)) ∧ Below w.heap.size w w' := by
  obtain ⟨pv, lv, wv, tv, h⟩ := h
  exact lasting_any h.dev
theorem pp_lastR (h : PP n0 w D R d B r m X o) (ok : DevOk r) : Calls Try.prog 25 #[.pointer (some ⟨B, 0, none⟩)] w fun e w' => e = .returned (.string (S r.dur.flatten)) ∧ Below w.heap.size w w' := by
  obtain ⟨pv, lv, wv, tv, h⟩ := h
  exact refLasting_any h.ref ok.dur ok.most
theorem PP.cells (h : PP n0 w D R d B r m X o) : w.cell? ⟨B, 2, none⟩ = some (.bool r.off) ∧ ∃ a c, w.cell? ⟨B, 1, none⟩ = some (.slice a r.pend.length c) := by
  obtain ⟨pv, lv, wv, tv, h⟩ := h
  obtain ⟨⟨a0, a1, a2, a3, a4, a5, a6, a7⟩, hff, hBl⟩ := h.ref.cells
  refine ⟨a2, ?_⟩
  rcases own_form h.ref.waits with ⟨rfl, h0⟩ | ⟨g2, c2, rfl⟩
  · exact ⟨none, 0, by rw [a1, h0]⟩
  · exact ⟨_, c2, a1⟩
theorem PP.ok (h : PP n0 w D R d B r m X o) (s : Same d r) : DevOk d ∧ DevOk r := by
  obtain ⟨pv, lv, wv, tv, h⟩ := h
  exact ⟨h.dev.ok, ok_ref h s.dur s.pend⟩

end Go.Proofs.Ytfmcbccmijcdgaa.Bk
