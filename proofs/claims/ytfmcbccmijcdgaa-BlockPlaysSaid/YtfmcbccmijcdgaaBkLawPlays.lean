/-
  BlockPlays' walk.
-/
import Derived.Test.YtfmcbccmijcdgaaBkPlays
import Derived.Deep.DeepCutAuto
import Derived.Deep.CutBlock
namespace Go.Proofs.Ytfmcbccmijcdgaa.Bk
open Go.RowKit

structure ActP where
  what : Int
  i : Int
  n : Int
  data : ByteArray
  keep : Nat
  torn : Int
  at_ : Int
/-- A row of calls among the arguments. -/
def ActsP (w : World) (a : Option Addr) (n : Nat) (T : Nat → ActP) : Prop :=
  ∀ i, i < n → (∃ b off, a = some ⟨b, off, none⟩ ∧ w.cell? ⟨b, off + i * 7, none⟩ = some (.int .i64 (T i).what) ∧ w.cell? ⟨b, off + i * 7 + 1, none⟩ = some (.int .i64 (T i).i) ∧ w.cell? ⟨b, off + i * 7 + 2, none⟩ = some (.int .i64 (T i).n) ∧
    w.cell? ⟨b, off + i * 7 + 3, none⟩ = some (.string (T i).data) ∧ w.cell? ⟨b, off + i * 7 + 4, none⟩ = some (.int .u64 ((T i).keep : Int)) ∧ w.cell? ⟨b, off + i * 7 + 5, none⟩ = some (.int .i64 (T i).torn) ∧
    w.cell? ⟨b, off + i * 7 + 6, none⟩ = some (.int .i64 (T i).at_) ∧ b < w.heap.size) ∧ (T i).keep < 18446744073709551616 ∧ (T i).n ≤ 9223372036854775807

set_option maxRecDepth 100000 in
theorem sectorP (s : ByteArray) (w : World) :
    Calls Try.prog 20 #[.string s] w fun e w' => e = .returned (.string (S (secT s.data.toList))) ∧ Below w.heap.size w w' := by
  by_cases h : 66 < s.size
  · have hl := list_size s
    have hi : (66 : Int) < (s.size : Int) := by omega
    have e : S (secT s.data.toList) = s := by unfold secT; rw [if_pos (by omega)]; exact S_list s
    rw [e]
    clear e hl
    go_enter Try.func20, Try.ntmps20
    go_wp2_with fail
    go_ret
    exact ⟨rfl, Below.refl _ _⟩
  · exact sector_any s (by omega) w

theorem PP.drew {n0 : Nat} {w : World} {D R : Nat} {d : Dev} {B : Nat} {r : Dev} {m X : Nat} {o : Obj} (h : PP n0 w D R d B r m X o) : PP n0 w.drew D R d B r m X o := by
  obtain ⟨pv, lv, wv, tv, h⟩ := h
  exact ⟨pv, lv, wv, tv, h.dev.later ((Onl.refl [] w).drew) (by simp), h.ref.later ((Onl.refl [] w).drew) (by simp), h.tears, h.apart, h.hi1, h.hi2, h.box, h.x1, h.x2⟩
theorem len_fuse (d : Dev) (n : Int) (keep : Nat) (torn at_ : Int) : (fuseD d n keep torn at_).pend.length ≤ d.pend.length := by unfold fuseD; split <;> exact Nat.le_refl _
/-- The two devices, without a box. -/
def PP0 (n0 : Nat) (w : World) (D R : Nat) (d : Dev) (B : Nat) (r : Dev) (m : Nat) : Prop := ∃ pv lv wv tv, DevAt w D R pv d ∧ RefAt w B lv wv tv r ∧ lenV tv ≤ m ∧ (∀ k, k ∈ blocks D R pv → k ∉ rblocks B lv wv tv) ∧ (∀ k, k ∈ blocks D R pv → n0 ≤ k) ∧ (∀ k, k ∈ rblocks B lv wv tv → n0 ≤ k)
theorem PP.forget {n0 : Nat} {w : World} {D R : Nat} {d : Dev} {B : Nat} {r : Dev} {m X : Nat} {o : Obj} (h : PP n0 w D R d B r m X o) : PP0 n0 w D R d B r m := by
  obtain ⟨pv, lv, wv, tv, h⟩ := h
  exact ⟨pv, lv, wv, tv, h.dev, h.ref, h.tears, h.apart, h.hi1, h.hi2⟩
theorem PP0.box {n0 : Nat} {w : World} {D R : Nat} {d : Dev} {B : Nat} {r : Dev} {m : Nat} (h : PP0 n0 w D R d B r m) (o : Obj) : PP n0 (w.alloc o) D R d B r m w.heap.size o := by
  obtain ⟨pv, lv, wv, tv, h1, h2, h3, h4, h5, h6⟩ := h
  exact ⟨pv, lv, wv, tv, h1.later ((Onl.refl [] w).alloc o) (by simp), h2.later ((Onl.refl [] w).alloc o) (by simp), h3, h4, h5, h6, heap_alloc_new w o, fun e => by have := h1.lt _ e; omega, fun e => by have := h2.lt _ e; omega⟩
theorem PP0.new {w1 w2 w3 : World} {n : Nat} (k : DevAt w2 (w1.heap.size + 1) w1.heap.size (.slice none 0 0) (newD n)) (b2 : Below w1.heap.size w1 w2) (h : NewR w2 n w3) :
    PP0 w1.heap.size w3 (w1.heap.size + 1) w1.heap.size (newD n) w2.heap.size (newD n) 0 ∧ Below w1.heap.size w1 w3 := by
  obtain ⟨lv, hr, hf, hb⟩ := h
  have h1 := b2.size
  have h2 := k.lt (w1.heap.size + 1) (mem_blocks.2 (.inl rfl))
  refine ⟨⟨_, lv, _, _, k.later (Onl.of_below hb []) (by simp), hr, by simp [lenV], ?_, ?_, ?_⟩, b2.trans (hb.mono h1)⟩
  · intro x hx hx2
    rcases mem_blocks.1 hx with e | e | e
    · rcases mem_rblocks.1 hx2 with e2 | e2 | e2 | e2
      · omega
      · have := hf x e2; omega
      · simp [Value.ownBlock] at e2
      · simp [Value.ownBlock] at e2
    · rcases mem_rblocks.1 hx2 with e2 | e2 | e2 | e2
      · omega
      · have := hf x e2; omega
      · simp [Value.ownBlock] at e2
      · simp [Value.ownBlock] at e2
    · simp [Value.ownBlock] at e
  · intro x hx
    rcases mem_blocks.1 hx with e | e | e
    · omega
    · omega
    · simp [Value.ownBlock] at e
  · intro x hx2
    rcases mem_rblocks.1 hx2 with e2 | e2 | e2 | e2
    · omega
    · have := hf x e2; omega
    · simp [Value.ownBlock] at e2
    · simp [Value.ownBlock] at e2

/-- Behind k calls. -/
def PlayR (n0 : Nat) (w0 : World) (D R B k : Nat) (wr : World) : Prop := ∃ d r, PP0 n0 wr D R d B r (1000 * k) ∧ Same d r ∧ d.pend.length ≤ k ∧ Below n0 w0 wr
def actO (t : ActP) : Obj := .cells #[.int .i64 t.what, .int .i64 t.i, .int .i64 t.n, .string t.data, .int .u64 (t.keep : Int), .int .i64 t.torn, .int .i64 t.at_] 32
/-- In the round of a call: the devices behind it; ok. -/
def PlayE (n0 : Nat) (w0 : World) (D R B k X : Nat) (t : ActP) (wr : World) : Prop := ∃ d r, PP n0 wr D R d B r (1000 * k) X (actO t) ∧ Same d r ∧ d.pend.length ≤ k ∧ Below n0 w0 wr

theorem PP.mono {n0 : Nat} {w : World} {D R : Nat} {d : Dev} {B : Nat} {r : Dev} {m m' X : Nat} {o : Obj} (h : PP n0 w D R d B r m X o) (hm : m ≤ m') : PP n0 w D R d B r m' X o := by
  obtain ⟨pv, lv, wv, tv, h⟩ := h
  exact ⟨pv, lv, wv, tv, h.dev, h.ref, by have := h.tears; omega, h.apart, h.hi1, h.hi2, h.box, h.x1, h.x2⟩
theorem PP.act {n0 : Nat} {w : World} {D R : Nat} {d : Dev} {B : Nat} {r : Dev} {m X : Nat} {t : ActP} (h : PP n0 w D R d B r m X (actO t)) :
    w.cell? ⟨X, 0, none⟩ = some (.int .i64 t.what) ∧ w.cell? ⟨X, 1, none⟩ = some (.int .i64 t.i) ∧ w.cell? ⟨X, 2, none⟩ = some (.int .i64 t.n) ∧ w.cell? ⟨X, 3, none⟩ = some (.string t.data) ∧
    w.cell? ⟨X, 4, none⟩ = some (.int .u64 (t.keep : Int)) ∧ w.cell? ⟨X, 5, none⟩ = some (.int .i64 t.torn) ∧ w.cell? ⟨X, 6, none⟩ = some (.int .i64 t.at_) := by
  obtain ⟨pv, lv, wv, tv, h⟩ := h
  have hb := h.box
  refine ⟨?_, ?_, ?_, ?_, ?_, ?_, ?_⟩ <;> exact (cell_of_row w X _ _ _ (0, 0) hb).trans rfl

set_option linter.unusedSimpArgs false
set_option maxRecDepth 100000 in
set_option maxHeartbeats 12800000 in
theorem BlockPlays_main (a : Option Addr) (len cap : Nat) (T : Nat → ActP) (sectors : Int) (w : World) (h : ActsP w a len T) :
    Calls Try.prog 3 #[.int .i64 sectors, .slice a len cap] w fun e w' => e = .returned (.bool true) ∧ Below w.heap.size w w' := by
  have H := Lib.hid h
  have hm4 : min sectors 30 ≤ 4096 := by omega
  clear h
  go_enter Try.func3, Try.ntmps3
  go_wp2_with fail
  refine (awake_any _).mono ?_
  rintro e w1 ⟨rfl, b1⟩
  have B1 := Lib.hid b1
  clear b1
  go_wp2_with fail
  refine (new_any (min sectors 30) w1).mono ?_
  rintro e w2 ⟨rfl, d2, b2⟩
  have D2 := Lib.hid d2
  have B2 := Lib.hid b2
  clear d2 b2
  go_wp2_with fail
  refine (refNew_any (min sectors 30) hm4 w2).mono ?_
  rintro e w3 ⟨rfl, hnr⟩
  have hpp := PP0.new D2.out B2.out hnr
  have P3 := Lib.hid hpp.1
  have B3 := Lib.hid (two B1.out hpp.2)
  have B3b := Lib.hid hpp.2
  have hs1 := B1.out.size
  have hs2 := hpp.2.size
  clear hnr hpp D2 B2 hm4
  go_wp2_with fail
  refine (awake_any _).mono ?_
  rintro e w4 ⟨rfl, b4⟩
  have P4 := Lib.hid (show PlayR w1.heap.size w1 (w1.heap.size + 1) w1.heap.size w2.heap.size 0 w4 from by
    obtain ⟨pv, lv, wv, tv, h1, h2, h3, h4, h5, h6⟩ := P3.out
    exact ⟨_, _, ⟨pv, lv, wv, tv, h1.later (Onl.of_below b4 []) (by simp), h2.later (Onl.of_below b4 []) (by simp), h3, h4, h5, h6⟩, same_new _, by simp [newD], B3b.out.trans (b4.mono hs2)⟩)
  have B4 := Lib.hid (B3.out.trans (b4.mono (by omega)))
  clear b4 P3
  by_cases hlen : 60 < len
  · have hl : (60 : Int) < (len : Int) := by omega
    go_wp2_with fail
    refine (awake_any _).mono ?_
    rintro e w5 ⟨rfl, b5⟩
    have B5 := Lib.hid (B4.out.trans (b5.mono B4.out.size))
    clear b5
    go_wp2_with fail
    go_ret
    exact ⟨rfl, B5.out⟩
  · have hl : ¬ (60 : Int) < (len : Int) := by omega
    go_wp2_with fail
    go_loopw [33] (fun i wr => ∃ k : Nat, k ≤ len ∧ i = .int .i64 k ∧ PlayR w1.heap.size w1 (w1.heap.size + 1) w1.heap.size w2.heap.size k wr) (fun i _ => len - (intOf i).toNat)
    case atStart => exact ⟨0, by omega, rfl, P4.out⟩
    case round =>
      obtain ⟨k, hkm, rfl, hr⟩ := hrel
      have HR := Lib.hid hr
      clear hr
      by_cases hlt : k < len
      · obtain ⟨⟨b, off, rfl, q0, q1, q2, q3, q4, q5, q6, hbl⟩, hkp, hnn⟩ := H.out k hlt
        have hmv : ∀ j v, w.cell? ⟨b, off + k * 7 + j, none⟩ = some v → wr.cell? ⟨b, off + k * 7 + j, none⟩ = some v := fun j v hv => by
          obtain ⟨d, r, h1, h2, h3, h4⟩ := HR.out
          exact (h4.cell (p := ⟨b, off + k * 7 + j, none⟩) (by show b < _; omega)).trans ((B1.out.cell (p := ⟨b, off + k * 7 + j, none⟩) hbl).trans hv)
        have r0 := hmv 0 _ q0
        have r1 := hmv 1 _ q1
        have r2 := hmv 2 _ q2
        have r3 := hmv 3 _ q3
        have r4 := hmv 4 _ q4
        have r5 := hmv 5 _ q5
        have r6 := hmv 6 _ q6
        rw [Nat.add_zero] at r0
        clear q0 q1 q2 q3 q4 q5 q6 hmv
        have HKP := Lib.hid hkp
        have HNN := Lib.hid hnn
        clear hkp hnn
        generalize T k = t at *
        obtain ⟨what, I, n', data, kp, tn, att⟩ := t
        simp only at r0 r1 r2 r3 r4 r5 r6
        have HP := Lib.hid (show PlayE w1.heap.size w1 (w1.heap.size + 1) w1.heap.size w2.heap.size k wr.heap.size ⟨what, I, n', data, kp, tn, att⟩ (wr.alloc (actO ⟨what, I, n', data, kp, tn, att⟩)) from by
          obtain ⟨d, r, h1, h2, h3, h4⟩ := HR.out
          exact ⟨d, r, h1.box _, h2, h3, h4.alloc h4.size _⟩)
        go_upto_block 2 with (fail)
        have hdf : (.cells #[.int .i64 what, .int .i64 I, .int .i64 n', .string data, .int .u64 (kp : Int), .int .i64 tn, .int .i64 att] 32 : Obj) = actO ⟨what, I, n', data, kp, tn, att⟩ := rfl
        rw [hdf]
        clear hdf r0 r1 r2 r3 r4 r5 r6
        generalize wr.alloc (actO ⟨what, I, n', data, kp, tn, att⟩) = W at *
        generalize wr.heap.size = X at *
        generalize hD : w1.heap.size + 1 = D at *
        generalize hB0 : w2.heap.size = B at *
        generalize hN0 : w1.heap.size = N0 at *
        have HD0 := Lib.hid hD
        have HB0 := Lib.hid hB0
        clear hD hB0
        have hq : -8 ≤ what.tmod 9 ∧ what.tmod 9 ≤ 8 := by
          have h1 := Int.tmod_lt_of_pos what (show (0 : Int) < 9 by omega)
          have h2 := Int.lt_tmod_of_pos what (show (0 : Int) < 9 by omega)
          omega
        generalize what.tmod 9 = q at *
        go_cut [9, 10, 11, 12, 13, 14] (fun s9 _ _ _ _ _ wx => s9 = .bool true ∧ PlayE N0 w1 D N0 B (k + 1) X ⟨what, I, n', data, kp, tn, att⟩ wx)
        case first =>
          obtain ⟨d, r, p0, s0, l0, bb0⟩ := HP.out
          have hs0 := bb0.size
          rw [hN0] at hs0
          have P0 := Lib.hid p0
          have S0 := Lib.hid s0
          have BB0 := Lib.hid bb0
          obtain ⟨okd, okr⟩ := p0.ok s0
          have OKR := Lib.hid okr
          have hk60 : k < 60 := by omega
          obtain ⟨x0, x1, x2, x3, x4, x5, x6⟩ := p0.act
          simp only at x0 x1 x2 x3 x4 x5 x6
          have hpl : d.pend.length ≤ 900 := by omega
          have hplr : r.pend.length ≤ 900 := by rw [s0.pend]; exact hpl
          have HPL := Lib.hid hpl
          have HPLR := Lib.hid hplr
          clear p0 s0 bb0 okd okr hpl hplr HR P4 B4 B3 B3b x0
          by_cases hc1 : q = 1 ∨ q = -1
          · rcases hc1 with rfl | rfl
            all_goals
              have hcd := pp_readD P0.out HPL.out I
              have HCD := Lib.hid hcd
              clear hcd
              go_wp2_with fail
              refine HCD.out.mono ?_
              rintro e w5 ⟨rfl, p5, b5⟩
              obtain ⟨-, y1, -⟩ := p5.act
              simp only at y1
              have hcr := pp_readR p5 HPLR.out I
              rw [same_read S0.out, S0.out.refE] at hcr
              have HCR := Lib.hid hcr
              have B5 := Lib.hid (BB0.out.trans (b5.mono (by omega)))
              clear p5 b5 hcr x1 x2 x3 x4 x5 x6
              generalize S (readE d I) = sv at *
              generalize refE d I = er at *
              go_wp2_with fail
              refine HCR.out.mono ?_
              rintro e w6 ⟨rfl, p6, b6⟩
              have HE := Lib.hid (show PlayE N0 w1 D N0 B (k + 1) X ⟨what, I, n', data, kp, tn, att⟩ w6 from ⟨d, r, p6.mono (by omega), S0.out, by omega, B5.out.trans (b6.mono (by have := B5.out.size; omega))⟩)
              clear p6 b6 y1
              go_wp2_with fail
              go_meet
              exact ⟨rfl, HE.out⟩
          by_cases hc2 : q = 2 ∨ q = -2 ∨ q = 3 ∨ q = -3
          · rcases hc2 with rfl | rfl | rfl | rfl
            all_goals
              have hcd := pp_flushD P0.out hs0 HPL.out
              have HCD := Lib.hid hcd
              clear hcd
              go_wp2_with fail
              refine HCD.out.mono ?_
              rintro e w5 ⟨rfl, p5, b5⟩
              obtain ⟨-, y1, y2, y3, y4, y5, y6⟩ := p5.act
              simp only at y1 y2 y3 y4 y5 y6
              have B5 := Lib.hid (BB0.out.trans b5)
              have hs5 := B5.out.size
              rw [hN0] at hs5
              have hcr := pp_flushR p5 hs5 OKR.out HPLR.out (by omega)
              rw [(same_flush S0.out).1] at hcr
              have HCR := Lib.hid hcr
              clear p5 b5 hcr x1 x2 x3 x4 x5 x6
              generalize flushE d = er at *
              go_wp2_with fail
              refine HCR.out.mono ?_
              rintro e w6 ⟨rfl, p6, b6⟩
              have HE := Lib.hid (show PlayE N0 w1 D N0 B (k + 1) X ⟨what, I, n', data, kp, tn, att⟩ w6 from ⟨_, _, p6.mono (by omega), (same_flush S0.out).2, Nat.le_trans (len_flush d) (by omega), B5.out.trans b6⟩)
              clear p6 b6 y1 y2 y3 y4 y5 y6
              go_wp2_with fail
              go_meet
              exact ⟨rfl, HE.out⟩
          by_cases hc4 : q = 4 ∨ q = -4
          · rcases hc4 with rfl | rfl
            all_goals
              have hcd := pp_killD P0.out hs0 HPL.out kp HKP.out tn att
              have HCD := Lib.hid hcd
              clear hcd
              go_wp2_with fail
              refine HCD.out.mono ?_
              rintro e w5 ⟨rfl, p5, b5⟩
              obtain ⟨-, y1, y2, y3, y4, y5, y6⟩ := p5.act
              simp only at y1 y2 y3 y4 y5 y6
              have B5 := Lib.hid (BB0.out.trans b5)
              have hs5 := B5.out.size
              rw [hN0] at hs5
              have hcr := pp_killR p5 hs5 OKR.out HPLR.out (by omega) kp HKP.out tn att
              have HCR := Lib.hid hcr
              clear p5 b5 hcr x1 x2 x3 x4 x5 x6
              go_wp2_with fail
              refine HCR.out.mono ?_
              rintro e w6 ⟨rfl, p6, b6⟩
              have HE := Lib.hid (show PlayE N0 w1 D N0 B (k + 1) X ⟨what, I, n', data, kp, tn, att⟩ w6 from ⟨_, _, p6.mono (by omega), same_kill S0.out kp tn att, by show 0 ≤ _; omega, B5.out.trans b6⟩)
              clear p6 b6 y1 y2 y3 y4 y5 y6
              go_wp2_with fail
              go_meet
              exact ⟨rfl, HE.out⟩
          by_cases hc5 : q = 5 ∨ q = -5
          · rcases hc5 with rfl | rfl
            all_goals
              have hcd := pp_fuseD P0.out hs0 n' HNN.out kp HKP.out tn att
              have HCD := Lib.hid hcd
              clear hcd
              go_wp2_with fail
              refine HCD.out.mono ?_
              rintro e w5 ⟨rfl, p5, b5⟩
              obtain ⟨-, y1, y2, y3, y4, y5, y6⟩ := p5.act
              simp only at y1 y2 y3 y4 y5 y6
              have B5 := Lib.hid (BB0.out.trans b5)
              have hs5 := B5.out.size
              rw [hN0] at hs5
              have hcr := pp_fuseR p5 hs5 n' HNN.out kp HKP.out tn att
              have HCR := Lib.hid hcr
              clear p5 b5 hcr x1 x2 x3 x4 x5 x6
              go_wp2_with fail
              refine HCR.out.mono ?_
              rintro e w6 ⟨rfl, p6, b6⟩
              have HE := Lib.hid (show PlayE N0 w1 D N0 B (k + 1) X ⟨what, I, n', data, kp, tn, att⟩ w6 from ⟨_, _, p6.mono (by omega), same_fuse S0.out n' kp tn att, Nat.le_trans (len_fuse d n' kp tn att) (by omega), B5.out.trans b6⟩)
              clear p6 b6 y1 y2 y3 y4 y5 y6
              go_wp2_with fail
              go_meet
              exact ⟨rfl, HE.out⟩
          by_cases hc6 : q = 6 ∨ q = -6
          · rcases hc6 with rfl | rfl
            all_goals
              have hcd := pp_upD P0.out hs0
              have HCD := Lib.hid hcd
              clear hcd
              go_wp2_with fail
              refine HCD.out.mono ?_
              rintro e w5 ⟨rfl, p5, b5⟩
              obtain ⟨-, y1, y2, y3, y4, y5, y6⟩ := p5.act
              simp only at y1 y2 y3 y4 y5 y6
              have B5 := Lib.hid (BB0.out.trans b5)
              have hs5 := B5.out.size
              rw [hN0] at hs5
              have hcr := pp_upR p5 hs5
              have HCR := Lib.hid hcr
              clear p5 b5 hcr x1 x2 x3 x4 x5 x6
              go_wp2_with fail
              refine HCR.out.mono ?_
              rintro e w6 ⟨rfl, p6, b6⟩
              have HE := Lib.hid (show PlayE N0 w1 D N0 B (k + 1) X ⟨what, I, n', data, kp, tn, att⟩ w6 from ⟨_, _, p6.mono (by omega), same_up S0.out, by show d.pend.length ≤ _; omega, B5.out.trans b6⟩)
              clear p6 b6 y1 y2 y3 y4 y5 y6
              go_wp2_with fail
              go_meet
              exact ⟨rfl, HE.out⟩
          by_cases hc7 : q = 7 ∨ q = -7
          · rcases hc7 with rfl | rfl
            all_goals
              have hdl := list_size data
              have hmin : min (data.size : Int) 2000 = ((min data.size 2000 : Nat) : Int) := by omega
              have hex : data.extract 0 (min data.size 2000) = S (data.data.toList.take 2000) := by
                rw [S_extract, List.drop_zero, Nat.sub_zero]
                congr 1
                rw [List.take_eq_take_iff]; omega
              have hmle : min data.size 2000 ≤ data.size := Nat.min_le_left _ _
              have hmi : ((min data.size 2000 : Nat) : Int) ≤ (data.size : Int) := by omega
              have hcd := pp_fillD P0.out hs0 (data.data.toList.take 2000)
              have HCD := Lib.hid hcd
              clear hcd hdl
              generalize min data.size 2000 = mm at *
              go_wp2_with fail
              refine HCD.out.mono ?_
              rintro e w5 ⟨rfl, p5, b5⟩
              obtain ⟨-, y1, y2, y3, y4, y5, y6⟩ := p5.act
              simp only at y1 y2 y3 y4 y5 y6
              have B5 := Lib.hid (BB0.out.trans b5)
              have hs5 := B5.out.size
              rw [hN0] at hs5
              have hcr := pp_fillR p5 hs5 OKR.out (data.data.toList.take 2000)
              have HCR := Lib.hid hcr
              clear p5 b5 hcr x1 x2 x3 x4 x5 x6
              go_wp2_with fail
              refine HCR.out.mono ?_
              rintro e w6 ⟨rfl, p6, b6⟩
              have HE := Lib.hid (show PlayE N0 w1 D N0 B (k + 1) X ⟨what, I, n', data, kp, tn, att⟩ w6 from ⟨_, _, p6.mono (by omega), same_fill S0.out _, by show 0 ≤ _; omega, B5.out.trans b6⟩)
              clear p6 b6 y1 y2 y3 y4 y5 y6
              go_wp2_with fail
              go_meet
              exact ⟨rfl, HE.out⟩
          have c1 : (q == 1) = false := by simp; omega
          have c2 : (q == -1) = false := by simp; omega
          have c3 : (q == 2) = false := by simp; omega
          have c4 : (q == -2) = false := by simp; omega
          have c5 : (q == 3) = false := by simp; omega
          have c6 : (q == -3) = false := by simp; omega
          have c7 : (q == 4) = false := by simp; omega
          have c8 : (q == -4) = false := by simp; omega
          have c9 : (q == 5) = false := by simp; omega
          have c10 : (q == -5) = false := by simp; omega
          have c11 : (q == 6) = false := by simp; omega
          have c12 : (q == -6) = false := by simp; omega
          have c13 : (q == 7) = false := by simp; omega
          have c14 : (q == -7) = false := by simp; omega
          clear hc1 hc2 hc4 hc5 hc6 hc7 hq
          have hsec := sectorP data
          have hwe := (same_write S0.out I (secT data.data.toList)).1
          generalize hsx : secT data.data.toList = sx at *
          have BB0d := Lib.hid (show Below N0 w1 W.drew from by have h := BB0.out; exact ⟨h.os, h.tape, h.output, h.size, h.block⟩)
          have HSEC := Lib.hid hsec
          have HWE := Lib.hid hwe
          clear hsec hwe hsx
          go_wp2_with fail
          have hcc : ∀ w7, PP N0 w7 D N0 d B r (1000 * k) X (actO ⟨what, I, n', data, kp, tn, att⟩) → True := fun _ _ => trivial
          have hw0 : W.drew.cell? ⟨X, 1, none⟩ = some (.int .i64 I) ∧ W.drew.cell? ⟨X, 3, none⟩ = some (.string data) := ⟨x1, x3⟩
          have P0' := Lib.hid P0.out.drew
          clear hcc
          go_region_held3 (fun w' => w'.cell? ⟨X, 1, none⟩ = some (.int .i64 I) ∧ w'.cell? ⟨X, 3, none⟩ = some (.string data))
            (first | assumption | exact hw0)
            (first
              | (go_at_call 20; refine (HSEC.out _).mono ?_; rintro e w7 ⟨rfl, b7⟩
                 have P7 := Lib.hid (P6.out.below b7); have B7 := Lib.hid (B6.out.trans (b7.mono (by have := B6.out.size; omega)))
                 have hc7 : w7.cell? ⟨X, 1, none⟩ = some (.int .i64 I) ∧ w7.cell? ⟨X, 3, none⟩ = some (.string data) := ⟨P7.out.act.2.1, P7.out.act.2.2.2.1⟩
                 clear b7)
              | (go_at_call 20; refine (HSEC.out _).mono ?_; rintro e w5 ⟨rfl, b5⟩
                 have P5 := Lib.hid (P0'.out.below b5); have B5 := Lib.hid (BB0d.out.trans (b5.mono (by exact hs0)))
                 have hc5 : w5.cell? ⟨X, 1, none⟩ = some (.int .i64 I) ∧ w5.cell? ⟨X, 3, none⟩ = some (.string data) := ⟨P5.out.act.2.1, P5.out.act.2.2.2.1⟩
                 clear b5)
              | (go_at_call 21; refine (pp_writeR P7.out (hN0 ▸ B7.out.size) OKR.out HPLR.out (by omega) I sx).mono ?_; rintro e w8 ⟨rfl, p8, b8⟩
                 have P8 := Lib.hid p8; have B8 := Lib.hid (B7.out.trans b8)
                 have hc8 : w8.cell? ⟨X, 1, none⟩ = some (.int .i64 I) ∧ w8.cell? ⟨X, 3, none⟩ = some (.string data) := ⟨P8.out.act.2.1, P8.out.act.2.2.2.1⟩
                 clear p8 b8)
              | (go_at_call 19; refine (pp_writeD P5.out (hN0 ▸ B5.out.size) HPL.out I sx).mono ?_; rintro e w6 ⟨rfl, p6, b6⟩
                 have P6 := Lib.hid p6; have B6 := Lib.hid (B5.out.trans b6)
                 have hc6 : w6.cell? ⟨X, 1, none⟩ = some (.int .i64 I) ∧ w6.cell? ⟨X, 3, none⟩ = some (.string data) := ⟨P6.out.act.2.1, P6.out.act.2.2.2.1⟩
                 clear p6 b6))
          have HE := Lib.hid (show PlayE N0 w1 D N0 B (k + 1) X ⟨what, I, n', data, kp, tn, att⟩ w8 from ⟨_, _, P8.out.mono (by omega), (same_write S0.out I sx).2, Nat.le_trans (len_write d I sx) (by omega), B8.out⟩)
          rw [HWE.out]
          generalize writeE d I sx.length = er at *
          go_wp2_with fail
          go_meet
          exact ⟨by simp, HE.out⟩
        case rest =>
          obtain ⟨rfl, he⟩ := hcut
          obtain ⟨d, r, p0, s0, l0, bb0⟩ := he
          have p1 := p0.drew
          obtain ⟨okd, okr⟩ := p0.ok s0
          obtain ⟨hb2, a1, c1, hb1⟩ := p1.cells
          obtain ⟨hb2', a1', c1', hb1'⟩ := p0.cells
          have ho := pp_off p1
          have hw := pp_waits p1
          have hld := pp_lastD p1
          have hlr : ∀ w7, Below wc.drew.heap.size wc.drew w7 → _ := fun w7 b7 => pp_lastR (p1.below b7) okr
          rw [s0.dur] at hlr
          rw [s0.off] at hb2
          rw [s0.pend] at hb1
          have hkeep : ∀ w7, Below wc.drew.heap.size wc.drew w7 → w7.cell? ⟨B, 2, none⟩ = some (.bool d.off) ∧ w7.cell? ⟨B, 1, none⟩ = some (.slice a1 d.pend.length c1) := fun w7 b7 =>
            ⟨(b7.cell (p := ⟨B, 2, none⟩) (World.block_lt_of_cell? _ _ hb2)).trans hb2, (b7.cell (p := ⟨B, 1, none⟩) (World.block_lt_of_cell? _ _ hb1)).trans hb1⟩
          have hfin : ∀ w7 w8, Below wc.drew.heap.size wc.drew w7 → Below w7.heap.size w7 w8 → PlayR w1.heap.size w1 (w1.heap.size + 1) w1.heap.size w2.heap.size (k + 1) w8 := fun w7 w8 b7 b8 => by
            rw [hN0, HD0.out, HB0.out]
            have b9 := two b7 b8
            refine ⟨d, r, (p1.below b9).forget, s0, l0, ?_⟩
            have h1 : Below N0 w1 wc.drew := ⟨bb0.os, bb0.tape, bb0.output, bb0.size, bb0.block⟩
            exact h1.trans (b9.mono (by have := bb0.size; rw [hN0] at this; exact this))
          have HO := Lib.hid ho
          have HW := Lib.hid hw
          have HLD := Lib.hid hld
          have HLR := Lib.hid hlr
          have HKEEP := Lib.hid hkeep
          have HFIN := Lib.hid hfin
          clear p0 p1 s0 bb0 okd okr ho hw hld hlr hkeep hfin hb2' hb1' HP l0 hq
          generalize d.off = vo at *
          generalize d.pend.length = pl at *
          generalize S d.dur.flatten = fl at *
          go_wp2_with fail
          go_region_held3 (fun w' => w'.cell? ⟨B, 2, none⟩ = some (.bool vo) ∧ w'.cell? ⟨B, 1, none⟩ = some (.slice a1 pl c1))
            (first | assumption | exact ⟨hb2, hb1⟩ | exact HK7.out | exact HK8.out)
            (first
              | (go_at_call 22; refine HO.out.mono ?_; rintro e w5 ⟨rfl, rfl⟩)
              | (go_at_call 23; refine HW.out.mono ?_; rintro e w6 ⟨rfl, rfl⟩)
              | (go_at_call 25; refine (HLR.out _ B7.out).mono ?_; rintro e w8 ⟨rfl, b8⟩
                 have B8 := Lib.hid b8; have HK8 := Lib.hid (HKEEP.out _ (two B7.out b8)); clear b8)
              | (go_at_call 24; refine HLD.out.mono ?_; rintro e w7 ⟨rfl, b7⟩
                 have B7 := Lib.hid b7; have HK7 := Lib.hid (HKEEP.out _ b7); clear b7))
          have HF := Lib.hid (HFIN.out _ _ B7.out B8.out)
          have e1 := HD0.out
          have e2 := HB0.out
          subst e1 e2 hN0
          go_wp2_with fail
          go_roundw
          case rel => exact ⟨k + 1, by omega, by go_num, HF.out⟩
          case measure => simp [intOf]; omega
      · obtain rfl : k = len := by omega
        have HB := Lib.hid (show Below w1.heap.size w1 wr from by obtain ⟨d, r, h1, h2, h3, h4⟩ := HR.out; exact h4)
        go_wp2_with fail
        go_ret
        exact ⟨rfl, B1.out.trans (HB.out.mono B1.out.size)⟩

end Go.Proofs.Ytfmcbccmijcdgaa.Bk
