/-
  BlockFuses' walk.
-/
import Derived.Test.YtndnfalkpkbpjaaBkFuses
namespace Go.Proofs.Ytndnfalkpkbpjaa.Bk
open Go.RowKit

structure ActT where
  what : Int
  i : Int
  n : Int
  data : ByteArray
  keep : Nat
  torn : Int
  at_ : Int
/-- A row of calls among the arguments. -/
def Acts (w : World) (a : Option Addr) (n : Nat) (T : Nat → ActT) : Prop :=
  ∀ i, i < n → ∃ b off, a = some ⟨b, off, none⟩ ∧ w.cell? ⟨b, off + i * 7, none⟩ = some (.int .i64 (T i).what) ∧ w.cell? ⟨b, off + i * 7 + 1, none⟩ = some (.int .i64 (T i).i) ∧ w.cell? ⟨b, off + i * 7 + 2, none⟩ = some (.int .i64 (T i).n) ∧
    w.cell? ⟨b, off + i * 7 + 3, none⟩ = some (.string (T i).data) ∧ w.cell? ⟨b, off + i * 7 + 4, none⟩ = some (.int .u64 ((T i).keep : Int)) ∧ w.cell? ⟨b, off + i * 7 + 5, none⟩ = some (.int .i64 (T i).torn) ∧
    w.cell? ⟨b, off + i * 7 + 6, none⟩ = some (.int .i64 (T i).at_) ∧ b < w.heap.size

set_option maxRecDepth 100000 in
theorem sector_all (s : ByteArray) (w : World) :
    Calls Try.prog 24 #[.string s] w fun e w' => e = .returned (.string (S (secT s.data.toList))) ∧ Below w.heap.size w w' := by
  by_cases h : 66 < s.size
  · have hl := list_size s
    have hi : (66 : Int) < (s.size : Int) := by omega
    have e : S (secT s.data.toList) = s := by unfold secT; rw [if_pos (by omega)]; exact S_list s
    rw [e]
    clear e hl
    go_enter Try.func24, Try.ntmps24
    go_wp2_with fail
    go_ret
    exact ⟨rfl, Below.refl _ _⟩
  · exact sector_any s (by omega) w

theorem two_flush {n0 : Nat} {w : World} {D1 R1 D2 R2 : Nat} {pv1 pv2 : Value} {d1 d2 : Dev} (h : Two n0 w D1 R1 pv1 d1 D2 R2 pv2 d2) (hn : n0 ≤ w.heap.size) (hm : d1.pend.length ≤ 900) :
    Calls Try.prog 13 #[.pointer (some ⟨D1, 0, none⟩)] w fun e w' =>
      e = .returned (.int .i64 (opE .flush d1 : Nat)) ∧ (∃ pv', Two n0 w' D1 R1 pv' (opD .flush d1) D2 R2 pv2 d2) ∧ Below n0 w w' := by
  refine (flush_any h.one (by omega)).mono ?_
  rintro e w' ⟨he, ⟨pv', k', f'⟩, o'⟩
  have f2 : Fresh w pv1 pv' := by
    rcases f' with rfl | rfl
    · exact Fresh.refl _ _
    · exact Fresh.nil _ _
  have o2 := o'.mono (B' := blocks D1 R1 pv1) (by simp [blocks])
  exact ⟨he, ⟨pv', h.first hn k' f2 o2⟩, h.below hn o2⟩
theorem two_write {n0 : Nat} {w : World} {D1 R1 D2 R2 : Nat} {pv1 pv2 : Value} {d1 d2 : Dev} (h : Two n0 w D1 R1 pv1 d1 D2 R2 pv2 d2) (hn : n0 ≤ w.heap.size) (hm : d1.pend.length ≤ 900) (i : Int) (l : List UInt8) :
    Calls Try.prog 23 #[.pointer (some ⟨D1, 0, none⟩), .int .i64 i, .string (S l)] w fun e w' =>
      e = .returned (.int .i64 (opE (.write i l) d1 : Nat)) ∧ (∃ pv', Two n0 w' D1 R1 pv' (opD (.write i l) d1) D2 R2 pv2 d2) ∧ Below n0 w w' ∧ (∀ B, B < w.heap.size → B ∉ blocks D1 R1 pv1 → w'.heap[B]? = w.heap[B]?) := by
  have := write_any h.one (by omega) i (S l)
  rw [S_toList, S_size] at this
  refine this.mono ?_
  rintro e w' ⟨he, ⟨pv', k', f'⟩, o'⟩
  exact ⟨he, ⟨pv', h.first hn k' f' o'⟩, h.below hn o', fun B hB hb => o'.block B hB hb⟩

theorem fuse_n (n : Int) : ∃ N : Nat, wrap64 (1 + wrap64 ((IntKind.u64.wrap n).tmod 40)) = (N : Int) ∧ 1 ≤ N ∧ N ≤ 40 := by
  have h0 : 0 ≤ IntKind.u64.wrap n := by rw [IntKind.wrap_u64]; omega
  generalize IntKind.u64.wrap n = m at *
  rw [Int.tmod_eq_emod_of_nonneg h0]
  have e1 : wrap64 (m % 40) = m % 40 := by unfold wrap64; omega
  rw [e1]
  have e2 : wrap64 (1 + m % 40) = 1 + m % 40 := by unfold wrap64; omega
  rw [e2]
  exact ⟨(1 + m % 40).toNat, by omega, by omega, by omega⟩
theorem two_fuse {n0 : Nat} {w : World} {D1 R1 D2 R2 : Nat} {pv1 pv2 : Value} {d1 d2 : Dev} (h : Two n0 w D1 R1 pv1 d1 D2 R2 pv2 d2) (hn : n0 ≤ w.heap.size) (N : Nat) (hN : N ≤ 40) (keep : Nat) (hk : keep < 18446744073709551616) (torn at_ : Int) :
    Calls Try.prog 17 #[.pointer (some ⟨D2, 0, none⟩), .int .i64 (N : Int), .agg #[.int .u64 (keep : Int), .int .i64 torn, .int .i64 at_]] w fun e w' =>
      e = .returned (.tuple #[]) ∧ Two n0 w' D1 R1 pv1 d1 D2 R2 pv2 (fuseD d2 N keep torn at_) ∧ Below n0 w w' := by
  refine (fuse_any h.two (N : Int) (by omega) keep hk torn at_).mono ?_
  rintro e w' ⟨he, k', o'⟩
  have o2 := o'.mono (B' := blocks D2 R2 pv2) (by simp [blocks])
  exact ⟨he, (h.swap.first hn k' (Fresh.refl _ _) o2).swap, h.swap.below hn o2⟩
theorem two_up {n0 : Nat} {w : World} {D1 R1 D2 R2 : Nat} {pv1 pv2 : Value} {d1 d2 : Dev} (h : Two n0 w D1 R1 pv1 d1 D2 R2 pv2 d2) (hn : n0 ≤ w.heap.size) :
    Calls Try.prog 19 #[.pointer (some ⟨D2, 0, none⟩)] w fun e w' =>
      e = .returned (.tuple #[]) ∧ (∃ d3, DevAt w' D2 R2 pv2 d3 ∧ d3.off = false ∧ d3.dur.length = d2.dur.length ∧ d3.pend.length = d2.pend.length) ∧ Below n0 w w' := by
  refine (up_any h.two).mono ?_
  rintro e w' ⟨he, k', o'⟩
  have o2 := o'.mono (B' := blocks D2 R2 pv2) (by simp [blocks])
  exact ⟨he, ⟨_, k', rfl, rfl, rfl⟩, h.swap.below hn o2⟩

set_option maxRecDepth 100000 in
set_option maxHeartbeats 3200000 in
theorem BlockFuses_main (a : Option Addr) (len cap : Nat) (T : Nat → ActT) (n : Int) (keep : Nat) (torn at_ : Int) (hk : keep < 18446744073709551616) (w : World) (h : Acts w a len T) :
    Calls Try.prog 7 #[.slice a len cap, .int .i64 n, .agg #[.int .u64 (keep : Int), .int .i64 torn, .int .i64 at_]] w fun e w' => e = .returned (.bool true) ∧ Below w.heap.size w w' := by
  have B0 := Lib.hid ((Below.refl w.heap.size w).alloc (Nat.le_refl _) (.cells #[.int .u64 (keep : Int), .int .i64 torn, .int .i64 at_] 30))
  have hbox := heap_alloc_new w (.cells #[.int .u64 (keep : Int), .int .i64 torn, .int .i64 at_] 30)
  have hs0 : (w.alloc (.cells #[.int .u64 (keep : Int), .int .i64 torn, .int .i64 at_] 30)).heap.size = w.heap.size + 1 := by simp
  have HBOX := Lib.hid hbox
  have HK := Lib.hid hk
  have H := Lib.hid h
  clear hbox hk h
  obtain ⟨N, hN, hN1, hN2⟩ := fuse_n n
  go_enter Try.func7, Try.ntmps7
  go_wp2_with fail
  generalize (w.alloc (.cells #[.int .u64 (keep : Int), .int .i64 torn, .int .i64 at_] 30)) = W0 at *
  refine (awake_any _).mono ?_
  rintro e w1 ⟨rfl, b1⟩
  have B1 := Lib.hid b1
  clear b1
  go_wp2_with fail
  have hnw := new_any 4 w1
  rw [show newN 4 = 4 from rfl] at hnw
  refine hnw.mono ?_
  clear hnw
  rintro e w2 ⟨rfl, d2, b2⟩
  have D2 := Lib.hid d2
  have B2 := Lib.hid b2
  clear d2 b2
  go_wp2_with fail
  have hnw := new_any 4 w2
  rw [show newN 4 = 4 from rfl] at hnw
  refine hnw.mono ?_
  clear hnw
  rintro e w3 ⟨rfl, d3, b3⟩
  have hbb := two B1.out (two B2.out b3)
  have ht := Two.new D2.out B2.out d3 b3
  have hs1 := B1.out.size
  have T3 := Lib.hid (show Two W0.heap.size w3 _ _ _ _ _ _ _ _ from ⟨ht.one, ht.two, ht.apart, fun k hk => by have := ht.hi1 k hk; omega, fun k hk => by have := ht.hi2 k hk; omega⟩)
  have B3 := Lib.hid hbb
  clear d3 b3 hbb ht D2 B2 B1 hs1
  generalize w1.heap.size + 1 = D1 at *
  generalize w1.heap.size = R1 at *
  generalize w2.heap.size + 1 = D2 at *
  generalize w2.heap.size = R2 at *
  have hx3 := (B3.out.block w.heap.size (by omega)).trans HBOX.out
  have x0 : w3.cell? ⟨w.heap.size, 0, none⟩ = some (.int .u64 (keep : Int)) := (cell_of_row w3 _ _ _ _ (0, 0) hx3).trans rfl
  have x1 : w3.cell? ⟨w.heap.size, 1, none⟩ = some (.int .i64 torn) := (cell_of_row w3 _ _ _ _ (0, 0) hx3).trans rfl
  have x2 : w3.cell? ⟨w.heap.size, 2, none⟩ = some (.int .i64 at_) := (cell_of_row w3 _ _ _ _ (0, 0) hx3).trans rfl
  clear hx3
  go_wp2_with fail
  refine (two_fuse T3.out B3.out.size N hN2 keep HK.out torn at_).mono ?_
  rintro e w4 ⟨rfl, t4, b4⟩
  have hfd : fuseD (newD 4) (N : Int) keep torn at_ = ⟨List.replicate 4 Z64, [], N, keep, torn, at_, false⟩ := by unfold fuseD; rw [if_pos (by omega)]; simp [newD]
  rw [hfd] at t4
  have T4 := Lib.hid t4
  have B4 := Lib.hid (B3.out.trans b4)
  have hst : St N keep torn at_ 0 0 (newD 4) ⟨List.replicate 4 Z64, [], N, keep, torn, at_, false⟩ := ⟨List.replicate 4 Z64, [], rfl, by simp, by simp, by simp, by simp, .inl ⟨by omega, rfl⟩⟩
  have S4 := Lib.hid hst
  clear t4 b4 hfd hst x0 x1 x2 T3 B3
  go_wp2_with fail
  go_loopw [9, 31] (fun dn i wr => ∃ k done : Nat, k ≤ len ∧ k ≤ 60 ∧ done ≤ k ∧ dn = .int .i64 done ∧ i = .int .i64 k ∧ (∃ pv1 pv2 d1 d2, Two W0.heap.size wr D1 R1 pv1 d1 D2 R2 pv2 d2 ∧ St N keep torn at_ k done d1 d2) ∧ Below W0.heap.size W0 wr) (fun _ i _ => len - (intOf i).toNat)
  case atStart => exact ⟨0, 0, by omega, by omega, by omega, rfl, rfl, ⟨_, _, _, _, T4.out, S4.out⟩, B4.out⟩
  case round =>
    obtain ⟨k, done, hkl, hk60, hdk, rfl, rfl, ⟨pv1, pv2, d1, d2, ht, hst⟩, hb⟩ := hrel
    have HT := Lib.hid ht
    have HS := Lib.hid hst
    have HB := Lib.hid hb
    clear ht hst hb T4 S4 B4
    by_cases hlt : k < len
    · obtain ⟨b, off, rfl, q0, q1, q2, q3, q4, q5, q6, hbl⟩ := H.out k hlt
      have hmv : ∀ j v, w.cell? ⟨b, off + k * 7 + j, none⟩ = some v → wr.cell? ⟨b, off + k * 7 + j, none⟩ = some v := fun j v hv => (HB.out.cell (p := ⟨b, off + k * 7 + j, none⟩) (by show b < _; omega)).trans ((B0.out.cell (p := ⟨b, off + k * 7 + j, none⟩) hbl).trans hv)
      have r0 := hmv 0 _ q0
      have r1 := hmv 1 _ q1
      have r2 := hmv 2 _ q2
      have r3 := hmv 3 _ q3
      have r4 := hmv 4 _ q4
      have r5 := hmv 5 _ q5
      have r6 := hmv 6 _ q6
      rw [Nat.add_zero] at r0
      clear q0 q1 q2 q3 q4 q5 q6 hmv
      generalize T k = t at *
      obtain ⟨what, I, n', data, kp, tn, att⟩ := t
      simp only at r0 r1 r2 r3 r4 r5 r6
      by_cases h60 : k < 60
      · have hk6 : ¬ (60 : Int) ≤ (k : Int) := by omega
        by_cases hf : what.tmod 3 = 0
        · have hf1 : (what.tmod 3 == 0) = true := by simpa using hf
          clear hf
          have HST := Lib.hid (step_fuse HS.out .flush)
          have hp := HS.out
          obtain ⟨u, p, rfl, hu, hpl, hu2, hp2, -⟩ := hp
          have hpl : (dev u p).pend.length ≤ 900 := by show p.length ≤ 900; omega
          have hp2 : d2.pend.length ≤ 900 := by omega
          have HT0 := Lib.hid (HT.out.later ((Onl.refl [] wr).alloc (.cells #[.int .i64 what, .int .i64 I, .int .i64 n', .string data, .int .u64 (kp : Int), .int .i64 tn, .int .i64 att] 32)))
          have HB0 := Lib.hid (HB.out.alloc HB.out.size (.cells #[.int .i64 what, .int .i64 I, .int .i64 n', .string data, .int .u64 (kp : Int), .int .i64 tn, .int .i64 att] 32))
          generalize dev u p = d1 at *
          go_wp2_with fail
          refine (two_flush HT0.out HB0.out.size hpl).mono ?_
          rintro e w5 ⟨rfl, ⟨pv5, t5⟩, b5⟩
          have T5 := Lib.hid t5
          have B5 := Lib.hid (HB0.out.trans b5)
          clear t5 b5
          go_wp2_with fail
          refine (two_flush T5.out.swap B5.out.size hp2).mono ?_
          rintro e w6 ⟨rfl, ⟨pv6, t6⟩, b6⟩
          have T6 := Lib.hid t6.swap
          have B6 := Lib.hid (B5.out.trans b6)
          clear t6 b6
          have hstep := HST.out
          clear HST HS HT HT0 HB HB0 T5 B5
          generalize ho : Op1.flush = o at *
          clear ho
          generalize opE o d1 = x at *
          generalize opE o d2 = y at *
          generalize opD o d1 = e1 at *
          generalize opD o d2 = e2 at *
          by_cases hx : x = 0
          · rw [if_pos hx] at hstep
            obtain ⟨s1, s2, s3, s4⟩ := hstep
            have S6 := Lib.hid s1
            subst hx
            have hwr : IntKind.i64.wrap ((done : Int) + 1) = (done : Int) + 1 := by rw [IntKind.wrap_i64]; omega
            clear s1
            by_cases hdn : done + 1 < N
            · obtain ⟨exy, epl⟩ := s2 hdn
              have hof : e2.off = false := by rw [s4]; simp; omega
              have hi : ((done + 1 : Nat) : Int) < (N : Int) := by omega
              have hj : ¬ (N : Int) ≤ ((done + 1 : Nat) : Int) := by omega
              have hw1 := waits_any T6.out.one
              rw [epl] at hw1
              have hw2 := waits_any T6.out.two
              have ho := off_any T6.out.two
              rw [hof] at ho
              have HW1 := Lib.hid hw1
              have HW2 := Lib.hid hw2
              have HOF := Lib.hid ho
              subst exy
              generalize e2.pend.length = pl at *
              try simp only [Int.natCast_add, Int.cast_ofNat_Int] at hi hj
              clear hw1 hw2 ho s2 s3 s4 epl hof
              go_wp2_with fail
              refine HW1.out.mono ?_
              rintro e w7 ⟨rfl, rfl⟩
              go_wp2_with fail
              refine HW2.out.mono ?_
              rintro e w7 ⟨rfl, rfl⟩
              go_wp2_with fail
              refine HOF.out.mono ?_
              rintro e w7 ⟨rfl, rfl⟩
              go_wp2_with fail
              go_roundw
              case rel => exact ⟨k + 1, done + 1, by omega, by omega, by omega, by go_num, by go_num, ⟨_, _, _, _, T6.out, S6.out⟩, B6.out⟩
              case measure => simp [intOf]; omega
            · have hy := s3 (by omega)
              have hof : e2.off = true := by rw [s4]; simp; omega
              have hi : ¬ ((done + 1 : Nat) : Int) < (N : Int) := by omega
              have hj : (N : Int) ≤ ((done + 1 : Nat) : Int) := by omega
              have ho := off_any T6.out.two
              rw [hof] at ho
              have HOF := Lib.hid ho
              subst hy
              try simp only [Int.natCast_add, Int.cast_ofNat_Int] at hi hj
              clear ho s2 s3 s4 hof
              go_wp2_with fail
              refine HOF.out.mono ?_
              rintro e w7 ⟨rfl, rfl⟩
              go_wp2_with fail
              go_roundw
              case rel => exact ⟨k + 1, done + 1, by omega, by omega, by omega, by go_num, by go_num, ⟨_, _, _, _, T6.out, S6.out⟩, B6.out⟩
              case measure => simp [intOf]; omega
          · rw [if_neg hx] at hstep
            obtain ⟨s1, s2, s3, s4⟩ := hstep
            have S6 := Lib.hid s1
            have hx1 : ((x : Int) == 0) = false := by simpa using hx
            have hx2 : (x == 0) = false := by simpa using hx
            have HX := Lib.hid hx
            clear s1 hx
            by_cases hdn : done < N
            · obtain ⟨exy, epl⟩ := s2 hdn
              have hof : e2.off = false := by rw [s4]; simp; omega
              have hi : ((done : Nat) : Int) < (N : Int) := by omega
              have hj : ¬ (N : Int) ≤ ((done : Nat) : Int) := by omega
              have hw1 := waits_any T6.out.one
              rw [epl] at hw1
              have hw2 := waits_any T6.out.two
              have ho := off_any T6.out.two
              rw [hof] at ho
              have HW1 := Lib.hid hw1
              have HW2 := Lib.hid hw2
              have HOF := Lib.hid ho
              subst exy
              generalize e2.pend.length = pl at *
              try simp only [Int.natCast_add, Int.cast_ofNat_Int] at hi hj
              clear hw1 hw2 ho s2 s3 s4 epl hof
              go_wp2_with fail
              refine HW1.out.mono ?_
              rintro e w7 ⟨rfl, rfl⟩
              go_wp2_with fail
              refine HW2.out.mono ?_
              rintro e w7 ⟨rfl, rfl⟩
              go_wp2_with fail
              refine HOF.out.mono ?_
              rintro e w7 ⟨rfl, rfl⟩
              go_wp2_with fail
              go_roundw
              case rel => exact ⟨k + 1, done, by omega, by omega, by omega, by go_num, by go_num, ⟨_, _, _, _, T6.out, S6.out⟩, B6.out⟩
              case measure => simp [intOf]; omega
            · have hy := s3 (by omega)
              have hof : e2.off = true := by rw [s4]; simp; omega
              have hi : ¬ ((done : Nat) : Int) < (N : Int) := by omega
              have hj : (N : Int) ≤ ((done : Nat) : Int) := by omega
              have ho := off_any T6.out.two
              rw [hof] at ho
              have HOF := Lib.hid ho
              subst hy
              try simp only [Int.natCast_add, Int.cast_ofNat_Int] at hi hj
              clear ho s2 s3 s4 hof
              go_wp2_with fail
              refine HOF.out.mono ?_
              rintro e w7 ⟨rfl, rfl⟩
              go_wp2_with fail
              go_roundw
              case rel => exact ⟨k + 1, done, by omega, by omega, by omega, by go_num, by go_num, ⟨_, _, _, _, T6.out, S6.out⟩, B6.out⟩
              case measure => simp [intOf]; omega
        · have hf1 : (what.tmod 3 == 0) = false := by simpa using hf
          clear hf
          have HST := Lib.hid (step_fuse HS.out (.write I (secT data.data.toList)))
          have hp := HS.out
          obtain ⟨u, p, rfl, hu, hpl, hu2, hp2, -⟩ := hp
          have hpl : (dev u p).pend.length ≤ 900 := by show p.length ≤ 900; omega
          have hp2 : d2.pend.length ≤ 900 := by omega
          generalize dev u p = d1 at *
          have hg1 : wr.heap.size ∉ blocks D1 R1 pv1 := fun e => by have := HT.out.one.lt _ e; omega
          have hg2 : wr.heap.size ∉ blocks D2 R2 pv2 := fun e => by have := HT.out.two.lt _ e; omega
          have T0 := Lib.hid ((HT.out.later ((Onl.refl [] wr).alloc (.cells #[.int .i64 what, .int .i64 I, .int .i64 n', .string data, .int .u64 (kp : Int), .int .i64 tn, .int .i64 att] 32))).later (Onl.refl [] _).drew)
          have HB0 := Lib.hid ((HB.out.alloc HB.out.size (.cells #[.int .i64 what, .int .i64 I, .int .i64 n', .string data, .int .u64 (kp : Int), .int .i64 tn, .int .i64 att] 32)).drew)
          have hz0 : (wr.alloc (.cells #[.int .i64 what, .int .i64 I, .int .i64 n', .string data, .int .u64 (kp : Int), .int .i64 tn, .int .i64 att] 32)).drew.heap[wr.heap.size]? = some (.cells #[.int .i64 what, .int .i64 I, .int .i64 n', .string data, .int .u64 (kp : Int), .int .i64 tn, .int .i64 att] 32) := heap_alloc_new wr _
          have hzl := lt_of_heap hz0
          have X0 := Lib.hid hz0
          have hsec := fun w => sector_all data w
          generalize secT data.data.toList = sx at *
          have HSEC := Lib.hid hsec
          have hS : (wr.alloc (.cells #[.int .i64 what, .int .i64 I, .int .i64 n', .string data, .int .u64 (kp : Int), .int .i64 tn, .int .i64 att] 32)).drew.cell? ⟨wr.heap.size, 1, none⟩ = some (.int .i64 I) ∧ (wr.alloc (.cells #[.int .i64 what, .int .i64 I, .int .i64 n', .string data, .int .u64 (kp : Int), .int .i64 tn, .int .i64 att] 32)).drew.cell? ⟨wr.heap.size, 3, none⟩ = some (.string data) :=
            ⟨(cell_of_row _ _ _ _ _ (0, 0) hz0).trans rfl, (cell_of_row _ _ _ _ _ (0, 0) hz0).trans rfl⟩
          have HSS := Lib.hid hS
          clear hsec hS hz0
          go_wp2_with fail
          go_region_held3 (fun w' => w'.cell? ⟨wr.heap.size, 1, none⟩ = some (.int .i64 I) ∧ w'.cell? ⟨wr.heap.size, 3, none⟩ = some (.string data))
            (first | assumption | exact HSS.out)
            (first
              | (go_at_call 24; refine (HSEC.out _).mono ?_; rintro e w7 ⟨rfl, b7⟩
                 have T7 := Lib.hid (T6.out.later (Onl.of_below b7 [])); have B7 := Lib.hid (B6.out.trans (b7.mono B6.out.size))
                 have X7 := Lib.hid ((b7.block wr.heap.size (lt_of_heap X6.out)).trans X6.out)
                 have hc7 : w7.cell? ⟨wr.heap.size, 1, none⟩ = some (.int .i64 I) ∧ w7.cell? ⟨wr.heap.size, 3, none⟩ = some (.string data) := ⟨(cell_of_row _ _ _ _ _ (0, 0) X7.out).trans rfl, (cell_of_row _ _ _ _ _ (0, 0) X7.out).trans rfl⟩
                 clear b7)
              | (go_at_call 24; refine (HSEC.out _).mono ?_; rintro e w5 ⟨rfl, b5⟩
                 have T5 := Lib.hid (T0.out.later (Onl.of_below b5 [])); have B5 := Lib.hid (HB0.out.trans (b5.mono HB0.out.size))
                 have X5 := Lib.hid ((b5.block wr.heap.size hzl).trans X0.out)
                 have hc5 : w5.cell? ⟨wr.heap.size, 1, none⟩ = some (.int .i64 I) ∧ w5.cell? ⟨wr.heap.size, 3, none⟩ = some (.string data) := ⟨(cell_of_row _ _ _ _ _ (0, 0) X5.out).trans rfl, (cell_of_row _ _ _ _ _ (0, 0) X5.out).trans rfl⟩
                 clear b5)
              | (go_at_call 23; refine (two_write T7.out.swap B7.out.size hp2 I sx).mono ?_; rintro e w8 ⟨rfl, ⟨pv8, t8⟩, b8, y8⟩
                 have T8 := Lib.hid t8.swap; have B8 := Lib.hid (B7.out.trans b8)
                 have X8 := Lib.hid ((y8 wr.heap.size (lt_of_heap X7.out) hg2).trans X7.out)
                 have hc8 : w8.cell? ⟨wr.heap.size, 1, none⟩ = some (.int .i64 I) ∧ w8.cell? ⟨wr.heap.size, 3, none⟩ = some (.string data) := ⟨(cell_of_row _ _ _ _ _ (0, 0) X8.out).trans rfl, (cell_of_row _ _ _ _ _ (0, 0) X8.out).trans rfl⟩
                 clear t8 b8 y8)
              | (go_at_call 23; refine (two_write T5.out B5.out.size hpl I sx).mono ?_; rintro e w6 ⟨rfl, ⟨pv6, t6⟩, b6, y6⟩
                 have T6 := Lib.hid t6; have B6 := Lib.hid (B5.out.trans b6)
                 have X6 := Lib.hid ((y6 wr.heap.size (lt_of_heap X5.out) hg1).trans X5.out)
                 have hc6 : w6.cell? ⟨wr.heap.size, 1, none⟩ = some (.int .i64 I) ∧ w6.cell? ⟨wr.heap.size, 3, none⟩ = some (.string data) := ⟨(cell_of_row _ _ _ _ _ (0, 0) X6.out).trans rfl, (cell_of_row _ _ _ _ _ (0, 0) X6.out).trans rfl⟩
                 clear t6 b6 y6))
          have T6 := T8
          have B6 := B8
          have hstep := HST.out
          clear HST HS HT HB HB0 T5 B5 T7 B7 T0 X0 X5 X6 X7 X8 HSS HSEC T8 B8
          generalize ho : Op1.write I sx = o at *
          clear ho
          generalize opE o d1 = x at *
          generalize opE o d2 = y at *
          generalize opD o d1 = e1 at *
          generalize opD o d2 = e2 at *
          by_cases hx : x = 0
          · rw [if_pos hx] at hstep
            obtain ⟨s1, s2, s3, s4⟩ := hstep
            have S6 := Lib.hid s1
            subst hx
            have hwr : IntKind.i64.wrap ((done : Int) + 1) = (done : Int) + 1 := by rw [IntKind.wrap_i64]; omega
            clear s1
            by_cases hdn : done + 1 < N
            · obtain ⟨exy, epl⟩ := s2 hdn
              have hof : e2.off = false := by rw [s4]; simp; omega
              have hi : ((done + 1 : Nat) : Int) < (N : Int) := by omega
              have hj : ¬ (N : Int) ≤ ((done + 1 : Nat) : Int) := by omega
              have hw1 := waits_any T6.out.one
              rw [epl] at hw1
              have hw2 := waits_any T6.out.two
              have ho := off_any T6.out.two
              rw [hof] at ho
              have HW1 := Lib.hid hw1
              have HW2 := Lib.hid hw2
              have HOF := Lib.hid ho
              subst exy
              generalize e2.pend.length = pl at *
              try simp only [Int.natCast_add, Int.cast_ofNat_Int] at hi hj
              clear hw1 hw2 ho s2 s3 s4 epl hof
              go_wp2_with fail
              refine HW1.out.mono ?_
              rintro e w7 ⟨rfl, rfl⟩
              go_wp2_with fail
              refine HW2.out.mono ?_
              rintro e w7 ⟨rfl, rfl⟩
              go_wp2_with fail
              refine HOF.out.mono ?_
              rintro e w7 ⟨rfl, rfl⟩
              go_wp2_with fail
              go_roundw
              case rel => exact ⟨k + 1, done + 1, by omega, by omega, by omega, by go_num, by go_num, ⟨_, _, _, _, T6.out, S6.out⟩, B6.out⟩
              case measure => simp [intOf]; omega
            · have hy := s3 (by omega)
              have hof : e2.off = true := by rw [s4]; simp; omega
              have hi : ¬ ((done + 1 : Nat) : Int) < (N : Int) := by omega
              have hj : (N : Int) ≤ ((done + 1 : Nat) : Int) := by omega
              have ho := off_any T6.out.two
              rw [hof] at ho
              have HOF := Lib.hid ho
              subst hy
              try simp only [Int.natCast_add, Int.cast_ofNat_Int] at hi hj
              clear ho s2 s3 s4 hof
              go_wp2_with fail
              refine HOF.out.mono ?_
              rintro e w7 ⟨rfl, rfl⟩
              go_wp2_with fail
              go_roundw
              case rel => exact ⟨k + 1, done + 1, by omega, by omega, by omega, by go_num, by go_num, ⟨_, _, _, _, T6.out, S6.out⟩, B6.out⟩
              case measure => simp [intOf]; omega
          · rw [if_neg hx] at hstep
            obtain ⟨s1, s2, s3, s4⟩ := hstep
            have S6 := Lib.hid s1
            have hx1 : ((x : Int) == 0) = false := by simpa using hx
            have hx2 : (x == 0) = false := by simpa using hx
            have HX := Lib.hid hx
            clear s1 hx
            by_cases hdn : done < N
            · obtain ⟨exy, epl⟩ := s2 hdn
              have hof : e2.off = false := by rw [s4]; simp; omega
              have hi : ((done : Nat) : Int) < (N : Int) := by omega
              have hj : ¬ (N : Int) ≤ ((done : Nat) : Int) := by omega
              have hw1 := waits_any T6.out.one
              rw [epl] at hw1
              have hw2 := waits_any T6.out.two
              have ho := off_any T6.out.two
              rw [hof] at ho
              have HW1 := Lib.hid hw1
              have HW2 := Lib.hid hw2
              have HOF := Lib.hid ho
              subst exy
              generalize e2.pend.length = pl at *
              try simp only [Int.natCast_add, Int.cast_ofNat_Int] at hi hj
              clear hw1 hw2 ho s2 s3 s4 epl hof
              go_wp2_with fail
              refine HW1.out.mono ?_
              rintro e w7 ⟨rfl, rfl⟩
              go_wp2_with fail
              refine HW2.out.mono ?_
              rintro e w7 ⟨rfl, rfl⟩
              go_wp2_with fail
              refine HOF.out.mono ?_
              rintro e w7 ⟨rfl, rfl⟩
              go_wp2_with fail
              go_roundw
              case rel => exact ⟨k + 1, done, by omega, by omega, by omega, by go_num, by go_num, ⟨_, _, _, _, T6.out, S6.out⟩, B6.out⟩
              case measure => simp [intOf]; omega
            · have hy := s3 (by omega)
              have hof : e2.off = true := by rw [s4]; simp; omega
              have hi : ¬ ((done : Nat) : Int) < (N : Int) := by omega
              have hj : (N : Int) ≤ ((done : Nat) : Int) := by omega
              have ho := off_any T6.out.two
              rw [hof] at ho
              have HOF := Lib.hid ho
              subst hy
              try simp only [Int.natCast_add, Int.cast_ofNat_Int] at hi hj
              clear ho s2 s3 s4 hof
              go_wp2_with fail
              refine HOF.out.mono ?_
              rintro e w7 ⟨rfl, rfl⟩
              go_wp2_with fail
              go_roundw
              case rel => exact ⟨k + 1, done, by omega, by omega, by omega, by go_num, by go_num, ⟨_, _, _, _, T6.out, S6.out⟩, B6.out⟩
              case measure => simp [intOf]; omega
      · obtain rfl : k = 60 := by omega
        replace HT := Lib.hid (HT.out.later ((Onl.refl [] wr).alloc (.cells #[.int .i64 what, .int .i64 I, .int .i64 n', .string data, .int .u64 (kp : Int), .int .i64 tn, .int .i64 att] 32)))
        replace HB := Lib.hid (HB.out.alloc HB.out.size (.cells #[.int .i64 what, .int .i64 I, .int .i64 n', .string data, .int .u64 (kp : Int), .int .i64 tn, .int .i64 att] 32))
        have hp := HS.out
        obtain ⟨u, p, -, -, -, hu2, hp2, -⟩ := hp
        go_wp2_with fail
        refine (two_up HT.out HB.out.size).mono ?_
        rintro e w5 ⟨rfl, ⟨d3, k5, o5, l5, m5⟩, b5⟩
        have hr : refE d3 ((0 : Nat) : Int) = 0 := by
          unfold refE
          rw [if_neg (by rw [o5]; simp), if_neg (by omega)]
        have hrd := read_any k5 (by omega) 0 hr (by omega)
        generalize S (lastW d3.pend (d3.dur.getD 0 []) 0 d3.pend.length) = sv at *
        have HRD := Lib.hid hrd
        have K5 := Lib.hid k5
        have O5 := Lib.hid o5
        have B5 := Lib.hid (HB.out.trans b5)
        clear k5 o5 l5 m5 b5 hr hrd HT HS HB hu2 hp2
        go_wp2_with fail
        refine HRD.out.mono ?_
        rintro e w6 ⟨rfl, b6⟩
        have K6 := Lib.hid (K5.out.later (Onl.of_below b6 []) (by simp))
        have B6 := Lib.hid (B5.out.trans (b6.mono B5.out.size))
        clear b6
        go_wp2_with fail
        refine (awake_any _).mono ?_
        rintro e w7 ⟨rfl, b7⟩
        have ho := off_any (K6.out.later (Onl.of_below b7 []) (by simp))
        rw [O5.out] at ho
        have HOF := Lib.hid ho
        have B7 := Lib.hid (B6.out.trans (b7.mono B6.out.size))
        clear b7 ho
        go_wp2_with fail
        refine HOF.out.mono ?_
        rintro e w8 ⟨rfl, rfl⟩
        go_wp2_with fail
        go_ret
        exact ⟨rfl, B0.out.trans (B7.out.mono (by omega))⟩
    · obtain rfl : k = len := by omega
      have hp := HS.out
      obtain ⟨u, p, -, -, -, hu2, hp2, -⟩ := hp
      go_wp2_with fail
      refine (two_up HT.out HB.out.size).mono ?_
      rintro e w5 ⟨rfl, ⟨d3, k5, o5, l5, m5⟩, b5⟩
      have hr : refE d3 ((0 : Nat) : Int) = 0 := by
        unfold refE
        rw [if_neg (by rw [o5]; simp), if_neg (by omega)]
      have hrd := read_any k5 (by omega) 0 hr (by omega)
      generalize S (lastW d3.pend (d3.dur.getD 0 []) 0 d3.pend.length) = sv at *
      have HRD := Lib.hid hrd
      have K5 := Lib.hid k5
      have O5 := Lib.hid o5
      have B5 := Lib.hid (HB.out.trans b5)
      clear k5 o5 l5 m5 b5 hr hrd HT HS HB hu2 hp2
      go_wp2_with fail
      refine HRD.out.mono ?_
      rintro e w6 ⟨rfl, b6⟩
      have K6 := Lib.hid (K5.out.later (Onl.of_below b6 []) (by simp))
      have B6 := Lib.hid (B5.out.trans (b6.mono B5.out.size))
      clear b6
      go_wp2_with fail
      refine (awake_any _).mono ?_
      rintro e w7 ⟨rfl, b7⟩
      have ho := off_any (K6.out.later (Onl.of_below b7 []) (by simp))
      rw [O5.out] at ho
      have HOF := Lib.hid ho
      have B7 := Lib.hid (B6.out.trans (b7.mono B6.out.size))
      clear b7 ho
      go_wp2_with fail
      refine HOF.out.mono ?_
      rintro e w8 ⟨rfl, rfl⟩
      go_wp2_with fail
      go_ret
      exact ⟨rfl, B0.out.trans (B7.out.mono (by omega))⟩
end Go.Proofs.Ytndnfalkpkbpjaa.Bk
