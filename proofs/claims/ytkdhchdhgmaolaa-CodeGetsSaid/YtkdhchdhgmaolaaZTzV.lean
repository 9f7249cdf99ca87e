/-
  Several texts in one: VlCmp, VlSame, VlRight.
-/
import Derived.Test.YtkdhchdhgmaolaaZVaOrd
import Derived.Deep.QuietTactic
import Derived.BigQuiet
import Derived.Test.YtkdhchdhgmaolaaZVlName
namespace Go.Proofs.Ytkdhchdhgmaolaa.Va
open Go.RowKit

theorem bytesLess_asymm : ∀ (a b : List UInt8), a ≠ b → Op.bytesLess b a = !Op.bytesLess a b := by
  intro a b h
  have h1 := less_T a b h
  have h2 := less_T b a (fun e => h e.symm)
  have h3 := cmpT.swap a b
  cases x : Op.bytesLess a b <;> cases y : Op.bytesLess b a <;> rw [x] at h1 <;> rw [y] at h2 <;> simp at h1 h2 ⊢ <;> omega
theorem bytesLess_self : ∀ (a : List UInt8), Op.bytesLess a a = false
  | [] => rfl
  | c :: r => by unfold Op.bytesLess; simp [bytesLess_self r, UInt8.lt_irrefl]

/-- cmp.Or of four numbers. -/
def or4 (a b c d : Int) : Int := if a ≠ 0 then a else if b ≠ 0 then b else if c ≠ 0 then c else d
def nth4 (a b c d : Int) (k : Nat) : Int := if k = 0 then a else if k = 1 then b else if k = 2 then c else d
theorem or4_hit (a b c d : Int) (k : Nat) (hk : k < 4) (h0 : ∀ j, j < k → nth4 a b c d j = 0) (h : nth4 a b c d k ≠ 0) : nth4 a b c d k = or4 a b c d := by
  have := h0 0
  have := h0 1
  have := h0 2
  have hk' : k = 0 ∨ k = 1 ∨ k = 2 ∨ k = 3 := by omega
  rcases hk' with rfl | rfl | rfl | rfl <;> simp_all [nth4, or4]
theorem or4_none (a b c d : Int) (h0 : ∀ j, j < 4 → nth4 a b c d j = 0) : or4 a b c d = 0 := by
  have := h0 0
  have := h0 1
  have := h0 2
  have := h0 3
  simp_all [nth4, or4]
set_option maxHeartbeats 1600000 in
/-- slices.Equal of two rows of numbers. -/
theorem equal_list (x y : List Int) (hx1 : x.length ≤ 9223372036854775807) (ax ay : Option Addr) (cx cy : Nat) (w : World) (hx : NumsAt w ax x) (hy : NumsAt w ay y) :
    Calls Try.prog 128 #[.slice ax x.length cx, .slice ay y.length cy] w fun e w' => e = .returned (.bool (x == y)) ∧ Below w.heap.size w w' := by
  have HX := Lib.hid hx
  have HY := Lib.hid hy
  clear hx hy
  by_cases hl : x.length = y.length
  · have HL := Lib.hid hl
    rw [← hl]
    have HALL := Lib.hid (preB_all x y hl)
    clear hl
    go_enter Try.func128, Try.ntmps128
    go_wp2_with fail
    go_loopw [13] (fun i wr => ∃ k : Nat, k ≤ x.length ∧ i = .int .i64 k ∧ Hid (preB x y k = true) ∧ Below w.heap.size w wr) (fun i _ => x.length - (intOf i).toNat)
    case atStart => exact ⟨0, by omega, rfl, Lib.hid (preB_zero x y), Below.refl _ _⟩
    case round =>
      obtain ⟨k, hk, rfl, HP, hb⟩ := hrel
      have HB := Lib.hid hb
      clear hb
      by_cases h1 : k < x.length
      · have h2 : k < y.length := by rw [← HL.out]; exact h1
        obtain ⟨g1, o1, rfl, q1, hg1⟩ := HX.out k h1
        obtain ⟨g2, o2, rfl, q2, hg2⟩ := HY.out k h2
        have r1 := (HB.out.cell (p := ⟨g1, o1 + k, none⟩) hg1).trans q1
        have r2 := (HB.out.cell (p := ⟨g2, o2 + k, none⟩) hg2).trans q2
        have hn := preB_succ x y k h1 h2
        rw [HP.out, Bool.true_and] at hn
        have hf := preB_false x y (k + 1)
        rw [hn] at hf
        have hji1 : (k : Int) < (x.length : Int) := by omega
        generalize x.getD k 0 = u at *
        generalize y.getD k 0 = u' at *
        have HN := Lib.hid hn
        have HF := Lib.hid hf
        have HBD := Lib.hid (show Below w.heap.size w wr.drew from ⟨HB.out.os, HB.out.tape, HB.out.output, HB.out.size, HB.out.block⟩)
        clear hn hf q1 q2 hg1 hg2
        by_cases he : u = u'
        · have e1 : (u == u') = true := by simpa using he
          have e2 : (u != u') = false := by simpa using he
          have HE := Lib.hid e1
          clear he
          go_wp2_with fail
          go_quiet (fail)
          go_wp2_with fail
          go_roundw
          case rel => exact ⟨k + 1, by omega, by go_num, Lib.hid (by rw [HN.out, HE.out]), ⟨HB.out.os, HB.out.tape, HB.out.output, HB.out.size, HB.out.block⟩⟩
          case measure => simp [intOf]; omega
        · have e1 : (u == u') = false := by simpa using he
          have e2 : (u != u') = true := by simpa using he
          have HR := Lib.hid (HF.out e1).symm
          clear he
          go_wp2_with fail
          go_quiet (fail)
          go_wp2_with fail
          go_ret
          exact ⟨ret_b HR.out, ⟨HB.out.os, HB.out.tape, HB.out.output, HB.out.size, HB.out.block⟩⟩
      · obtain rfl : k = x.length := by omega
        have HR := Lib.hid (show true = (x == y) by rw [← HALL.out, HP.out])
        go_wp2_with fail
        go_ret
        exact ⟨ret_b HR.out, HB.out⟩
  · have HR := Lib.hid (show false = (x == y) from (by symm; simp only [beq_eq_false_iff_ne, ne_eq]; exact fun e => hl (by rw [e])))
    have e1 : ((x.length : Int) == (y.length : Int)) = false := by simp; omega
    have e2 : (x.length == y.length) = false := by simpa using hl
    have e3 : ((x.length : Int) != (y.length : Int)) = true := by simp; omega
    clear hl
    go_enter Try.func128, Try.ntmps128
    go_wp2_with fail
    go_ret
    exact ⟨ret_b HR.out, Below.refl _ _⟩

end Go.Proofs.Ytkdhchdhgmaolaa.Va

namespace Go.Proofs.Ytkdhchdhgmaolaa.Va
open Go.RowKit

set_option linter.unusedSimpArgs false
set_option maxRecDepth 100000 in
set_option maxHeartbeats 3200000 in
theorem Same_any (x y : V) (okx : VOk x) (oky : VOk y) (ax ay : Option Addr) (cx cy : Nat) (w : World) (hx : NumsAt w ax x.list) (hy : NumsAt w ay y.list) :
    Calls Try.prog 118 #[valC x ax cx, valC y ay cy] w fun e w' => e = .returned (.bool (sameV x y)) ∧ Below w.heap.size w w' := by
  obtain ⟨k, n, t, l⟩ := x
  obtain ⟨k', n', t', l'⟩ := y
  have hB0 := ((Below.refl w.heap.size w).alloc (Nat.le_refl _) (boxO k n t l.length ax cx)).alloc (by simp) (boxO k' n' t' l'.length ay cy)
  have HB0 := Lib.hid hB0
  have hl1 := okx.list
  simp only at hl1 hx hy
  have hcall := equal_list l l' hl1 ax ay cx cy _ (hx.below hB0) (hy.below hB0)
  have HC := Lib.hid hcall
  clear okx oky hx hy hB0 hcall hl1
  unfold valC
  simp only
  by_cases hk : k = k'
  · subst hk
    by_cases hn : n = n'
    · subst hn
      by_cases ht : t = t'
      · subst ht
        have e1 : ((S t).toList == (S t).toList) = true := by simp
        have HF := Lib.hid (show (l == l') = sameV ⟨k, n, t, l⟩ ⟨k, n, t, l'⟩ by simp [sameV])
        go_enter Try.func118, Try.ntmps118
        go_wp2_with fail
        refine HC.out.mono ?_
        rintro e w1 ⟨rfl, b1⟩
        have HB1 := Lib.hid (HB0.out.trans (b1.mono HB0.out.size))
        clear b1
        go_wp2_with fail
        go_ret
        exact ⟨ret_b HF.out, HB1.out⟩
      · have e1 : ((S t).toList == (S t').toList) = false := by rw [S_beq]; simpa using ht
        have HF := Lib.hid (show false = sameV ⟨k, n, t, l⟩ ⟨k, n, t', l'⟩ by simp [sameV, ht])
        clear ht
        go_enter Try.func118, Try.ntmps118
        go_wp2_with fail
        go_ret
        exact ⟨ret_b HF.out, HB0.out⟩
    · have e1 : (n == n') = false := by simpa using hn
      have HF := Lib.hid (show false = sameV ⟨k, n, t, l⟩ ⟨k, n', t', l'⟩ by simp [sameV, hn])
      clear hn
      go_enter Try.func118, Try.ntmps118
      go_wp2_with fail
      go_ret
      exact ⟨ret_b HF.out, HB0.out⟩
  · have e1 : (k == k') = false := by simpa using hk
    have HF := Lib.hid (show false = sameV ⟨k, n, t, l⟩ ⟨k', n', t', l'⟩ by simp [sameV, hk])
    clear hk
    go_enter Try.func118, Try.ntmps118
    go_wp2_with fail
    go_ret
    exact ⟨ret_b HF.out, HB0.out⟩

theorem or4_ordV (x y : V) : or4 (ordI x.kind y.kind) (ordI x.num y.num) (ordT x.text y.text) (ordL x.list y.list) = ordV x y := by
  rw [ordV_eq]
  unfold or4
  have z1 := cmpI.zero x.kind y.kind
  have z2 := cmpI.zero x.num y.num
  have z3 := cmpT.zero x.text y.text
  by_cases h1 : x.kind = y.kind
  · rw [if_neg (by simpa using z1.2 h1), if_pos h1]
    by_cases h2 : x.num = y.num
    · rw [if_neg (by simpa using z2.2 h2), if_pos h2]
      by_cases h3 : x.text = y.text
      · rw [if_neg (by simpa using z3.2 h3), if_pos h3]
      · rw [if_pos (fun e => h3 (z3.1 e)), if_neg h3]
    · rw [if_pos (fun e => h2 (z2.1 e)), if_neg h2]
  · rw [if_pos (fun e => h1 (z1.1 e)), if_neg h1]

set_option linter.unusedSimpArgs false
end Go.Proofs.Ytkdhchdhgmaolaa.Va

namespace Go.Proofs.Ytkdhchdhgmaolaa.Va
open Go.RowKit

theorem NumsAt_nil (w : World) (a : Option Addr) : NumsAt w a [] := fun i hi => absurd hi (by simp)
theorem valC_nil (k n : Int) (t : List UInt8) (cap : Nat) : valC ⟨k, n, t, []⟩ none cap = .agg #[.int .i64 k, .int .i64 n, .string (S t), .slice none 0 cap] := rfl

/-- What Right does: a change of the value, and a first part of the answer. -/
def bareB (n : Int) (t : List UInt8) (l : List Int) : Bool := n == 0 && t == [] && l == []
theorem sameV_bare (k n : Int) (t : List UInt8) (l : List Int) : sameV ⟨k, n, t, l⟩ ⟨k, 0, [], []⟩ = bareB n t l := by
  simp [sameV, bareB]

set_option linter.unusedSimpArgs false
set_option maxRecDepth 100000 in
set_option maxHeartbeats 3200000 in
theorem Right_any (v : V) (ok : VOk v) (a : Option Addr) (cap : Nat) (w : World) (hx : NumsAt w a v.list) :
    Calls Try.prog 89 #[valC v a cap] w fun e w' => e = .returned (.bool (rightB v)) ∧ Below w.heap.size w w' := by
  obtain ⟨k, n, t, l⟩ := v
  have ht1 := ok.text
  have hl1 := ok.list
  simp only at ht1 hl1 hx
  have hx0 : (S []).size = 0 := rfl
  have hts : (S t).size = t.length := S_size t
  have hS := fun (n' : Int) (t' : List UInt8) (l' : List Int) (h1 : t'.length ≤ 9223372036854775807) (h2 : l'.length ≤ 9223372036854775807) (a' : Option Addr) (c' : Nat) (w' : World) (hn : NumsAt w' a' l') => Same_any ⟨k, n', t', l'⟩ ⟨k, 0, [], []⟩ ⟨h1, h2⟩ ⟨by simp, by simp⟩ a' none c' 0 w' hn (NumsAt_nil _ _)
  simp only [sameV_bare] at hS
  unfold valC at hS
  simp only at hS
  have HS := Lib.hid hS
  have HNM := Lib.hid (Name_any (S t) (by omega))
  have HX := Lib.hid hx
  have hti : (t.length : Int) ≤ 9223372036854775807 := by omega
  unfold valC
  simp only
  clear ok hS hx
  by_cases h1 : k = 1
  · subst h1
    have HR := Lib.hid (show bareB 0 t l = rightB ⟨1, n, t, l⟩ by cases t <;> cases l <;> rfl)
    go_enter Try.func89, Try.ntmps89
    go_wp2_with fail
    go_region
    go_wp2_with fail
    refine (HS.out 0 t l ht1 hl1 a cap _ ((HX.out).below ((((Below.refl _ _).alloc (Nat.le_refl _) _).alloc (by simp) _).drew))).mono ?_
    rintro e w1 ⟨rfl, b1⟩
    have HB1 := Lib.hid (((((Below.refl w.heap.size w).alloc (Nat.le_refl _) _).alloc (by simp) _).drew).trans (b1.mono (by simp; omega)))
    clear b1
    go_wp2_with fail
    go_ret
    exact ⟨ret_b HR.out, HB1.out⟩
  · by_cases h0 : k = 0
    · subst h0
      have HR := Lib.hid (show bareB n t l = rightB ⟨0, n, t, l⟩ by cases t <;> cases l <;> simp [rightB, bareB])
      go_enter Try.func89, Try.ntmps89
      go_wp2_with fail
      go_region
      go_wp2_with fail
      refine (HS.out n t l ht1 hl1 a cap _ ((HX.out).below ((((Below.refl _ _).alloc (Nat.le_refl _) _).alloc (by simp) _).drew))).mono ?_
      rintro e w1 ⟨rfl, b1⟩
      have HB1 := Lib.hid (((((Below.refl w.heap.size w).alloc (Nat.le_refl _) _).alloc (by simp) _).drew).trans (b1.mono (by simp; omega)))
      clear b1
      go_wp2_with fail
      go_ret
      exact ⟨ret_b HR.out, HB1.out⟩
    · by_cases h2 : k = 2
      · subst h2
        by_cases n0 : n = 0
        · subst n0
          have HR := Lib.hid (show bareB 0 t l = rightB ⟨2, 0, t, l⟩ by cases t <;> cases l <;> rfl)
          go_enter Try.func89, Try.ntmps89
          go_wp2_with fail
          go_region
          go_wp2_with fail
          refine (HS.out 0 t l ht1 hl1 a cap _ ((HX.out).below ((((Below.refl _ _).alloc (Nat.le_refl _) _).alloc (by simp) _).drew))).mono ?_
          rintro e w1 ⟨rfl, b1⟩
          have HB1 := Lib.hid (((((Below.refl w.heap.size w).alloc (Nat.le_refl _) _).alloc (by simp) _).drew).trans (b1.mono (by simp; omega)))
          clear b1
          go_wp2_with fail
          go_ret
          exact ⟨ret_b HR.out, HB1.out⟩
        · have e0 : (n == 0) = false := by simpa using n0
          by_cases n1 : n = 1
          · subst n1
            have HR := Lib.hid (show bareB 0 t l = rightB ⟨2, 1, t, l⟩ by cases t <;> cases l <;> rfl)
            go_enter Try.func89, Try.ntmps89
            go_wp2_with fail
            go_region
            go_wp2_with fail
            refine (HS.out 0 t l ht1 hl1 a cap _ ((HX.out).below ((((Below.refl _ _).alloc (Nat.le_refl _) _).alloc (by simp) _).drew))).mono ?_
            rintro e w1 ⟨rfl, b1⟩
            have HB1 := Lib.hid (((((Below.refl w.heap.size w).alloc (Nat.le_refl _) _).alloc (by simp) _).drew).trans (b1.mono (by simp; omega)))
            clear b1
            go_wp2_with fail
            go_ret
            exact ⟨ret_b HR.out, HB1.out⟩
          · have e1 : (n == 1) = false := by simpa using n1
            have HR := Lib.hid (show false = rightB ⟨2, n, t, l⟩ by simp [rightB, e0, e1])
            clear n0 n1
            go_enter Try.func89, Try.ntmps89
            go_wp2_with fail
            go_region
            go_wp2_with fail
            go_ret
            exact ⟨ret_b HR.out, (((Below.refl w.heap.size w).alloc (Nat.le_refl _) _).alloc (by simp) _).drew⟩
      · by_cases h3 : k = 3
        · subst h3
          by_cases hlen : t.length ≤ 64
          · have hli : (t.length : Int) ≤ 64 := by omega
            have HR := Lib.hid (show bareB n [] l = rightB ⟨3, n, t, l⟩ by cases l <;> simp [rightB, bareB, hlen])
            go_enter Try.func89, Try.ntmps89
            go_wp2_with fail
            go_region
            go_wp2_with fail
            refine (HS.out n [] l (by simp) hl1 a cap _ ((HX.out).below ((((Below.refl _ _).alloc (Nat.le_refl _) _).alloc (by simp) _).drew))).mono ?_
            rintro e w1 ⟨rfl, b1⟩
            have HB1 := Lib.hid (((((Below.refl w.heap.size w).alloc (Nat.le_refl _) _).alloc (by simp) _).drew).trans (b1.mono (by simp; omega)))
            clear b1
            go_wp2_with fail
            go_ret
            exact ⟨ret_b HR.out, HB1.out⟩
          · have hli : ¬ (t.length : Int) ≤ 64 := by omega
            have HR := Lib.hid (show false = rightB ⟨3, n, t, l⟩ by simp [rightB, hlen])
            go_enter Try.func89, Try.ntmps89
            go_wp2_with fail
            go_region
            go_wp2_with fail
            go_ret
            exact ⟨ret_b HR.out, (((Below.refl w.heap.size w).alloc (Nat.le_refl _) _).alloc (by simp) _).drew⟩
        · by_cases h4 : k = 4
          · subst h4
            have hts2 : (S t).data.toList = t := S_toList t
            rw [hts2] at HNM
            cases hnm : nameB t with
            | true =>
              rw [hnm] at HNM
              have HR := Lib.hid (show bareB n [] l = rightB ⟨4, n, t, l⟩ by cases l <;> simp [rightB, bareB, hnm])
              clear hnm hts2
              go_enter Try.func89, Try.ntmps89
              go_wp2_with fail
              go_region
              go_wp2_with fail
              refine (HNM.out _).mono ?_
              rintro e w1 ⟨rfl, b1⟩
              have hw0 : (((w.alloc (boxO 4 n t l.length a cap)).alloc (boxO 4 n t l.length a cap)).drew).heap[w.heap.size]? = some (boxO 4 n t l.length a cap) := by
                show ((w.alloc _).alloc _).heap[w.heap.size]? = _
                rw [Below.heap_alloc _ _ _ (by simp)]; exact heap_alloc_new w _
              have hw1 : (((w.alloc (boxO 4 n t l.length a cap)).alloc (boxO 4 n t l.length a cap)).drew).heap[w.heap.size + 1]? = some (boxO 4 n t l.length a cap) := by
                have := heap_alloc_new (w.alloc (boxO 4 n t l.length a cap)) (boxO 4 n t l.length a cap)
                rwa [show (w.alloc (boxO 4 n t l.length a cap)).heap.size = w.heap.size + 1 by simp] at this
              have g0 := (b1.block w.heap.size (lt_of_heapV hw0)).trans hw0
              have g1 := (b1.block (w.heap.size + 1) (lt_of_heapV hw1)).trans hw1
              have HB1 := Lib.hid (((((Below.refl w.heap.size w).alloc (Nat.le_refl _) (boxO 4 n t l.length a cap)).alloc (by simp) (boxO 4 n t l.length a cap)).drew).trans (b1.mono (by simp; omega)))
              have p0 : w1.cell? ⟨w.heap.size, 0, none⟩ = some (.int .i64 4) := (cell_of_row w1 _ 0 _ _ (0, 0) g0).trans rfl
              have q0 : w1.cell? ⟨w.heap.size + 1, 0, none⟩ = some (.int .i64 4) := (cell_of_row w1 _ 0 _ _ (0, 0) g1).trans rfl
              have q1 : w1.cell? ⟨w.heap.size + 1, 1, none⟩ = some (.int .i64 n) := (cell_of_row w1 _ 1 _ _ (0, 0) g1).trans rfl
              have q2 : w1.cell? ⟨w.heap.size + 1, 2, none⟩ = some (.string (S t)) := (cell_of_row w1 _ 2 _ _ (0, 0) g1).trans rfl
              have q3 : w1.cell? ⟨w.heap.size + 1, 3, none⟩ = some (.slice a l.length cap) := (cell_of_row w1 _ 3 _ _ (0, 0) g1).trans rfl
              have f2 : w1.frozen? ⟨w.heap.size + 1, 2, none⟩ = false := by unfold World.frozen?; simp only [g1]; rfl
              clear b1 hw0 hw1 g0 g1
              go_wp2_with fail
              refine (HS.out n [] l (by simp) hl1 a cap _ ((HX.out).below (HB1.out.setCell (by simp) _))).mono ?_
              rintro e w2 ⟨rfl, b2⟩
              have HB2 := Lib.hid ((HB1.out.setCell (p := ⟨w.heap.size + 1, 2, none⟩) (by simp) (.string (S []))).trans (b2.mono (by simp; exact HB1.out.size)))
              clear b2
              go_wp2_with fail
              go_ret
              exact ⟨ret_b HR.out, HB2.out⟩
            | false =>
              rw [hnm] at HNM
              have HR := Lib.hid (show false = rightB ⟨4, n, t, l⟩ by simp [rightB, hnm])
              clear hnm hts2
              go_enter Try.func89, Try.ntmps89
              go_wp2_with fail
              go_region
              go_wp2_with fail
              refine (HNM.out _).mono ?_
              rintro e w1 ⟨rfl, b1⟩
              have hw0 : (((w.alloc (boxO 4 n t l.length a cap)).alloc (boxO 4 n t l.length a cap)).drew).heap[w.heap.size]? = some (boxO 4 n t l.length a cap) := by
                show ((w.alloc _).alloc _).heap[w.heap.size]? = _
                rw [Below.heap_alloc _ _ _ (by simp)]; exact heap_alloc_new w _
              have hw1 : (((w.alloc (boxO 4 n t l.length a cap)).alloc (boxO 4 n t l.length a cap)).drew).heap[w.heap.size + 1]? = some (boxO 4 n t l.length a cap) := by
                have := heap_alloc_new (w.alloc (boxO 4 n t l.length a cap)) (boxO 4 n t l.length a cap)
                rwa [show (w.alloc (boxO 4 n t l.length a cap)).heap.size = w.heap.size + 1 by simp] at this
              have g0 := (b1.block w.heap.size (lt_of_heapV hw0)).trans hw0
              have g1 := (b1.block (w.heap.size + 1) (lt_of_heapV hw1)).trans hw1
              have HB1 := Lib.hid (((((Below.refl w.heap.size w).alloc (Nat.le_refl _) (boxO 4 n t l.length a cap)).alloc (by simp) (boxO 4 n t l.length a cap)).drew).trans (b1.mono (by simp; omega)))
              have p0 : w1.cell? ⟨w.heap.size, 0, none⟩ = some (.int .i64 4) := (cell_of_row w1 _ 0 _ _ (0, 0) g0).trans rfl
              have q0 : w1.cell? ⟨w.heap.size + 1, 0, none⟩ = some (.int .i64 4) := (cell_of_row w1 _ 0 _ _ (0, 0) g1).trans rfl
              have q1 : w1.cell? ⟨w.heap.size + 1, 1, none⟩ = some (.int .i64 n) := (cell_of_row w1 _ 1 _ _ (0, 0) g1).trans rfl
              have q2 : w1.cell? ⟨w.heap.size + 1, 2, none⟩ = some (.string (S t)) := (cell_of_row w1 _ 2 _ _ (0, 0) g1).trans rfl
              have q3 : w1.cell? ⟨w.heap.size + 1, 3, none⟩ = some (.slice a l.length cap) := (cell_of_row w1 _ 3 _ _ (0, 0) g1).trans rfl
              have f2 : w1.frozen? ⟨w.heap.size + 1, 2, none⟩ = false := by unfold World.frozen?; simp only [g1]; rfl
              clear b1 hw0 hw1 g0 g1
              go_wp2_with fail
              go_ret
              exact ⟨ret_b HR.out, HB1.out.setCell (by simp) _⟩
          · by_cases h5 : k = 5
            · subst h5
              by_cases hlen : l.length ≤ 16
              · have hli : (l.length : Int) ≤ 16 := by omega
                have HR := Lib.hid (show bareB n t [] = rightB ⟨5, n, t, l⟩ by cases t <;> simp [rightB, bareB, hlen])
                go_enter Try.func89, Try.ntmps89
                go_wp2_with fail
                go_region
                go_wp2_with fail
                refine (HS.out n t [] ht1 (by simp) none 0 _ (NumsAt_nil _ _)).mono ?_
                rintro e w1 ⟨rfl, b1⟩
                have HB1 := Lib.hid (((((Below.refl w.heap.size w).alloc (Nat.le_refl _) _).alloc (by simp) _).drew).trans (b1.mono (by simp; omega)))
                clear b1
                go_wp2_with fail
                go_ret
                exact ⟨ret_b HR.out, HB1.out⟩
              · have hli : ¬ (l.length : Int) ≤ 16 := by omega
                have HR := Lib.hid (show false = rightB ⟨5, n, t, l⟩ by simp [rightB, hlen])
                go_enter Try.func89, Try.ntmps89
                go_wp2_with fail
                go_region
                go_wp2_with fail
                go_ret
                exact ⟨ret_b HR.out, (((Below.refl w.heap.size w).alloc (Nat.le_refl _) _).alloc (by simp) _).drew⟩
            · have e0 : (k == 0) = false := by simpa using h0
              have e1 : (k == 1) = false := by simpa using h1
              have e2 : (k == 2) = false := by simpa using h2
              have e3 : (k == 3) = false := by simpa using h3
              have e4 : (k == 4) = false := by simpa using h4
              have e5 : (k == 5) = false := by simpa using h5
              have HR := Lib.hid (show false = rightB ⟨k, n, t, l⟩ by
                unfold rightB
                have : decide (0 ≤ k ∧ k ≤ 5) = false := by simp; omega
                simp only [this, Bool.false_and])
              clear h0 h1 h2 h3 h4 h5
              go_enter Try.func89, Try.ntmps89
              go_wp2_with fail
              go_region
              go_wp2_with fail
              go_ret
              exact ⟨ret_b HR.out, (((Below.refl w.heap.size w).alloc (Nat.le_refl _) _).alloc (by simp) _).drew⟩

end Go.Proofs.Ytkdhchdhgmaolaa.Va
