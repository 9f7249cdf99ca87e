/-
  The document's own answer for values: Same, Order.
-/
import Derived.Test.YtfkmpegbidojoaaVaRight
import Derived.Deep.RegionHeld3
import Derived.WalkLawsBesides
namespace Go.Proofs.Ytfkmpegbidojoaa.Va
open Go.RowKit

theorem less_T : ∀ (a b : List UInt8), a ≠ b → ordT a b = if Op.bytesLess a b = true then -1 else 1
  | [], [], h => absurd rfl h
  | [], _ :: _, _ => by simp [ordT, Op.bytesLess]
  | _ :: _, [], _ => by simp [ordT, Op.bytesLess]
  | a :: r, b :: s, h => by
    unfold ordT Op.bytesLess
    by_cases e : a = b
    · subst e
      have h2 : r ≠ s := fun e => h (by rw [e])
      rw [if_pos rfl, less_T r s h2]
      have : ¬ a < a := UInt8.lt_irrefl a
      simp [this]
    · rw [if_neg e]
      have e1 : (a == b) = false := by simpa using e
      rw [e1]
      have e2 : a.toNat ≠ b.toNat := fun h => e (UInt8.toNat_inj.1 h)
      unfold ordI
      by_cases hl : a < b
      · have := UInt8.lt_iff_toNat_lt.1 hl
        rw [if_pos (by omega)]; simp [hl]
      · have : ¬ a.toNat < b.toNat := fun h => hl (UInt8.lt_iff_toNat_lt.2 h)
        rw [if_neg (by omega), if_pos (by omega)]; simp [hl]
def preB (x y : List Int) (k : Nat) : Bool := x.take k == y.take k
theorem preB_zero (x y : List Int) : preB x y 0 = true := by simp [preB]
theorem preB_succ (x y : List Int) (k : Nat) (hx : k < x.length) (hy : k < y.length) : preB x y (k + 1) = (preB x y k && x.getD k 0 == y.getD k 0) := by
  unfold preB
  rw [Bool.eq_iff_iff]
  simp only [beq_iff_eq, Bool.and_eq_true]
  rw [List.take_succ_eq_append_getElem hx, List.take_succ_eq_append_getElem hy]
  have e1 : x.getD k 0 = x[k] := by simp [List.getD, hx]
  have e2 : y.getD k 0 = y[k] := by simp [List.getD, hy]
  rw [e1, e2]
  constructor
  · intro h
    have := List.append_inj h (by simp; omega)
    exact ⟨this.1, by simpa using this.2⟩
  · rintro ⟨h1, h2⟩; rw [h1, h2]
theorem preB_all (x y : List Int) (h : x.length = y.length) : preB x y x.length = (x == y) := by unfold preB; rw [List.take_length, h, List.take_length]
theorem preB_false (x y : List Int) (k : Nat) (h : preB x y k = false) : (x == y) = false := by
  unfold preB at h
  simp only [beq_eq_false_iff_ne, ne_eq] at h ⊢
  exact fun e => h (by rw [e])
theorem ordL_pre : ∀ (x y : List Int) (k : Nat), k ≤ x.length → k ≤ y.length → preB x y k = true → ordL x y = ordL (x.drop k) (y.drop k)
  | _, _, 0, _, _, _ => rfl
  | [], _, k + 1, h, _, _ => by simp at h
  | _ :: _, [], k + 1, _, h, _ => by simp at h
  | a :: r, b :: s, k + 1, h1, h2, h => by
    simp only [preB, List.take_succ_cons, beq_iff_eq, List.cons.injEq] at h
    show (if a = b then ordL r s else _) = ordL (r.drop k) (s.drop k)
    rw [if_pos h.1]
    exact ordL_pre r s k (by simpa using h1) (by simpa using h2) (by simp [preB, h.2])
theorem ordL_at (x y : List Int) (k : Nat) (hx : k < x.length) (hy : k < y.length) (h : preB x y k = true) (hne : x.getD k 0 ≠ y.getD k 0) : ordL x y = ordI (x.getD k 0) (y.getD k 0) := by
  rw [ordL_pre x y k (by omega) (by omega) h, List.drop_eq_getElem_cons hx, List.drop_eq_getElem_cons hy]
  have e1 : x.getD k 0 = x[k] := by simp [List.getD, hx]
  have e2 : y.getD k 0 = y[k] := by simp [List.getD, hy]
  rw [e1, e2] at hne ⊢
  show (if x[k] = y[k] then _ else _) = _
  rw [if_neg hne]
theorem ordL_end (x y : List Int) (k : Nat) (hx : k ≤ x.length) (hy : k ≤ y.length) (he : k = x.length ∨ k = y.length) (h : preB x y k = true) : ordL x y = ordI x.length y.length := by
  rw [ordL_pre x y k hx hy h]
  rcases he with e | e
  · rw [e, List.drop_length]
    by_cases h2 : x.length = y.length
    · rw [h2, List.drop_length]; simp [ordL, ordI]
    · have : y.drop x.length ≠ [] := fun e2 => by have := congrArg List.length e2; simp at this; omega
      cases hd : y.drop x.length with
      | nil => exact absurd hd this
      | cons => unfold ordI; rw [if_pos (by omega)]; rfl
  · rw [e, List.drop_length]
    by_cases h2 : x.length = y.length
    · rw [← h2, List.drop_length]; simp [ordL, ordI]
    · have : x.drop y.length ≠ [] := fun e2 => by have := congrArg List.length e2; simp at this; omega
      cases hd : x.drop y.length with
      | nil => exact absurd hd this
      | cons => unfold ordI; rw [if_neg (by omega), if_pos (by omega)]; rfl

def sameV (a b : V) : Bool := a.kind == b.kind && a.num == b.num && a.text == b.text && a.list == b.list
theorem sameV_iff (a b : V) : sameV a b = true ↔ a = b := by
  obtain ⟨k, n, t, l⟩ := a
  obtain ⟨k', n', t', l'⟩ := b
  simp [sameV, and_assoc]

theorem S_beq (t t' : List UInt8) : ((S t).toList == (S t').toList) = (t == t') := by rw [ByteArray.toList_eq, ByteArray.toList_eq, S_toList, S_toList]
theorem S_less (t t' : List UInt8) : Op.bytesLess (S t).toList (S t').toList = Op.bytesLess t t' := by rw [ByteArray.toList_eq, ByteArray.toList_eq, S_toList, S_toList]

/-- The bounds of what is among the arguments. -/
structure VIn (v : V) : Prop where
  num : -9223372036854775808 ≤ v.num ∧ v.num ≤ 9223372036854775807
  text : v.text.length ≤ 100000
  list : v.list.length ≤ 1000
  nums : ∀ n ∈ v.list, -9223372036854775808 ≤ n ∧ n ≤ 9223372036854775807

theorem lt_of_heapV {w : World} {k : Nat} {o : Obj} (h : w.heap[k]? = some o) : k < w.heap.size := by
  rw [Array.getElem?_eq_some_iff] at h
  exact h.1
def boxO (k n : Int) (t : List UInt8) (len : Nat) (a : Option Addr) (cap : Nat) : Obj := .cells #[.int .i64 k, .int .i64 n, .string (S t), .slice a len cap] 64
/-- Behind k numbers of both lists, which are the same or not. -/
def SameR (w W0 : World) (x y : List Int) (k : Nat) (ok : Bool) (wr : World) : Prop := k ≤ x.length ∧ ok = preB x y k ∧ Below W0.heap.size W0 wr ∧ Below w.heap.size w wr

set_option linter.unusedSimpArgs false
set_option maxRecDepth 100000 in
set_option maxHeartbeats 3200000 in
theorem refSame_any (x y : V) (okx : VOk x) (oky : VOk y) (ax ay : Option Addr) (cx cy : Nat) (w : World) (hx : NumsAt w ax x.list) (hy : NumsAt w ay y.list) :
    Calls Try.prog 42 #[valC x ax cx, valC y ay cy] w fun e w' => e = .returned (.bool (sameV x y)) ∧ Below w.heap.size w w' := by
  obtain ⟨k, n, t, l⟩ := x
  obtain ⟨k', n', t', l'⟩ := y
  have hB0 := ((Below.refl w.heap.size w).alloc (Nat.le_refl _) (boxO k n t l.length ax cx)).alloc (by simp) (boxO k' n' t' l'.length ay cy)
  have HB0 := Lib.hid hB0
  have hl1 := okx.list
  have hl2 := oky.list
  simp only at hl1 hl2 hx hy
  have HX := Lib.hid hx
  have HY := Lib.hid hy
  clear okx oky hx hy hB0
  by_cases h1 : k = k' ∧ n = n' ∧ t = t' ∧ l.length = l'.length
  · obtain ⟨rfl, rfl, rfl, hlen⟩ := h1
    have hB1 := HB0.out
    rw [← hlen] at hB1
    have HB1 := Lib.hid hB1
    clear hB1
    have hR : ∀ j, j ≤ l.length → (preB l l' j = false ∨ j = l.length) → preB l l' j = sameV ⟨k, n, t, l⟩ ⟨k, n, t, l'⟩ := fun j hj h => by
      simp only [sameV, beq_self_eq_true, Bool.true_and]
      rcases h with h | h
      · rw [h, preB_false l l' j h]
      · rw [h, preB_all l l' hlen]
    have HR := Lib.hid hR
    have HLEN := Lib.hid hlen
    have hbox0 := heap_alloc_new w (boxO k n t l.length ax cx)
    have hbox1 := heap_alloc_new (w.alloc (boxO k n t l.length ax cx)) (boxO k n t l.length ay cy)
    have hbox0' : ((w.alloc (boxO k n t l.length ax cx)).alloc (boxO k n t l.length ay cy)).heap[w.heap.size]? = some (boxO k n t l.length ax cx) := by
      rw [Below.heap_alloc _ _ _ (by simp)]; exact hbox0
    have hsz : (w.alloc (boxO k n t l.length ax cx)).heap.size = w.heap.size + 1 := by simp
    rw [hsz] at hbox1
    have HX0 := Lib.hid hbox0'
    have HX1 := Lib.hid hbox1
    have hll : (l'.length : Int) = (l.length : Int) := by omega
    unfold valC
    simp only
    rw [← hlen]
    clear hR hlen hbox0 hbox1 hbox0' hsz hll
    go_enter Try.func42, Try.ntmps42
    go_wp2_with fail
    go_loopw [5, 6] (fun ok i wr => ∃ j : Nat, ∃ b : Bool, i = .int .i64 j ∧ ok = .bool b ∧ SameR w ((w.alloc (boxO k n t l.length ax cx)).alloc (boxO k n t l.length ay cy)) l l' j b wr) (fun _ i _ => l.length - (intOf i).toNat)
    case atStart => exact ⟨0, true, rfl, rfl, by omega, (preB_zero l l').symm, Below.refl _ _, HB1.out⟩
    case round =>
      obtain ⟨j, b, rfl, rfl, hj, hb, hb0, hbw⟩ := hrel
      have HB := Lib.hid hb
      have HBB := Lib.hid hb0
      have HBW := Lib.hid hbw
      have hx0 := (hb0.block w.heap.size (lt_of_heapV HX0.out)).trans HX0.out
      have hx1 := (hb0.block (w.heap.size + 1) (lt_of_heapV HX1.out)).trans HX1.out
      have p0 : wr.cell? ⟨w.heap.size, 3, none⟩ = some (.slice ax l.length cx) := (cell_of_row wr _ 3 _ _ (0, 0) hx0).trans rfl
      have p1 : wr.cell? ⟨w.heap.size + 1, 3, none⟩ = some (.slice ay l.length cy) := (cell_of_row wr _ 3 _ _ (0, 0) hx1).trans rfl
      clear hb hb0 hbw hx0 hx1
      cases b with
      | false =>
        have hf := HR.out j hj (.inl HB.out.symm)
        rw [← HB.out] at hf
        have HF := Lib.hid hf
        clear hf
        go_wp2_with fail
        go_ret
        exact ⟨ret_b HF.out, HBW.out⟩
      | true =>
        by_cases hlt : j < l.length
        · obtain ⟨g1, o1, rfl, q1, hg1⟩ := HX.out j hlt
          obtain ⟨g2, o2, rfl, q2, hg2⟩ := HY.out j (by rw [← HLEN.out]; exact hlt)
          have r1 := (HBW.out.cell (p := ⟨g1, o1 + j, none⟩) hg1).trans q1
          have r2 := (HBW.out.cell (p := ⟨g2, o2 + j, none⟩) hg2).trans q2
          have hn := preB_succ l l' j hlt (by rw [← HLEN.out]; exact hlt)
          rw [← HB.out, Bool.true_and] at hn
          have HN := Lib.hid hn
          have hji : (j : Int) < (l.length : Int) := by omega
          generalize l.getD j 0 = u at *
          generalize l'.getD j 0 = u' at *
          clear hn q1 q2
          go_wp2_with fail
          go_region_held3 (fun w' => w'.cell? ⟨w.heap.size, 3, none⟩ = some (.slice (some ⟨g1, o1, none⟩) l.length cx) ∧ w'.cell? ⟨w.heap.size + 1, 3, none⟩ = some (.slice (some ⟨g2, o2, none⟩) l.length cy) ∧ w'.cell? ⟨g1, o1 + j, none⟩ = some (.int .i64 u) ∧ w'.cell? ⟨g2, o2 + j, none⟩ = some (.int .i64 u'))
            (first | assumption | go_keep) (fail)
          go_wp2_with fail
          go_roundw
          case rel => exact ⟨j + 1, u == u', by go_num, by first | rfl | simp, by omega, HN.out.symm, ⟨HBB.out.os, HBB.out.tape, HBB.out.output, HBB.out.size, HBB.out.block⟩, ⟨HBW.out.os, HBW.out.tape, HBW.out.output, HBW.out.size, HBW.out.block⟩⟩
          case measure => simp [intOf]; omega
        · obtain rfl : j = l.length := by omega
          have hf := HR.out l.length (Nat.le_refl _) (.inr rfl)
          rw [← HB.out] at hf
          have HF := Lib.hid hf
          clear hf
          go_wp2_with fail
          go_ret
          exact ⟨ret_b HF.out, HBW.out⟩
  · have hF : false = sameV ⟨k, n, t, l⟩ ⟨k', n', t', l'⟩ := by
      cases e : sameV ⟨k, n, t, l⟩ ⟨k', n', t', l'⟩ with
      | false => rfl
      | true =>
        have := (sameV_iff _ _).1 e
        simp only [V.mk.injEq] at this
        exact absurd ⟨this.1, this.2.1, this.2.2.1, by rw [this.2.2.2]⟩ h1
    have HF := Lib.hid hF
    unfold valC
    simp only
    clear hF
    by_cases hk : k = k'
    · subst hk
      by_cases hn : n = n'
      · subst hn
        by_cases ht : t = t'
        · subst ht
          have hl : ¬ l.length = l'.length := fun e => h1 ⟨rfl, rfl, rfl, e⟩
          have e1 : ((l.length : Int) == (l'.length : Int)) = false := by simp; omega
          have e2 : (l.length == l'.length) = false := by simpa using hl
          clear h1 hl
          go_enter Try.func42, Try.ntmps42
          go_wp2_with fail
          refine wp_loop_rounds 1 ?_
          rw [rounds_succ]
          go_wp2_with fail
          go_ret
          exact ⟨ret_b HF.out, HB0.out⟩
        · have e1 : ((S t).toList == (S t').toList) = false := by rw [S_beq]; simpa using ht
          clear h1 ht
          go_enter Try.func42, Try.ntmps42
          go_wp2_with fail
          refine wp_loop_rounds 1 ?_
          rw [rounds_succ]
          go_wp2_with fail
          go_ret
          exact ⟨ret_b HF.out, HB0.out⟩
      · have e1 : (n == n') = false := by simpa using hn
        clear h1 hn
        go_enter Try.func42, Try.ntmps42
        go_wp2_with fail
        refine wp_loop_rounds 1 ?_
        rw [rounds_succ]
        go_wp2_with fail
        go_ret
        exact ⟨ret_b HF.out, HB0.out⟩
    · have e1 : (k == k') = false := by simpa using hk
      clear h1 hk
      go_enter Try.func42, Try.ntmps42
      go_wp2_with fail
      refine wp_loop_rounds 1 ?_
      rw [rounds_succ]
      go_wp2_with fail
      go_ret
      exact ⟨ret_b HF.out, HB0.out⟩

end Go.Proofs.Ytfkmpegbidojoaa.Va
