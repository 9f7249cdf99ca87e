/-
  The program's values: Same, Order.
-/
import Derived.Test.YtkdhchdhgmaolaaZVlCmp
namespace Go.Proofs.Ytkdhchdhgmaolaa.Va
open Go.RowKit

set_option linter.unusedSimpArgs false
set_option maxRecDepth 100000 in
set_option maxHeartbeats 3200000 in
theorem Same_any (x y : V) (okx : VOk x) (oky : VOk y) (ax ay : Option Addr) (cx cy : Nat) (w : World) (hx : NumsAt w ax x.list) (hy : NumsAt w ay y.list) :
    Calls Try.prog 118 #[valC x ax cx, valC y ay cy] w fun e w' => e = .returned (.bool (sameV x y)) ∧ Below w.heap.size w w' := by
  obtain ⟨k, n, t, l⟩ := x
  obtain ⟨k', n', t', l'⟩ := y
  have hB0 := ((Below.refl w.heap.size w).alloc (Nat.le_refl _) (boxO k n t l.length ax cx)).alloc (by simp) (boxO k' n' t' l'.length ay cy)
  have HB0 := Lib.hid hB0
  have hl1 := okx.list
  simp only at hl1 hx hy
  have hcall := equal_list l l' hl1 ax ay cx cy _ (hx.below hB0) (hy.below hB0)
  have HC := Lib.hid hcall
  clear okx oky hx hy hB0 hcall hl1
  unfold valC
  simp only
  by_cases hk : k = k'
  · subst hk
    by_cases hn : n = n'
    · subst hn
      by_cases ht : t = t'
      · subst ht
        have e1 : ((S t).toList == (S t).toList) = true := by simp
        have HF := Lib.hid (show (l == l') = sameV ⟨k, n, t, l⟩ ⟨k, n, t, l'⟩ by simp [sameV])
        go_enter Try.func118, Try.ntmps118
        go_wp2_with fail
        refine HC.out.mono ?_
        rintro e w1 ⟨rfl, b1⟩
        have HB1 := Lib.hid (HB0.out.trans (b1.mono HB0.out.size))
        clear b1
        go_wp2_with fail
        go_ret
        exact ⟨ret_b HF.out, HB1.out⟩
      · have e1 : ((S t).toList == (S t').toList) = false := by rw [S_beq]; simpa using ht
        have HF := Lib.hid (show false = sameV ⟨k, n, t, l⟩ ⟨k, n, t', l'⟩ by simp [sameV, ht])
        clear ht
        go_enter Try.func118, Try.ntmps118
        go_wp2_with fail
        go_ret
        exact ⟨ret_b HF.out, HB0.out⟩
    · have e1 : (n == n') = false := by simpa using hn
      have HF := Lib.hid (show false = sameV ⟨k, n, t, l⟩ ⟨k, n', t', l'⟩ by simp [sameV, hn])
      clear hn
      go_enter Try.func118, Try.ntmps118
      go_wp2_with fail
      go_ret
      exact ⟨ret_b HF.out, HB0.out⟩
  · have e1 : (k == k') = false := by simpa using hk
    have HF := Lib.hid (show false = sameV ⟨k, n, t, l⟩ ⟨k', n', t', l'⟩ by simp [sameV, hk])
    clear hk
    go_enter Try.func118, Try.ntmps118
    go_wp2_with fail
    go_ret
    exact ⟨ret_b HF.out, HB0.out⟩

theorem or4_ordV (x y : V) : or4 (ordI x.kind y.kind) (ordI x.num y.num) (ordT x.text y.text) (ordL x.list y.list) = ordV x y := by
  rw [ordV_eq]
  unfold or4
  have z1 := cmpI.zero x.kind y.kind
  have z2 := cmpI.zero x.num y.num
  have z3 := cmpT.zero x.text y.text
  by_cases h1 : x.kind = y.kind
  · rw [if_neg (by simpa using z1.2 h1), if_pos h1]
    by_cases h2 : x.num = y.num
    · rw [if_neg (by simpa using z2.2 h2), if_pos h2]
      by_cases h3 : x.text = y.text
      · rw [if_neg (by simpa using z3.2 h3), if_pos h3]
      · rw [if_pos (fun e => h3 (z3.1 e)), if_neg h3]
    · rw [if_pos (fun e => h2 (z2.1 e)), if_neg h2]
  · rw [if_pos (fun e => h1 (z1.1 e)), if_neg h1]

set_option linter.unusedSimpArgs false
end Go.Proofs.Ytkdhchdhgmaolaa.Va
