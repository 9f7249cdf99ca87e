/-
  Code's reader: a row of numbers.
-/
import Derived.Test.YtkdhchdhgmaolaaZCdRdB
import Derived.Test.YtkdhchdhgmaolaaZVlApp
import Derived.Test.YtkdhchdhgmaolaaZVlApB
namespace Go.Proofs.Ytkdhchdhgmaolaa.Cd
open Go.RowKit
open Pk Va
set_option linter.unusedVariables false
set_option linter.unusedSimpArgs false
set_option linter.unnecessarySimpa false

/-- A row of the call's own is neither of the reader's blocks. -/
theorem off_row {H r R B n s : Nat} {e : TypeId} {l : List UInt8} {bad : Nat} {w : World} {v : Value} {xs : List Value} (hR : RdrR H r R l bad w) (h : w.ownsRow B e s v n xs) (he1 : e ≠ 133) (he2 : e ≠ 171) : ∀ g, v.ownBlock = some g → OffR r g w := by
  intro g hg
  rcases h.2 with ⟨rfl, _⟩ | ⟨g', cap, cur, rfl, _, hb, _⟩
  · simp [Value.ownBlock] at hg
  · obtain rfl : g' = g := by simpa [Value.ownBlock] using hg
    refine ⟨?_, lt_of_heapV hb, R, hR.2.2.2.1, ?_⟩
    · rintro rfl
      have := hR.2.2.2.1
      rw [hb] at this
      injection this with this
      injection this with _ h2 _
      exact he1 h2
    · rintro rfl
      have := hR.2.2.2.2
      unfold RdAt at this
      rw [hb] at this
      injection this with this
      injection this with _ h2 _
      exact he2 h2
/-- What grows is a row that was not there. -/
theorem RdTo.grown {H r : Nat} {l : List UInt8} {bad : Nat} {w wr w' : World} {row : Option Nat} (t : RdTo H r l bad w wr) (hH : H ≤ w.heap.size) (hg : wr.grownBy w' row) (ho : ∀ g, row = some g → w.heap.size ≤ g ∧ OffR r g wr) : RdTo H r l bad w w' := by
  obtain ⟨R, hR⟩ := t.rdr
  have hr : w'.heap[r]? = wr.heap[r]? := hg.block r hR.lt (by
    intro e
    obtain ⟨_, h1, _⟩ := ho r e.symm
    exact h1 rfl)
  have hRR : w'.heap[R]? = wr.heap[R]? := hg.block R hR.2.2.2.2.lt (by
    intro e
    obtain ⟨_, _, _, R2, h2, h3⟩ := ho R e.symm
    have := hR.2.2.2.1
    rw [h2] at this
    obtain rfl : R2 = R := by simpa using this
    exact h3 rfl)
  have hsz := hg.size
  refine ⟨⟨⟨R, hR.1, hR.2.1, hR.2.2.1, hr.trans hR.2.2.2.1, hRR.trans hR.2.2.2.2⟩, t.below.grown hg (Nat.le_trans hH t.size) (fun k hk => Nat.le_trans hH (ho k hk).1), Nat.le_trans t.size hsz, fun g hgo => ?_⟩, t.errs, fun R2 l0 b0 h2 hl => ?_⟩
  rotate_left 1
  · obtain ⟨la, ba, hat, hla, hc⟩ := t.old R2 l0 b0 h2 hl
    have hlt := h2.2.2.2.2.lt
    refine ⟨la, ba, (hg.block R2 hat.lt (by
      intro e
      have := (ho R2 e.symm).1
      omega)).trans hat, hla, ?_⟩
    rcases hc with hc | ⟨hx, a, b, R3, c, d⟩
    · exact .inl (hr.trans hc)
    · exact .inr ⟨hx, a, Nat.lt_of_lt_of_le b hsz, R3, hr.trans c, d⟩
  obtain ⟨e1, o1⟩ := t.keeps g hgo
  have e2 : w'.heap[g]? = wr.heap[g]? := hg.block g o1.2.1 (by
    intro e
    have := (ho g e.symm).1
    have := hgo.2.1
    omega)
  obtain ⟨a, b, R2, c, d⟩ := o1
  exact ⟨e2.trans e1, a, Nat.lt_of_lt_of_le b hsz, R2, hr.trans c, d⟩
/-- A row of the call's own, behind what others did. -/
theorem own_keep {H r B n s : Nat} {e : TypeId} {l : List UInt8} {bad : Nat} {w w' : World} {v : Value} {xs : List Value} (t : RdTo H r l bad w w') (h : w.ownsRow B e s v n xs) (f : ∀ g, v.ownBlock = some g → OffR r g w) : w'.ownsRow B e s v n xs := by
  refine ⟨h.1, ?_⟩
  rcases h.2 with h0 | ⟨g, cap, cur, rfl, hB, hb, rest⟩
  · exact .inl h0
  · exact .inr ⟨g, cap, cur, rfl, hB, ((t.keeps g (f g rfl)).1).trans hb, rest⟩
theorem ne_i64 : 2 ≠ 133 ∧ 2 ≠ 171 := by decide
theorem meth_number : ((Try.prog.info? 82).map fun i => (i.methods.find? (·.name == "Number")).map fun m => (m.path.toList.map fun s => (s.struct, s.index, s.deref), m.func)) = some (some ([(133, 0, true)], some (70, true))) := by kernel_rfl
theorem run_number (fuel : Nat) (r R : Nat) (w : World) (h : w.cell? ⟨r, 0, none⟩ = some (.pointer (some ⟨R, 0, none⟩))) :
    (method (fuel + 1) 82 (.pointer (some ⟨r, 0, none⟩)) "Number").run Try.prog w = .ok (70, .pointer (some ⟨R, 0, none⟩)) w := by
  obtain ⟨i, hi, h1⟩ := Option.map_eq_some_iff.1 meth_number
  obtain ⟨m, hm, h2⟩ := Option.map_eq_some_iff.1 h1
  obtain ⟨hp, hf⟩ := Prod.mk.inj h2
  obtain ⟨s, hs, hs1⟩ : ∃ s, m.path.toList = [s] ∧ (s.struct, s.index, s.deref) = (133, 0, true) := by
    rcases hml : m.path.toList with _ | ⟨s, _ | ⟨s2, rest⟩⟩
    · rw [hml] at hp; simp at hp
    · rw [hml] at hp; exact ⟨s, rfl, by simpa using hp⟩
    · rw [hml] at hp; simp at hp
  simp only [Prod.mk.injEq] at hs1
  obtain ⟨e1, e2, e3⟩ := hs1
  have hl : (loadVar 130 ((⟨r, 0, none⟩ : Addr).add 0)).run Try.prog w = .ok (.pointer (some ⟨R, 0, none⟩)) w := by
    have e0 : (⟨r, 0, none⟩ : Addr).add 0 = ⟨r, 0, none⟩ := rfl
    rw [e0]
    simp [loadVar, isAgg, run_underlying Try.underlying130, run_load, h]
  unfold method
  simp [typeInfo, hi, hm, hs, hf, follow, e1, e2, e3, run_underlying Try.underlying133, run_underlying Try.underlying130, Place.get, asAddr, fieldPlace, receiverAt, hl]
theorem run_enter {P : Program} {f : FuncId} {fn : Func} (hf : P.funcs[f]? = some fn) (hname : (fn.name == "runtime.NumGoroutine") = false) (hb : fn.body.isNone = false) (args : Array Value) (w : World) : (callFunc f args).run P w = .ok (.enter f args) w := by
  have h1 : fn.name ≠ "runtime.NumGoroutine" := by simpa using hname
  have h2 : fn.body ≠ none := by intro e; rw [e] at hb; cases hb
  simp [callFunc, hf, h1, h2, Sem.run]
/-- A number that is appended: the news' row lies in the world. -/
theorem app_num1 (B : Nat) (v : Value) (m : Nat) (xs : List Int) (w : World) (hown : w.ownsRow B 2 1 v m (i64C xs)) (x : Int) (hm : m + 1 ≤ 1000000) (hB : B ≤ w.heap.size) (H : Nat) (hH : w.heap.size = H) :
    ∃ q c w', (Builtin.append_ #[23, 23] 23 #[v, .slice (some ⟨H, 0, none⟩) 1 1]).run Try.prog (w.alloc (.cells #[.int .i64 x] 2)) = .ok (.slice q (m + 1) c) w' ∧ w'.ownsRow B 2 1 (.slice q (m + 1) c) (m + 1) (i64C (xs ++ [x])) ∧ (w.alloc (.cells #[.int .i64 x] 2)).grownBy w' v.ownBlock := by
  subst hH
  have hnew : NumsAt (w.alloc (.cells #[.int .i64 x] 2)) (some ⟨w.heap.size, 0, none⟩) [x] := fun i hi => by
    have : i = 0 := by simpa using hi
    subst this
    exact ⟨w.heap.size, 0, rfl, cell_of_row _ _ 0 _ _ (0, 0) (heap_alloc_new w _), by simp⟩
  obtain ⟨v', w', hr, ho, hg⟩ := app_nums B v m (i64C xs) (w.alloc (.cells #[.int .i64 x] 2)) (World.ownsRow.alloc hown _) [x] _ 1 hnew (by simp; omega) (by simp; omega)
  rw [← i64C_append] at ho
  rcases ho.2 with ⟨_, h0⟩ | ⟨g, cap, cur, rfl, r⟩
  · simp at h0
  · exact ⟨_, cap, w', hr, ho, hg⟩

set_option maxRecDepth 100000 in
set_option maxHeartbeats 4000000 in
theorem allN_r (H r R : Nat) (l : List UInt8) (hl : l.length ≤ 2000000) (bad : Nat) (w : World) (h : RdrR H r R l bad w) :
    Calls Try.prog 74 #[.pointer (some ⟨r, 0, none⟩), .int .i64 16, .func (Fn.methodOf 82 "Number") #[] #[]] w fun e w' =>
      ∃ q cap, e = .returned (.slice q (pAll pNum 16 l bad).1.length cap) ∧ RdTo H r (pAll pNum 16 l bad).2.1 (pAll pNum 16 l bad).2.2 w w' ∧ NumsAt w' q (pAll pNum 16 l bad).1 ∧ ∀ g off, q = some ⟨g, off, none⟩ → (pAll pNum 16 l bad).1 ≠ [] → w.heap.size ≤ g ∧ OffR r g w' := by
  have c0 := h.c0
  have HSM := Lib.hid (rSmall_k R l hl bad 16 (by omega) (by omega) w h.2.2.2.2)
  have hn16 := pSmall_le 16 (by omega) l bad
  have hsh : (pSmall 16 l bad).2.1.length ≤ 2000000 := Nat.le_trans (rdG_short _ _ _ _) hl
  unfold pAll
  unfold pSmall at *
  generalize rdG 0 (decS l 16) l bad = y at *
  obtain ⟨n, l1, b1⟩ := y
  simp only at HSM hn16 hsh ⊢
  obtain ⟨X, hX⟩ : ∃ X, X = pLoop pNum n [] l1 b1 := ⟨_, rfl⟩
  rw [← hX]
  have HX := Lib.hid hX
  have HH := Lib.hid h
  have HSH := Lib.hid hsh
  clear h hX hsh
  go_enter Try.func74, Try.ntmps74
  go_wp2_with fail
  refine HSM.out.mono ?_
  rintro e w1 ⟨rfl, r1, o1⟩
  have T1 := Lib.hid (HH.out.step r1 o1).2
  clear r1 o1 HSM
  go_wp2_with fail
  go_loopw [7, 15] (fun lv iv wr => ∃ (i : Nat) (acc : List Int) (li : List UInt8) (bi : Nat) (q : Option Addr) (cap : Nat), i ≤ n ∧ iv = .int .i64 i ∧ lv = .slice q acc.length cap ∧ acc.length ≤ i ∧ wr.ownsRow w.heap.size 2 1 (.slice q acc.length cap) acc.length (i64C acc) ∧ RdTo H r li bi w wr ∧ li.length ≤ 2000000 ∧ X = pLoop pNum (n - i) acc li bi) (fun _ iv _ => n - (intOf iv).toNat)
  case atStart => exact ⟨0, [], l1, b1, none, 0, Nat.zero_le _, rfl, rfl, by simp, World.ownsRow_nil _ _ _ _, T1.out, HSH.out, HX.out⟩
  case round =>
    obtain ⟨i, acc, li, bi, q, cap, hin, rfl, rfl, hai, hown, ht, hli, hx⟩ := hrel
    obtain ⟨Ri, hRi⟩ := ht.rdr
    have c0 := hRi.c0
    by_cases hlt : i < n
    · have hii : (i : Int) < (n : Int) := by omega
      have hoff := off_row hRi hown ne_i64.1 ne_i64.2
      have HC := Lib.hid (rNumber_k Ri li hli bi wr hRi.2.2.2.2)
      have hsub : n - i = (n - (i + 1)) + 1 := by omega
      rw [hsub] at hx
      unfold pLoop pNum at hx
      have hsh2 : (rdG 0 (decN li) li bi).2.1.length ≤ 2000000 := Nat.le_trans (rdG_short _ _ _ _) hli
      generalize rdG 0 (decN li) li bi = z at *
      obtain ⟨x, l2, b2⟩ := z
      simp only at HC hx hsh2
      have HXX := Lib.hid hx
      have HT := Lib.hid ht
      have HRI := Lib.hid hRi
      have HOWN := Lib.hid hown
      have HOFF := Lib.hid hoff
      have HAI := Lib.hid hai
      have HSH2 := Lib.hid hsh2
      clear hx ht hown hoff hsub hai hsh2 hRi
      go_wp2_with fail
      rw [run_number _ r Ri _ c0]
      simp only [Result.andThen]
      rw [run_enter Try.func70 (by kernel_rfl) (by kernel_rfl), Oper.upon_enter]
      refine HC.out.mono ?_
      rintro e w3 ⟨rfl, r3, o3⟩
      obtain ⟨hR3, t3⟩ := HRI.out.step r3 o3
      have c03 := hR3.c0
      have HB3 := Lib.hid (bad_any Ri l2 b2 w3 hR3.2.2.2.2)
      have HR3 := Lib.hid hR3
      have T3 := Lib.hid (HT.out.trans t3)
      have hown3 := own_keep t3 HOWN.out HOFF.out
      have HOWN3 := Lib.hid hown3
      clear r3 o3 t3 hR3 hown3 c0
      by_cases hb2 : b2 = 0
      · subst hb2
        have hw3 : w.heap.size ≤ w3.heap.size := T3.out.size
        have hx3 := HXX.out
        rw [if_neg (by omega)] at hx3
        obtain ⟨q4, c4, w4, hrun, hown4, hgrow⟩ := app_num1 w.heap.size (.slice q acc.length cap) acc.length acc w3 HOWN3.out x (by have := HAI.out; omega) hw3 w3.heap.size rfl
        have kk := (Below.refl w3.heap.size w3).alloc (Nat.le_refl _) (.cells #[.int .i64 x] 2)
        have hoff4 := off_row (HR3.out.below kk) (World.ownsRow.alloc HOWN3.out (.cells #[.int .i64 x] 2)) ne_i64.1 ne_i64.2
        have HT4 := Lib.hid ((T3.out.trans (RdTo.of_below HR3.out kk)).grown (Nat.le_trans HH.out.size (Nat.le_refl _)) hgrow (fun g hg => ⟨(World.ownsRow.lt HOWN3.out g hg).1, hoff4 g hg⟩))
        have HRUN := Lib.hid hrun
        have HO4 := Lib.hid (show w4.ownsRow w.heap.size 2 1 (.slice q4 (acc ++ [x]).length c4) (acc ++ [x]).length (i64C (acc ++ [x])) by rw [List.length_append]; exact hown4)
        have HX4 := Lib.hid hx3
        clear hrun hown4 hgrow kk hoff4 hx3
        go_wp2_with fail
        refine HB3.out.mono ?_
        rintro e w5 ⟨rfl, rfl⟩
        go_wp2_with (at_builtin; refine wpList_app rfl _ _ _ _ rfl rfl rfl _ _ HRUN.out ?_)
        go_wp2_with fail
        go_roundw
        case rel => exact ⟨i + 1, acc ++ [x], l2, 0, q4, c4, by omega, by go_num, by rw [List.length_append]; rfl, by have := HAI.out; simp; omega, HO4.out, HT4.out, HSH2.out, HX4.out⟩
        case measure => simp [intOf]; omega
      · have h3 := (err_ne b2 hb2).1
        have hx3 := HXX.out
        rw [if_pos (by omega)] at hx3
        have HX4 := Lib.hid hx3
        clear hx3 hb2
        go_wp2_with fail
        refine HB3.out.mono ?_
        rintro e w5 ⟨rfl, rfl⟩
        go_wp2_with fail
        go_ret
        rw [HX4.out]
        exact ⟨none, 0, rfl, T3.out, fun i hi => absurd hi (by simp), fun _ _ e => by cases e⟩
    · have hie : i = n := by omega
      have hii : ¬ (i : Int) < (n : Int) := by omega
      rw [hie, Nat.sub_self] at hx
      unfold pLoop at hx
      obtain ⟨a', c', he', hnums⟩ := owned_nums hown rfl
      have hoff := off_row hRi hown ne_i64.1 ne_i64.2
      have hfr : ∀ g off, q = some ⟨g, off, none⟩ → acc ≠ [] → w.heap.size ≤ g ∧ OffR r g wr := fun g off e _ => by
        subst e
        have hg : (Value.slice (some ⟨g, off, none⟩) acc.length cap).ownBlock = some g := rfl
        exact ⟨(World.ownsRow.lt hown g hg).1, hoff g hg⟩
      obtain ⟨rfl, rfl⟩ : q = a' ∧ cap = c' := by injection he' with e1 _ e3; exact ⟨e1, e3⟩
      have HT := Lib.hid ht
      have HNS := Lib.hid hnums
      have HFR := Lib.hid hfr
      have HXX := Lib.hid hx
      clear ht hnums hfr hx hown hoff hRi he'
      go_wp2_with fail
      go_ret
      rw [HXX.out]
      exact ⟨q, ⟨cap, rfl⟩, HT.out, HNS.out, HFR.out⟩

end Go.Proofs.Ytkdhchdhgmaolaa.Cd
