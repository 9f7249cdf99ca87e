/-
  Several texts in one: EvIdx, EvNums, EvPush, EvComp, EvNumb, EvRow, EvNode, EvNodeB, EvNamed, EvRec.
-/
import Derived.Test.YtabbdkdpmpjchaaGreatDoorZTzP
import Derived.Test.YtabbdkdpmpjchaaGreatDoorZTzC
import Derived.Test.YtabbdkdpmpjchaaGreatDoorZTzF
import Derived.Test.YtabbdkdpmpjchaaGreatDoorZTzH
import Derived.ArgAppend
import Derived.Deep.RegionHeld3
import Derived.Deep.RegionLaw
import Derived.Deep.QuietTactic
import Derived.BigQuiet
import Derived.Lib.SmallJoins
import Derived.RegionDies
import Derived.Tactics
import Derived.Tactics2
import Derived.Defers
import Derived.Recover
import Derived.Laws.Pointers
namespace Go.Proofs.YtabbdkdpmpjchaaGreatDoor.Ev
open Go.RowKit
open Ex Lx Va Ty
theorem zcell (w : World) (o : Obj) (b j : Nat) (h : b < w.heap.size) : (w.alloc o).cell? ⟨b, j, none⟩ = w.cell? ⟨b, j, none⟩ := Kept.cell (Kept.alloc (ok := fun _ => True) w o) trivial h
set_option maxHeartbeats 1000000 in
theorem attr_clos (x : AttrP)  (key : List UInt8) (B : Nat) (w : World) (hB : w.cell? ⟨B, 0, none⟩ = some (.string (S key))) (hlt : B < w.heap.size) :
    Calls Tryz.prog 100 #[.agg #[.string (S x.name), .int .i64 x.kind, .string (S x.enum)], .pointer (some ⟨B, 0, none⟩)] w fun e w' => e = .returned (.bool (x.name == key)) ∧ Below w.heap.size w w' := by
  have zb := fun o => zcell w o B 0 hlt
  have HBE := Lib.hid ((Below.refl w.heap.size w).alloc (Nat.le_refl _) (.cells #[.string (S x.name), .int .i64 x.kind, .string (S x.enum)] 49))
  go_enter Tryz.func100, Tryz.ntmps100
  go_wp2_with fail
  go_ret
  exact ⟨by first | rfl | (rw [Ty.S_beq]; rfl), HBE.out⟩
set_option linter.unusedVariables false
set_option maxRecDepth 100000 in
set_option maxHeartbeats 4000000 in
theorem attr_idx (l : List AttrP) (key : List UInt8) (p : Option Addr) (c B : Nat) (w : World) (hl : AttrsAt w p l) (hlen : l.length ≤ 281474976710656) (hB : w.cell? ⟨B, 0, none⟩ = some (.string (S key))) (hBl : B < w.heap.size) :
    Calls Tryz.prog 99 #[.slice p l.length c, .func (.func 100) #[] #[.pointer (some ⟨B, 0, none⟩)]] w fun e w' => e = .returned (.int .i64 (fstIdx (fun x => x.name == key) l)) ∧ Below w.heap.size w w' := by
  have hki : (l.length : Int) ≤ 281474976710656 := by omega
  have HL := Lib.hid hl
  have HB := Lib.hid hB
  clear hl hB
  go_enter Tryz.func99, Tryz.ntmps99
  go_wp2_with fail
  go_loopw [5, 8] (fun _ iv wr => ∃ k : Nat, k ≤ l.length ∧ iv = .int .i64 k ∧ Below w.heap.size w wr ∧ ∀ j, (h : j < l.length) → j < k → (fun x : AttrP => x.name == key) l[j] = false) (fun _ iv _ => l.length - (intOf iv).toNat)
  case atStart => exact ⟨0, Nat.zero_le _, rfl, Below.refl _ _, fun j _ h => absurd h (Nat.not_lt_zero _)⟩
  case round =>
    obtain ⟨k, hk, rfl, bw, hA⟩ := hrel
    have BW := Lib.hid bw
    have A := Lib.hid hA
    clear bw hA
    by_cases hlt : k < l.length
    · have hlti : (k : Int) < (l.length : Int) := by omega
      obtain ⟨b, o, rfl, hb, f0, f1, f2⟩ := (HL.out.later BW.out) k hlt
      have hBw : wr.cell? ⟨B, 0, none⟩ = some (.string (S key)) := (BW.out.cell (p := ⟨B, 0, none⟩) hBl).trans HB.out
      obtain ⟨y, hy⟩ : ∃ y, y = l[k] := ⟨_, rfl⟩
      rw [← hy] at f0 f1 f2
      have HC := Lib.hid (attr_clos y  key B wr hBw (Nat.lt_of_lt_of_le hBl BW.out.size))
      have HY := Lib.hid hy
      clear hy hBw
      cases hp : (fun x : AttrP => x.name == key) y with
      | true =>
        simp only at hp
        rw [hp] at HC
        have HP := Lib.hid hp
        clear hp
        go_wp2_with fail
        refine HC.out.mono ?_
        rintro e w1 ⟨rfl, b1⟩
        have B1 := Lib.hid (BW.out.trans (b1.mono BW.out.size))
        clear b1
        go_wp2_with fail
        go_ret
        refine ⟨?_, B1.out⟩
        rw [fst_hit (fun x : AttrP => x.name == key) l k hlt (fun j hj => A.out j (by omega) hj) (by rw [← HY.out]; exact HP.out)]
        rfl
      | false =>
        simp only at hp
        rw [hp] at HC
        have HP := Lib.hid hp
        clear hp
        go_wp2_with fail
        refine HC.out.mono ?_
        rintro e w1 ⟨rfl, b1⟩
        have B1 := Lib.hid (BW.out.trans (b1.mono BW.out.size))
        clear b1
        go_wp2_with fail
        go_roundw
        case rel => exact ⟨k + 1, by omega, by go_num, B1.out, fun j hj hjk => by
          by_cases e : j = k
          · subst e; rw [← HY.out]; exact HP.out
          · exact A.out j hj (by omega)⟩
        case measure => simp [intOf]; omega
    · have hlti : ¬ (k : Int) < (l.length : Int) := by omega
      go_wp2_with fail
      go_ret
      refine ⟨?_, BW.out⟩
      rw [fst_miss (fun x : AttrP => x.name == key) l (fun j hj => A.out j hj (by omega))]
      rfl
-- the mathematics of the walk
theorem namedV_idx : ∀ (l : List AttrP) (vs : List V) (n : List UInt8), (fstIdx (fun x => x.name == n) l = -1 ∧ namedV l vs n = (zeroV, 22)) ∨ ∃ k : Nat, fstIdx (fun x => x.name == n) l = (k : Int) ∧ namedV l vs n = (match vs[k]? with
    | some v => if v.kind = 0 then (zeroV, 22) else (v, 0)
    | none => (zeroV, 22))
  | [], _, _ => .inl ⟨rfl, rfl⟩
  | e :: r, vs, n => by
    have e1 : fstIdx (fun x : AttrP => x.name == n) (e :: r) = (if (e.name == n) = true then 0 else if fstIdx (fun x : AttrP => x.name == n) r < 0 then -1 else fstIdx (fun x : AttrP => x.name == n) r + 1) := rfl
    rw [e1]
    unfold namedV
    by_cases hn : e.name = n
    · rw [if_pos hn, if_pos (by simpa using hn)]
      refine .inr ⟨0, rfl, ?_⟩
      cases vs with
      | nil => rfl
      | cons v s => rfl
    · rw [if_neg hn, if_neg (by simpa using hn)]
      rcases namedV_idx r vs.tail n with ⟨h1, h2⟩ | ⟨k, h1, h2⟩
      · rw [h1]; exact .inl ⟨rfl, h2⟩
      · rw [h1]
        refine .inr ⟨k + 1, ?_, ?_⟩
        · rw [if_neg (by omega)]; omega
        · rw [h2]
          cases vs with
          | nil => rfl
          | cons v s => rfl
end Go.Proofs.YtabbdkdpmpjchaaGreatDoor.Ev

namespace Go.Proofs.YtabbdkdpmpjchaaGreatDoor.Ev
open Go.RowKit
open Ex Lx Va
set_option linter.unusedVariables false
set_option linter.unusedSimpArgs false
def IRow (w : World) (H n : Nat) (l : List Int) : Prop :=
  ∃ cur, w.heap[H]? = some (.cells cur 2 (0, 0)) ∧ cur.size = n ∧ ∀ i, i < l.length → cur[i]? = some (.int .i64 (l.getD i 0))
theorem make_i (w : World) (n : Nat) (hn : n ≤ 100000) : ∃ w2 : World, (Instr.makeSlice 50 (.int .i64 (n : Int)) (.int .i64 (n : Int))).run Tryz.prog w = .ok (.slice (some ⟨w.heap.size, 0, none⟩) n n) w2 ∧ IRow w2 w.heap.size n [] ∧ Below w.heap.size w w2 := by
  obtain ⟨i0, hi, hz0, hz1, hz2⟩ := info_parts info64
  obtain ⟨w2, hmk, hown, hgr⟩ := run_make_full (P := Tryz.prog) w w.heap.size 50 2 i0 _ 1 Tryz.underlying50 hi hz0 hz1 .i64 .i64 n (by rw [hz2]; omega) (by unfold maxLen; omega) (Nat.le_refl _)
  refine ⟨w2, hmk, ?_, (Below.refl _ _).grown hgr (Nat.le_refl _) (by simp)⟩
  rcases hown.2 with ⟨h1, _⟩ | ⟨g, cap, cur, h1, _, h3, _, _, h6, _⟩
  · cases h1
  · injection h1 with e1 e2 e3
    injection e1 with e1
    injection e1 with e1 _ _
    subst e1 e3
    exact ⟨cur, h3, by omega, fun i hi => absurd hi (Nat.not_lt_zero _)⟩
theorem IRow.lt {w : World} {H n : Nat} {l : List Int} (h : IRow w H n l) : H < w.heap.size := by
  obtain ⟨cur, hb, _⟩ := h
  exact (Array.getElem?_eq_some_iff.1 hb).1
theorem IRow.later {w w' : World} {H n : Nat} {l : List Int} (h : IRow w H n l) (k : Below w.heap.size w w') : IRow w' H n l := by
  have hlt := h.lt
  obtain ⟨cur, hb, r⟩ := h
  exact ⟨cur, (k.block H hlt).trans hb, r⟩
theorem IRow.fz {w : World} {H n : Nat} {l : List Int} (h : IRow w H n l) (j : Nat) : w.frozen? ⟨H, j, none⟩ = false := by
  obtain ⟨cur, hb, _⟩ := h
  exact frozen_of_row w H j _ _ hb
theorem IRow.room {w : World} {H n : Nat} {l : List Int} (h : IRow w H n l) (i : Nat) (hi : i < n) : ∃ u, w.cell? ⟨H, i, none⟩ = some u := by
  obtain ⟨cur, hb, hs, _⟩ := h
  rw [cell_of_row w H i _ _ (0, 0) hb]
  exact ⟨_, Array.getElem?_eq_getElem (by omega)⟩
theorem IRow.put {w : World} {H n : Nat} {l : List Int} (h : IRow w H n l) (i : Nat) (hi : i = l.length) (hn : i < n) (x : Int) :
    IRow (w.setCell ⟨H, i, none⟩ (.int .i64 x)) H n (l ++ [x]) := by
  subst hi
  obtain ⟨cur, hb, hs, hc⟩ := h
  refine ⟨_, heap_setCell_same w H _ _ _ _ hb, by simp [hs], fun j hj => ?_⟩
  rw [List.length_append] at hj
  simp only [List.length_singleton] at hj
  by_cases e : j < l.length
  · rw [Array.getElem?_setIfInBounds_ne (by omega), hc j e]
    rw [List.getD_eq_getElem?_getD, List.getD_eq_getElem?_getD, List.getElem?_append_left e]
  · obtain rfl : j = l.length := by omega
    rw [Array.getElem?_setIfInBounds_self_of_lt (by omega)]
    rw [List.getD_eq_getElem?_getD, List.getElem?_append_right (by omega)]
    simp
theorem IRow.nums {w : World} {H n : Nat} {l : List Int} (h : IRow w H n l) : NumsAt w (some ⟨H, 0, none⟩) l := fun i hi => by
  have hlt := h.lt
  obtain ⟨cur, hb, hs, hc⟩ := h
  refine ⟨H, 0, rfl, ?_, hlt⟩
  rw [Nat.zero_add]
  exact (cell_of_row w H _ _ _ (0, 0) hb).trans (hc i hi)
def FrAt (B : Nat) (w : World) (a : Option Addr) (l : List Int) (c : Nat) : Prop := NumsAt w a l ∧ l.length ≤ c ∧ ∀ g off, a = some ⟨g, off, none⟩ → l ≠ [] → B ≤ g
theorem FrAt.mono {B B' : Nat} {w : World} {a : Option Addr} {l : List Int} {c : Nat} (h : FrAt B w a l c) (hB : B' ≤ B) : FrAt B' w a l c := ⟨h.1, h.2.1, fun g off e hl => Nat.le_trans hB (h.2.2 g off e hl)⟩
theorem all_hit (l : List V) (k : Int) (h : ∀ j (hj : j < l.length), l[j].kind = k) : allV l k = true := by
  unfold allV
  rw [List.all_eq_true]
  intro x hx
  obtain ⟨j, hj, rfl⟩ := List.getElem_of_mem hx
  simpa using h j hj
theorem all_miss (l : List V) (k : Int) (j : Nat) (hj : j < l.length) (h : l[j].kind ≠ k) : allV l k = false := by
  cases e : allV l k with
  | false => rfl
  | true =>
    unfold allV at e
    rw [List.all_eq_true] at e
    exact absurd (by simpa using e l[j] (List.getElem_mem hj)) h
set_option maxRecDepth 100000 in
set_option maxHeartbeats 4000000 in
theorem numbers_any (vs : List V) (hn : vs.length ≤ 100000) (a : Option Addr) (cap : Nat) (w : World) (hx : ValsAt w a vs) :
    Calls Tryz.prog 105 #[.slice a vs.length cap] w fun e w' => ((allV vs 1 = true ∧ ∃ a' c', e = .returned (.slice a' vs.length c') ∧ FrAt w.heap.size w' a' (vs.map (·.num)) c') ∨ (allV vs 1 = false ∧ e = panE 23)) ∧ Below w.heap.size w w' := by
  obtain ⟨w2, hmk, hrow, hb⟩ := make_i w vs.length hn
  have hki : (vs.length : Int) ≤ 100000 := by omega
  have HX := Lib.hid hx
  have HROW := Lib.hid hrow
  have HB := Lib.hid hb
  have HALL := Lib.hid (all_hit vs 1)
  have HMISS := Lib.hid (fun j hj h => all_miss vs 1 j hj h)
  obtain ⟨H, hH⟩ : ∃ H, w.heap.size = H := ⟨_, rfl⟩
  rw [hH] at hmk HROW HB ⊢
  clear hx hrow hb
  go_enter Tryz.func105, Tryz.ntmps105
  go_wp2_with fail
  clear hmk
  go_loopw [11] (fun iv wr => ∃ k : Nat, k ≤ vs.length ∧ iv = .int .i64 k ∧ IRow wr H vs.length ((vs.take k).map (·.num)) ∧ (∀ j (hj : j < vs.length), j < k → vs[j].kind = 1) ∧ Below H w wr) (fun iv _ => vs.length - (intOf iv).toNat)
  case atStart => exact ⟨0, Nat.zero_le _, rfl, HROW.out, fun j _ h => absurd h (Nat.not_lt_zero _), HB.out⟩
  case round =>
    obtain ⟨k, hk, rfl, hrow, hA, hbe⟩ := hrel
    have hlt := hrow.lt
    have hle := Nat.le_of_lt hlt
    by_cases hkl : k < vs.length
    · have hkli : (k : Int) < (vs.length : Int) := by omega
      obtain ⟨b, o, rfl, ⟨q, cc, f0, f1, f2, f3, _⟩, hb⟩ := (HX.out.below (by rw [hH]; exact hbe)) k hkl
      obtain ⟨⟨xk, xn, xt, xl⟩, hy⟩ : ∃ y, y = vs[k] := ⟨_, rfl⟩
      rw [← hy] at f0 f1 f2 f3
      simp only at f0 f1 f2 f3
      have ba := (Below.refl wr.heap.size wr).alloc (Nat.le_refl _) (.cells #[.int .i64 xk, .int .i64 xn, .string (S xt), .slice q xl.length cc] 52)
      have hrow2 := hrow.later ba
      obtain ⟨u, hu⟩ := hrow2.room k hkl
      have fz := hrow2.fz
      have HP := Lib.hid ((hrow.put k (by simp; omega) hkl xn).later ((Below.refl _ _).alloc (Nat.le_refl _) (.cells #[.int .i64 xk, .int .i64 xn, .string (S xt), .slice q xl.length cc] 52)))
      have HBS := Lib.hid ((hbe.setCell (p := ⟨H, k, none⟩) (Nat.le_refl _) (.int .i64 xn)).alloc (by simpa using hle) (.cells #[.int .i64 xk, .int .i64 xn, .string (S xt), .slice q xl.length cc] 52))
      have HBE := Lib.hid (hbe.trans (ba.mono hle))
      have HA := Lib.hid hA
      have HY := Lib.hid hy
      clear hrow hA hbe hy ba hrow2
      by_cases h1 : xk = 1
      · subst h1
        go_wp2_with fail
        refine (need_ok 23 _).mono ?_
        rintro e w1 ⟨rfl, rfl⟩
        go_wp2_with fail
        go_roundw
        case rel => exact ⟨k + 1, by omega, by go_num, by
            rw [List.take_add_one, List.getElem?_eq_getElem hkl, ← HY.out]
            simpa using HP.out, fun j hj hjk => by
          by_cases e : j = k
          · subst e; rw [← HY.out]
          · exact HA.out j hj (by omega), HBS.out⟩
        case measure => simp [intOf]; omega
      · have e1 : (xk == 1) = false := by simpa using h1
        have HM := Lib.hid (HMISS.out k hkl (by rw [← HY.out]; exact h1))
        go_wp2_with fail
        refine (need_bad 23 _).mono ?_
        rintro e w1 ⟨rfl, rfl⟩
        unfold panE
        go_wp2_with fail
        exact ⟨rfl, .inr ⟨HM.out, rfl⟩, HBE.out⟩
    · have hkli : ¬ (k : Int) < (vs.length : Int) := by omega
      have hk2 : k = vs.length := by omega
      have HR := Lib.hid hrow
      have HBE := Lib.hid hbe
      have HA := Lib.hid (HALL.out fun j hj => hA j hj (by omega))
      clear hrow hA hbe
      go_wp2_with fail
      go_ret
      have hnn := HR.out.nums
      rw [hk2, List.take_length] at hnn
      refine ⟨.inl ⟨HA.out, _, _, rfl, hnn, by simp, fun g off e _ => ?_⟩, HBE.out⟩
      injection e with e; injection e with e _ _; omega
end Go.Proofs.YtabbdkdpmpjchaaGreatDoor.Ev

namespace Go.Proofs.YtabbdkdpmpjchaaGreatDoor.Ev
open Go.RowKit
open Ex Lx Va
set_option linter.unusedVariables false
set_option linter.unusedSimpArgs false
set_option maxHeartbeats 1000000 in
theorem clip_any (a : Option Addr) (n c : Nat) (hc : n ≤ c) (w : World) : Calls Tryz.prog 150 #[.slice a n c] w fun e w' => e = .returned (.slice a n n) ∧ w = w' := by
  cases a with
  | none =>
    go_enter Tryz.func150, Tryz.ntmps150
    go_wp2_with fail
    go_ret
    exact ⟨rfl, rfl⟩
  | some p =>
    go_enter Tryz.func150, Tryz.ntmps150
    go_wp2_with fail
    go_ret
    exact ⟨rfl, rfl⟩
theorem step_app1 {P : Program} {ops : Array Oper} {o : Oper} {a : Act} {w : World} {K : Act → World → Prop} {Q : Exit → Act → World → Prop} {E : Prop} (hgd : o.guard = none) (s x : Operand) (t u : TypeId)
    (ho : o.op = .call { callee := .builtin .append, args := #[s, x], argTypes := #[t, u] }) {v vx : Value} (hs : a.eval s = v) (hx : a.eval x = vx) (n : Nat) {R : Option Addr → Nat → World → Prop}
    (h : ∃ q c w', (Builtin.append_ #[t, u] o.type #[v, vx]).run P w = .ok (.slice q n c) w' ∧ R q c w') (hk : ∀ q c w', R q c w' → K (a.put o.dst (.slice q n c)) w') : if Region.wanted o (yielded ops a.tmps) = true then Oper.wp P o a w K Q else E := by
  obtain ⟨q, c, w', hr, hR⟩ := h
  have hw : Region.wanted o (yielded ops a.tmps) = true := by simp [Region.wanted, hgd]
  rw [if_pos hw]
  unfold Oper.wp execOp
  simp only [ho, resolve, invoke, builtin, Sem.run_bind, Sem.run_pure, Result.andThen_ok, List.map_toArray, List.map_cons, List.map_nil, hs, hx, hr]
  exact hk q c w' hR
theorem NumsAt.drew {w : World} {a : Option Addr} {l : List Int} (h : NumsAt w a l) : NumsAt w.drew a l := h.below (Below.refl _ _).drew
theorem owned_fr {w : World} {B n : Nat} {v : Value} {l : List Int} (h : w.ownsRow B 2 1 v n (i64C l)) (hn : n = l.length) : ∃ a c, v = .slice a l.length c ∧ FrAt B w a l c := by
  obtain ⟨a, c, e, hx⟩ := owned_nums h hn
  subst hn
  rcases h.2 with ⟨e2, h0⟩ | ⟨g, cap, cur, e2, hg, _, hc, _⟩
  · have : l = [] := List.length_eq_zero_iff.1 h0
    subst this
    exact ⟨a, c, e, hx, Nat.zero_le _, fun _ _ _ h => absurd rfl h⟩
  · rw [e] at e2
    injection e2 with e1 _ e3
    subst e1 e3
    exact ⟨_, _, e, hx, by omega, fun g' off e' _ => by injection e' with e'; injection e' with e' _ _; omega⟩
theorem app_one (W : World) (l : List Int) (hl : l.length ≤ 1000) (a : Option Addr) (x : Int) (H : Nat) (hx : NumsAt W a l) (hnew : NumsAt W (some ⟨H, 0, none⟩) [x]) :
    ∃ a' c' w', (Builtin.append_ #[50, 50] 50 #[.slice a l.length l.length, .slice (some ⟨H, 0, none⟩) 1 1]).run Tryz.prog W = .ok (.slice a' (l.length + 1) c') w' ∧ FrAt W.heap.size w' a' (l ++ [x]) c' ∧ Below W.heap.size W w' := by
  cases a with
  | none =>
    have hl0 : l = [] := by
      cases l with
      | nil => rfl
      | cons y r => obtain ⟨_, _, e, _⟩ := hx 0 (by simp); cases e
    subst hl0
    obtain ⟨v', w', hr, ho, hg⟩ := app_nums W.heap.size (.slice none 0 0) 0 [] W (World.ownsRow_nil _ _ _ _) [x] _ 1 hnew (by simp) (Nat.le_refl _)
    rw [List.nil_append] at ho
    obtain ⟨a', c', rfl, hn⟩ := owned_fr ho (by simp)
    exact ⟨a', c', w', hr, hn, (Below.refl _ _).grown hg (Nat.le_refl _) (by simp [Value.ownBlock])⟩
  | some p =>
    obtain ⟨i0, hi, hz0, hz1, hz2⟩ := info_parts info64
    have cells : ∀ (q : Addr) (m : List Int), NumsAt W (some q) m → ∀ j u, (i64C m)[j]? = some u → W.cell? (q.add j) = some u := fun q m hm j u hu => by
      have hj : j < m.length := by
        have := (List.getElem?_eq_some_iff.1 hu).1
        simpa [i64C] using this
      obtain ⟨b, off, e, hc, _⟩ := hm j hj
      obtain rfl := Option.some.inj e
      rw [Addr.add_lit, hc]
      simp [i64C, hj] at hu
      simp [List.getD, hj, hu]
    obtain ⟨v', w', hr, ho, hg⟩ := run_append_arg_grows (P := Tryz.prog) W 50 50 2 i0 (.int .i64 0) 1 8 Tryz.underlying50 hi hz0 hz1 hz2 rfl (by decide) p l.length l.length (i64C l) (by rw [i64C_length]; omega) (cells p l hx) ⟨H, 0, none⟩ 1 1 (i64C [x]) (by simp [i64C]) (cells _ [x] hnew) (by omega) (by unfold maxLen; omega) (by omega)
    rw [← i64C_append] at ho
    obtain ⟨a', c', rfl, hn⟩ := owned_fr ho (by simp)
    rw [List.length_append] at hr
    exact ⟨a', c', w', hr, hn, (Below.refl _ _).grown hg (Nat.le_refl _) (by simp)⟩
theorem app_both (W : World) (l : List Int) (hl : l.length ≤ 1000) (a : Option Addr) (x : Int) (H : Nat) (hH : W.heap.size = H) (hx : NumsAt W a l) (V : World) (hV : V = (W.alloc (.cells #[.int .i64 x] 2)).drew ∨ V = W.drew.alloc (.cells #[.int .i64 x] 2) ∨ V = W.alloc (.cells #[.int .i64 x] 2)) :
    ∃ a' c' w', (Builtin.append_ #[50, 50] 50 #[.slice a l.length l.length, .slice (some ⟨H, 0, none⟩) 1 1]).run Tryz.prog V = .ok (.slice a' (l.length + 1) c') w' ∧ FrAt W.heap.size w' a' (l ++ [x]) c' ∧ Below W.heap.size W w' := by
  subst hH
  have hnew : ∀ (U : World), NumsAt (U.alloc (.cells #[.int .i64 x] 2)) (some ⟨U.heap.size, 0, none⟩) [x] := fun U i hi => by
    have : i = 0 := by simpa using hi
    subst this
    exact ⟨U.heap.size, 0, rfl, cell_of_row _ _ 0 _ _ (0, 0) (heap_alloc_new U _), by simp⟩
  have b1 := (Below.refl W.heap.size W).alloc (Nat.le_refl _) (.cells #[.int .i64 x] 2)
  have b2 := (Below.refl W.heap.size W).drew.alloc (Nat.le_refl _) (.cells #[.int .i64 x] 2)
  rcases hV with rfl | rfl | rfl
  · obtain ⟨a', c', w', h1, h2, h3⟩ := app_one _ l hl a x W.heap.size (hx.below b1.drew) (NumsAt.drew (hnew W))
    exact ⟨a', c', w', h1, h2.mono b1.drew.size, b1.drew.trans (h3.mono b1.drew.size)⟩
  · obtain ⟨a', c', w', h1, h2, h3⟩ := app_one _ l hl a x W.heap.size (hx.below b2) (hnew W.drew)
    exact ⟨a', c', w', h1, h2.mono b2.size, b2.trans (h3.mono b2.size)⟩
  · obtain ⟨a', c', w', h1, h2, h3⟩ := app_one _ l hl a x W.heap.size (hx.below b1) (hnew W)
    exact ⟨a', c', w', h1, h2.mono b1.size, b1.trans (h3.mono b1.size)⟩
def pushR (B : Nat) (k k2 : Int) (l : List Int) (n2 : Int) (e : Ending) (w' : World) : Prop :=
  (k = 5 ∧ k2 = 1 ∧ l.length < 16 ∧ ∃ a' c', e = .returned (.slice a' (l.length + 1) c') ∧ FrAt B w' a' (l ++ [n2]) c') ∨ (k = 5 ∧ k2 = 1 ∧ ¬ l.length < 16 ∧ e = panE 32) ∨ (¬ (k = 5 ∧ k2 = 1) ∧ e = panE 23)
set_option maxRecDepth 100000 in
set_option maxHeartbeats 4000000 in
theorem push_any (k n : Int) (t : List UInt8) (a : Option Addr) (l : List Int) (cap : Nat) (hcap : l.length ≤ cap) (k2 n2 : Int) (t2 : List UInt8) (a2 : Option Addr) (len2 cap2 : Nat) (w : World) (hl : NumsAt w a l) (hll : l.length ≤ 100000) :
    Calls Tryz.prog 106 #[vA k n t a l.length cap, vA k2 n2 t2 a2 len2 cap2] w fun e w' => pushR w.heap.size k k2 l n2 e w' ∧ Below w.heap.size w w' := by
  have hb1 := (Below.refl w.heap.size w).alloc (Nat.le_refl _) (.cells #[.int .i64 k, .int .i64 n, .string (S t), .slice a l.length cap] 52)
  have hb2 := hb1.alloc (by simp) (.cells #[.int .i64 k2, .int .i64 n2, .string (S t2), .slice a2 len2 cap2] 52)
  have HB := Lib.hid hb2
  have HL := Lib.hid (hl.below hb2)
  clear hb1 hb2 hl
  unfold vA
  by_cases hk : k = 5 ∧ k2 = 1
  · obtain ⟨rfl, rfl⟩ := hk
    by_cases h16 : l.length < 16
    · have h16i : (l.length : Int) < 16 := by omega
      have HAPP := Lib.hid (app_both _ l (by omega) a n2 (w.heap.size + 1 + 1) (by simp) HL.out)
      go_enter Tryz.func106, Tryz.ntmps106
      go_wp2_with fail
      refine (need_ok 23 _).mono ?_
      rintro e w1 ⟨rfl, rfl⟩
      go_wp2_with fail
      refine (need_ok 32 _).mono ?_
      rintro e w1 ⟨rfl, rfl⟩
      go_wp2_with fail
      go_region_law (first
        | (go_simp; go_at_call 150; refine (clip_any _ _ _ hcap _).mono ?_; rintro e w5 ⟨rfl, rfl⟩)
        | (refine step_app1 rfl _ _ _ _ rfl rfl rfl _ (HAPP.out _ (by first | exact .inl rfl | exact .inr (.inl rfl) | exact .inr (.inr rfl))) ?_; rintro q c' w6 ⟨hn6, b6⟩))
      all_goals
        go_wp2_with fail
        go_ret
        exact ⟨.inl ⟨rfl, rfl, h16, q, c', rfl, hn6.mono HB.out.size⟩, HB.out.trans (b6.mono HB.out.size)⟩
    · have h16i : decide ((l.length : Int) < 16) = false := decide_eq_false (by omega)
      go_enter Tryz.func106, Tryz.ntmps106
      go_wp2_with fail
      refine (need_ok 23 _).mono ?_
      rintro e w1 ⟨rfl, rfl⟩
      go_wp2_with fail
      refine (need_bad 32 _).mono ?_
      rintro e w1 ⟨rfl, rfl⟩
      unfold panE
      go_wp2_with fail
      exact ⟨rfl, .inr (.inl ⟨rfl, rfl, h16, rfl⟩), HB.out⟩
  · have hR : ∀ wx, pushR w.heap.size k k2 l n2 (panE 23) wx := fun wx => .inr (.inr ⟨hk, rfl⟩)
    have HR := Lib.hid hR
    clear hR
    by_cases h5 : k = 5
    · subst h5
      have e1 : (k2 == 1) = false := by simp; omega
      go_enter Tryz.func106, Tryz.ntmps106
      go_wp2_with fail
      refine (need_bad 23 _).mono ?_
      rintro e w1 ⟨rfl, rfl⟩
      unfold panE
      go_wp2_with fail
      exact ⟨rfl, HR.out _, HB.out⟩
    · have e5 : (k == 5) = false := by simpa using h5
      go_enter Tryz.func106, Tryz.ntmps106
      go_wp2_with fail
      refine (need_bad 23 _).mono ?_
      rintro e w1 ⟨rfl, rfl⟩
      unfold panE
      go_wp2_with fail
      exact ⟨rfl, HR.out _, HB.out⟩
end Go.Proofs.YtabbdkdpmpjchaaGreatDoor.Ev

namespace Go.Proofs.YtabbdkdpmpjchaaGreatDoor.Ev
open Go.RowKit
open Ex Lx Va
set_option linter.unusedVariables false
set_option linter.unusedSimpArgs false
def intR (x : V × Nat) : Ending := if x.2 = 0 then .returned (.int .i64 x.1.num) else panE x.2
theorem intR_num (n : Int) : intR (numE n) = numP n := by
  unfold intR numE numP
  by_cases h : fits64 n = true
  · rw [if_pos h, if_pos h]; rfl
  · rw [if_neg h, if_neg h]; rfl
theorem tmod_fits {a b : Int} (ha : I64 a) (hb : I64 b) (h0 : b ≠ 0) : fits64 (a.tmod b) = true := by
  have h1 := ha.lo; have h2 := ha.hi; have h3 := hb.lo; have h4 := hb.hi
  have e : (a.tmod b).natAbs = a.natAbs % b.natAbs := Int.natAbs_tmod a b
  have : a.natAbs % b.natAbs < b.natAbs := Nat.mod_lt _ (by omega)
  simp [fits64]; omega
def arithL (o : Int) (l : List Int) : V × Nat := if o = 11 then numE (-(l.getD 0 0)) else arithE o (l.getD 0 0) (l.getD 1 0)
theorem comp_any (o : Int) (l : List Int) (ho : (o = 11 ∧ l.length = 1) ∨ ((o = 20 ∨ o = 21 ∨ o = 22 ∨ o = 23 ∨ o = 24) ∧ l.length = 2)) (hI : ∀ n ∈ l, I64 n) (a : Option Addr) (c : Nat) (w : World) (hl : NumsAt w a l) :
    Calls Tryz.prog 153 #[.int .i64 o, .slice a l.length c] w fun e w' => e = intR (arithL o l) ∧ Below w.heap.size w w' := by
  rcases ho with ⟨rfl, h1⟩ | ⟨ho, h2⟩
  · match l, h1 with
    | [x], _ =>
      obtain ⟨g, off, rfl, hc, hg⟩ := hl 0 (by simp)
      have := comp_11 x (hI x (by simp)) g off c w hc
      have e : intR (arithL 11 [x]) = numP (0 - x) := by
        rw [show (0 : Int) - x = -x by omega, ← intR_num]; rfl
      rw [e]; exact this
  · match l, h2 with
    | [x, y], _ =>
      obtain ⟨g, off, rfl, hc, hg⟩ := hl 0 (by simp)
      obtain ⟨g', off', e', hc', hg'⟩ := hl 1 (by simp)
      obtain ⟨rfl, rfl⟩ : g = g' ∧ off = off' := by injection e' with e; injection e with e1 e2 _; exact ⟨e1, e2⟩
      have hx := hI x (by simp)
      have hy := hI y (by simp)
      rcases ho with rfl | rfl | rfl | rfl | rfl
      · rw [show intR (arithL 20 [x, y]) = numP (x * y) from (by rw [← intR_num]; rfl)]
        exact comp_20 x y hx hy g off c w hc hc'
      · have := comp_21 x y hx hy g off c w hc hc'
        rw [show intR (arithL 21 [x, y]) = (if y = 0 then panE 31 else numP (x.tdiv y)) from (by
          by_cases h0 : y = 0
          · rw [if_pos h0]; unfold arithL arithE; simp [h0, intR]
          · rw [if_neg h0, ← intR_num]; unfold arithL arithE; simp [h0])]
        exact this
      · have := comp_22 x y hx hy g off c w hc hc'
        rw [show intR (arithL 22 [x, y]) = (if y = 0 then panE 31 else .returned (.int .i64 (x.tmod y))) from (by
          by_cases h0 : y = 0
          · rw [if_pos h0]; unfold arithL arithE; simp [h0, intR]
          · rw [if_neg h0]
            have hf := tmod_fits hx hy h0
            have : intR (numE (x.tmod y)) = .returned (.int .i64 (x.tmod y)) := by rw [intR_num]; unfold numP; rw [if_pos hf]
            rw [← this]; unfold arithL arithE; simp [h0])]
        exact this
      · rw [show intR (arithL 23 [x, y]) = numP (x + y) from (by rw [← intR_num]; rfl)]
        exact comp_23 x y hx hy g off c w hc hc'
      · rw [show intR (arithL 24 [x, y]) = numP (x - y) from (by rw [← intR_num]; rfl)]
        exact comp_24 x y hx hy g off c w hc hc'
theorem intR_cases (x : V × Nat) : intR x = .returned (.int .i64 x.1.num) ∨ ∃ k : Nat, intR x = panE (k : Int) := by
  unfold intR
  split
  · exact .inl rfl
  · exact .inr ⟨_, rfl⟩
end Go.Proofs.YtabbdkdpmpjchaaGreatDoor.Ev

namespace Go.Proofs.YtabbdkdpmpjchaaGreatDoor.Ev
open Go.RowKit
open Ex Lx Va
set_option linter.unusedVariables false
set_option linter.unusedSimpArgs false
theorem I64.of_b {n : Int} (h : B64 n) : I64 n := ⟨h.1, h.2⟩
theorem op_arith (o n : Int) (t : List UInt8) (vs : List V) (ho : (o = 11 ∧ vs.length = 1) ∨ ((o = 20 ∨ o = 21 ∨ o = 22 ∨ o = 23 ∨ o = 24) ∧ vs.length = 2)) : opE o n t vs = if allV vs 1 = true then arithL o (vs.map (·.num)) else (zeroV, 23) := by
  have hm : ∀ i, (argV vs i).num = (vs.map (·.num)).getD i 0 := fun i => by
    unfold argV
    rw [List.getD_eq_getElem?_getD, List.getD_eq_getElem?_getD, List.getElem?_map]
    cases vs[i]? <;> rfl
  unfold opE arithL
  rw [← hm 0, ← hm 1]
  cases ha : allV vs 1 with
  | true =>
    rcases ho with ⟨rfl, _⟩ | ⟨ho, _⟩
    · simp
    · rcases ho with rfl | rfl | rfl | rfl | rfl <;> simp
  | false =>
    rcases ho with ⟨rfl, _⟩ | ⟨ho, _⟩
    · simp
    · rcases ho with rfl | rfl | rfl | rfl | rfl <;> simp
set_option maxRecDepth 100000 in
set_option maxHeartbeats 4000000 in
theorem number_c (o n : Int) (t : List UInt8) (p : Option Addr) (kk c : Nat) (vs : List V) (hg : ∀ v ∈ vs, Good v) (ho : (o = 11 ∧ vs.length = 1) ∨ ((o = 20 ∨ o = 21 ∨ o = 22 ∨ o = 23 ∨ o = 24) ∧ vs.length = 2)) (a : Option Addr) (cap : Nat) (w : World) (hx : ValsAt w a vs) :
    Calls Tryz.prog 107 #[.agg #[.int .i64 o, .int .i64 n, .string (S t), .slice p kk c], .slice a vs.length cap] w fun e w' => e = intR (opE o n t vs) ∧ Below w.heap.size w w' := by
  have hb := (Below.refl w.heap.size w).alloc (Nat.le_refl _) (.cells #[.int .i64 o, .int .i64 n, .string (S t), .slice p kk c] 24)
  have hx2 := hx.below hb.drew
  have hn := numbers_any vs (by rcases ho with ⟨_, h⟩ | ⟨_, h⟩ <;> omega) a cap _ hx2
  have HB := Lib.hid hb.drew
  have e1 : (o == 1) = false := by simp; omega
  have e12 : (o == 12) = false := by simp; omega
  have e25 : (o == 25) = false := by simp; omega
  rw [op_arith o n t vs ho]
  cases ha : allV vs 1 with
  | true =>
    rw [if_pos rfl]
    have HN := Lib.hid (hn.mono (R' := fun e w' => (∃ a' c', e = .returned (.slice a' vs.length c') ∧ NumsAt w' a' (vs.map (·.num))) ∧ Below (w.alloc (.cells #[.int .i64 o, .int .i64 n, .string (S t), .slice p kk c] 24)).drew.heap.size (w.alloc (.cells #[.int .i64 o, .int .i64 n, .string (S t), .slice p kk c] 24)).drew w') (fun e w' h => by
      refine ⟨?_, h.2⟩
      rcases h.1 with ⟨_, a', c', h, hf⟩ | ⟨h, _⟩
      · exact ⟨a', c', h, hf.1⟩
      · rw [ha] at h; cases h))
    have HC := Lib.hid (fun a' c' w' (h : NumsAt w' a' (vs.map (·.num))) => comp_any o (vs.map (·.num)) (by simpa using ho) (fun m hm => by
      obtain ⟨v, hv, rfl⟩ := List.mem_map.1 hm
      exact I64.of_b (hg v hv).num) a' c' w' h)
    simp only [List.length_map] at HC
    clear hb hx hx2 hn ho hg
    generalize vs.map (·.num) = ns at *
    rcases intR_cases (arithL o ns) with hR | ⟨k, hR⟩
    · rw [hR] at HC ⊢
      generalize (arithL o ns).1.num = m at *
      clear hR
      go_enter Tryz.func107, Tryz.ntmps107
      go_wp2_with fail
      go_region_law (first
        | (go_simp; go_at_call 105; refine HN.out.mono ?_; rintro e w5 ⟨⟨a', c', rfl, hn5⟩, b5⟩; have q0 : w5.cell? ⟨w.heap.size, 0, none⟩ = some (.int .i64 o) := (b5.cell (p := ⟨w.heap.size, 0, none⟩) (by simp)).trans (by simp))
        | (go_simp; go_at_call 153; refine (HC.out _ _ _ (by assumption)).mono ?_; rintro e w6 ⟨rfl, b6⟩))
      all_goals
        have HBE := Lib.hid (HB.out.trans (b5.mono HB.out.size))
        go_wp2_with fail
        go_ret
        exact ⟨rfl, HBE.out.trans (b6.mono HBE.out.size)⟩
    · rw [hR] at HC ⊢
      clear hR
      go_enter Tryz.func107, Tryz.ntmps107
      go_wp2_with fail
      go_region_dies
      all_goals
        rename_i hK
        refine HN.out.mono ?_
        rintro e w5 ⟨⟨a', c', rfl, hn5⟩, b5⟩
        have q0 : w5.cell? ⟨w.heap.size, 0, none⟩ = some (.int .i64 o) := (b5.cell (p := ⟨w.heap.size, 0, none⟩) (by simp)).trans (by simp)
        have HBE := Lib.hid (HB.out.trans (b5.mono HB.out.size))
        refine hK _ _ ?_
        clear hK
      · refine wpAny_ready (rs := [4]) (by kernel_rfl) (by simp) ?_
        refine AllReady.cons rfl (fun K2 hK2 => ?_) AllReady.nil
        go_simp
        refine (HC.out _ _ _ hn5).mono ?_
        rintro e w6 ⟨rfl, b6⟩
        unfold panE
        go_simp
        exact ⟨rfl, rfl, HBE.out.trans (b6.mono HBE.out.size)⟩
      · refine wpAny_ready (rs := [1]) (by kernel_rfl) (by simp) ?_
        refine AllReady.cons rfl (fun K1 hK1 => ?_) AllReady.nil
        go_simp
        refine hK1 _ _ ?_
        clear hK1
        refine wpAny_ready (rs := [4]) (by kernel_rfl) (by simp) ?_
        refine AllReady.cons rfl (fun K2 hK2 => ?_) AllReady.nil
        go_simp
        refine (HC.out _ _ _ hn5).mono ?_
        rintro e w6 ⟨rfl, b6⟩
        unfold panE
        go_simp
        exact ⟨rfl, rfl, HBE.out.trans (b6.mono HBE.out.size)⟩
  | false =>
    rw [if_neg (by decide)]
    have HN := Lib.hid (hn.mono (R' := fun e w' => e = panE 23 ∧ Below (w.alloc (.cells #[.int .i64 o, .int .i64 n, .string (S t), .slice p kk c] 24)).drew.heap.size (w.alloc (.cells #[.int .i64 o, .int .i64 n, .string (S t), .slice p kk c] 24)).drew w') (fun e w' h => by
      refine ⟨?_, h.2⟩
      rcases h.1 with ⟨h, _⟩ | ⟨_, h⟩
      · rw [ha] at h; cases h
      · exact h))
    clear hb hx hx2 hn ho hg
    go_enter Tryz.func107, Tryz.ntmps107
    go_wp2_with fail
    go_region_dies
    all_goals
      refine HN.out.mono ?_
      rintro e w5 ⟨rfl, b5⟩
      unfold panE
      go_wp2_with fail
      exact ⟨rfl, rfl, HB.out.trans (b5.mono HB.out.size)⟩
end Go.Proofs.YtabbdkdpmpjchaaGreatDoor.Ev

namespace Go.Proofs.YtabbdkdpmpjchaaGreatDoor.Ev
open Go.RowKit
open Ex Lx Va Ty
set_option linter.unusedVariables false
set_option linter.unusedSimpArgs false
def LAt (ok : Nat → Prop) (w : World) (a : Option Addr) (l : List Int) (c : Nat) : Prop := NumsAt w a l ∧ l.length ≤ c ∧ ∀ g off, a = some ⟨g, off, none⟩ → l ≠ [] → ok g
theorem LAt.below {ok : Nat → Prop} {w w' : World} {a : Option Addr} {l : List Int} {c : Nat} (h : LAt ok w a l c) (k : Below w.heap.size w w') : LAt ok w' a l c := ⟨h.1.below k, h.2⟩
theorem LAt.mono {ok ok' : Nat → Prop} {w : World} {a : Option Addr} {l : List Int} {c : Nat} (h : LAt ok w a l c) (hk : ∀ g, ok g → ok' g) : LAt ok' w a l c := ⟨h.1, h.2.1, fun g off e hl => hk g (h.2.2 g off e hl)⟩
theorem LAt.keep {ok : Nat → Prop} {w w' : World} {a : Option Addr} {l : List Int} {c : Nat} (h : LAt ok w a l c) (k : Kept ok w w') : LAt ok w' a l c := by
  refine ⟨fun i hi => ?_, h.2⟩
  obtain ⟨g, off, e, hc, hl⟩ := h.1 i hi
  exact ⟨g, off, e, (k.cell (h.2.2 g off e (by intro e; subst e; exact absurd hi (by simp))) hl).trans hc, Nat.lt_of_lt_of_le hl k.size⟩
theorem LAt.of_fr {B : Nat} {ok : Nat → Prop} {w : World} {a : Option Addr} {l : List Int} {c : Nat} (h : FrAt B w a l c) (hB : ∀ g, B ≤ g → ok g) : LAt ok w a l c := ⟨h.1, h.2.1, fun g off e hl => hB g (h.2.2 g off e hl)⟩
theorem fr_nil (B : Nat) (w : World) : FrAt B w none [] 0 := ⟨fun i hi => absurd hi (by simp), Nat.le_refl _, fun _ _ _ h => absurd rfl h⟩
def VAt (ok : Nat → Prop) (w : World) (b o : Nat) (v : V) : Prop := ∃ a c, w.cell? ⟨b, o, none⟩ = some (.int .i64 v.kind) ∧ w.cell? ⟨b, o + 1, none⟩ = some (.int .i64 v.num) ∧ w.cell? ⟨b, o + 2, none⟩ = some (.string (S v.text)) ∧
  w.cell? ⟨b, o + 3, none⟩ = some (.slice a v.list.length c) ∧ LAt ok w a v.list c
def VsAt (ok : Nat → Prop) (w : World) (a : Option Addr) (vs : List V) : Prop := ∀ i, (h : i < vs.length) → ∃ b off, a = some ⟨b, off, none⟩ ∧ VAt ok w b (off + i * 4) vs[i] ∧ b < w.heap.size
theorem VAt.below {ok : Nat → Prop} {w w' : World} {b o : Nat} {v : V} (h : VAt ok w b o v) (hl : b < w.heap.size) (k : Below w.heap.size w w') : VAt ok w' b o v := by
  obtain ⟨a, cap, h0, h1, h2, h3, h4⟩ := h
  exact ⟨a, cap, (k.cell (p := ⟨b, o, none⟩) hl).trans h0, (k.cell (p := ⟨b, o + 1, none⟩) hl).trans h1, (k.cell (p := ⟨b, o + 2, none⟩) hl).trans h2, (k.cell (p := ⟨b, o + 3, none⟩) hl).trans h3, h4.below k⟩
theorem VsAt.below {ok : Nat → Prop} {w w' : World} {a : Option Addr} {vs : List V} (h : VsAt ok w a vs) (k : Below w.heap.size w w') : VsAt ok w' a vs := fun i hi => by
  obtain ⟨b, off, e, hv, hl⟩ := h i hi
  exact ⟨b, off, e, hv.below hl k, Nat.lt_of_lt_of_le hl k.size⟩
theorem VsAt.vals {ok : Nat → Prop} {w : World} {a : Option Addr} {vs : List V} (h : VsAt ok w a vs) : ValsAt w a vs := fun i hi => by
  obtain ⟨b, off, e, ⟨q, c, h0, h1, h2, h3, h4⟩, hl⟩ := h i hi
  exact ⟨b, off, e, ⟨q, c, h0, h1, h2, h3, h4.1⟩, hl⟩
def VRow (ok : Nat → Prop) (w : World) (H n : Nat) (l : List V) : Prop :=
  ∃ cur, w.heap[H]? = some (.cells cur 52 (0, 0)) ∧ cur.size = n * 4 ∧ ∀ i, (h : i < l.length) → ∃ a c, cur[i * 4]? = some (.int .i64 l[i].kind) ∧ cur[i * 4 + 1]? = some (.int .i64 l[i].num) ∧ cur[i * 4 + 2]? = some (.string (S l[i].text)) ∧ cur[i * 4 + 3]? = some (.slice a l[i].list.length c) ∧ LAt ok w a l[i].list c
theorem make_v (ok : Nat → Prop) (w : World) (n : Nat) (hn : n ≤ 100000) : ∃ w2 : World, (Instr.makeSlice 53 (.int .i64 (n : Int)) (.int .i64 (n : Int))).run Tryz.prog w = .ok (.slice (some ⟨w.heap.size, 0, none⟩) n n) w2 ∧ VRow ok w2 w.heap.size n [] ∧ Below w.heap.size w w2 := by
  obtain ⟨i0, hi, hz0, hz1, hz2⟩ := info_parts infoVal
  obtain ⟨w2, hmk, hown, hgr⟩ := run_make_full (P := Tryz.prog) w w.heap.size 53 52 i0 _ 4 Tryz.underlying53 hi hz0 hz1 .i64 .i64 n (by rw [hz2]; omega) (by unfold maxLen; omega) (Nat.le_refl _)
  refine ⟨w2, hmk, ?_, (Below.refl _ _).grown hgr (Nat.le_refl _) (by simp)⟩
  rcases hown.2 with ⟨h1, _⟩ | ⟨g, cap, cur, h1, _, h3, _, _, h6, _⟩
  · cases h1
  · injection h1 with e1 e2 e3
    injection e1 with e1
    injection e1 with e1 _ _
    subst e1 e3
    exact ⟨cur, h3, h6, fun i hi => absurd hi (Nat.not_lt_zero _)⟩
theorem VRow.lt {ok : Nat → Prop} {w : World} {H n : Nat} {l : List V} (h : VRow ok w H n l) : H < w.heap.size := by
  obtain ⟨cur, hb, _⟩ := h
  exact (Array.getElem?_eq_some_iff.1 hb).1
theorem VRow.later {ok : Nat → Prop} {w w' : World} {H n : Nat} {l : List V} (h : VRow ok w H n l) (k : Below w.heap.size w w') : VRow ok w' H n l := by
  have hlt := h.lt
  obtain ⟨cur, hb, hs, hc⟩ := h
  refine ⟨cur, (k.block H hlt).trans hb, hs, fun i hi => ?_⟩
  obtain ⟨a, c, h0, h1, h2, h3, h4⟩ := hc i hi
  exact ⟨a, c, h0, h1, h2, h3, h4.below k⟩
theorem VRow.fz {ok : Nat → Prop} {w : World} {H n : Nat} {l : List V} (h : VRow ok w H n l) (j : Nat) : w.frozen? ⟨H, j, none⟩ = false := by
  obtain ⟨cur, hb, _⟩ := h
  exact frozen_of_row w H j _ _ hb
theorem VRow.room {ok : Nat → Prop} {w : World} {H n : Nat} {l : List V} (h : VRow ok w H n l) (i j : Nat) (hi : i < n) (hj : j < 4) : ∃ u, w.cell? ⟨H, i * 4 + j, none⟩ = some u := by
  obtain ⟨cur, hb, hs, _⟩ := h
  rw [cell_of_row w H (i * 4 + j) _ _ (0, 0) hb]
  exact ⟨_, Array.getElem?_eq_getElem (by omega)⟩
def putV (w : World) (H i : Nat) (v : V) (a : Option Addr) (c : Nat) : World :=
  (((w.setCell ⟨H, i * 4, none⟩ (.int .i64 v.kind)).setCell ⟨H, i * 4 + 1, none⟩ (.int .i64 v.num)).setCell ⟨H, i * 4 + 2, none⟩ (.string (S v.text))).setCell ⟨H, i * 4 + 3, none⟩ (.slice a v.list.length c)
theorem putV_kept (ok : Nat → Prop) (w : World) (H i : Nat) (v : V) (a : Option Addr) (c : Nat) (h : ¬ ok H) : Kept ok w (putV w H i v a c) :=
  (((Kept.set w H _ _ h).trans (Kept.set _ H _ _ h)).trans (Kept.set _ H _ _ h)).trans (Kept.set _ H _ _ h)
theorem putV_below {B : Nat} {w0 w : World} (h : Below B w0 w) (H i : Nat) (hB : B ≤ H) (v : V) (a : Option Addr) (c : Nat) : Below B w0 (putV w H i v a c) :=
  (((h.setCell (p := ⟨H, i * 4, none⟩) hB _).setCell (p := ⟨H, i * 4 + 1, none⟩) hB _).setCell (p := ⟨H, i * 4 + 2, none⟩) hB _).setCell (p := ⟨H, i * 4 + 3, none⟩) hB _
theorem VRow.put {ok : Nat → Prop} {w : World} {H n : Nat} {l : List V} (h : VRow ok w H n l) (hok : ¬ ok H) (i : Nat) (hi : i = l.length) (hn : i < n) (v : V) (a : Option Addr) (c : Nat) (hv : LAt ok w a v.list c) :
    VRow ok (putV w H i v a c) H n (l ++ [v]) := by
  subst hi
  have hk := putV_kept ok w H l.length v a c hok
  obtain ⟨cur, hb, hs, hc⟩ := h
  refine ⟨_, heap_setCell_same _ H _ _ _ _ (heap_setCell_same _ H _ _ _ _ (heap_setCell_same _ H _ _ _ _ (heap_setCell_same w H _ _ _ _ hb))), by simp [hs], fun j hj => ?_⟩
  rw [List.length_append] at hj
  simp only [List.length_singleton] at hj
  by_cases e : j < l.length
  · obtain ⟨a', c', h0, h1, h2, h3, h4⟩ := hc j e
    rw [List.getElem_append_left e]
    refine ⟨a', c', ?_, ?_, ?_, ?_, h4.keep hk⟩
    · rw [Array.getElem?_setIfInBounds_ne (by omega), Array.getElem?_setIfInBounds_ne (by omega), Array.getElem?_setIfInBounds_ne (by omega), Array.getElem?_setIfInBounds_ne (by omega)]; exact h0
    · rw [Array.getElem?_setIfInBounds_ne (by omega), Array.getElem?_setIfInBounds_ne (by omega), Array.getElem?_setIfInBounds_ne (by omega), Array.getElem?_setIfInBounds_ne (by omega)]; exact h1
    · rw [Array.getElem?_setIfInBounds_ne (by omega), Array.getElem?_setIfInBounds_ne (by omega), Array.getElem?_setIfInBounds_ne (by omega), Array.getElem?_setIfInBounds_ne (by omega)]; exact h2
    · rw [Array.getElem?_setIfInBounds_ne (by omega), Array.getElem?_setIfInBounds_ne (by omega), Array.getElem?_setIfInBounds_ne (by omega), Array.getElem?_setIfInBounds_ne (by omega)]; exact h3
  · obtain rfl : j = l.length := by omega
    rw [List.getElem_append_right (by omega)]
    simp only [Nat.sub_self, List.getElem_cons_zero]
    refine ⟨a, c, ?_, ?_, ?_, ?_, hv.keep hk⟩
    · rw [Array.getElem?_setIfInBounds_ne (by omega), Array.getElem?_setIfInBounds_ne (by omega), Array.getElem?_setIfInBounds_ne (by omega), Array.getElem?_setIfInBounds_self_of_lt (by omega)]
    · rw [Array.getElem?_setIfInBounds_ne (by omega), Array.getElem?_setIfInBounds_ne (by omega), Array.getElem?_setIfInBounds_self_of_lt (by simp; omega)]
    · rw [Array.getElem?_setIfInBounds_ne (by omega), Array.getElem?_setIfInBounds_self_of_lt (by simp; omega)]
    · rw [Array.getElem?_setIfInBounds_self_of_lt (by simp; omega)]
theorem VRow.at_ {ok : Nat → Prop} {w : World} {H n : Nat} {l : List V} (h : VRow ok w H n l) : VsAt ok w (some ⟨H, 0, none⟩) l := fun i hi => by
  have hlt := h.lt
  obtain ⟨cur, hb, hs, hc⟩ := h
  obtain ⟨a, c, h0, h1, h2, h3, h4⟩ := hc i hi
  refine ⟨H, 0, rfl, ⟨a, c, ?_, ?_, ?_, ?_, h4⟩, hlt⟩
  · rw [Nat.zero_add]; exact (cell_of_row w H _ _ _ (0, 0) hb).trans h0
  · rw [Nat.zero_add]; exact (cell_of_row w H _ _ _ (0, 0) hb).trans h1
  · rw [Nat.zero_add]; exact (cell_of_row w H _ _ _ (0, 0) hb).trans h2
  · rw [Nat.zero_add]; exact (cell_of_row w H _ _ _ (0, 0) hb).trans h3
def VB (w : World) (H : Nat) (a b c d : Value) : Prop := w.heap[H]? = some (.cells #[a, b, c, d] 52 (0, 0))
section
variable {w w' : World} {H : Nat} {a b c d : Value}
theorem VB.c0 (h : VB w H a b c d) : w.cell? ⟨H, 0, none⟩ = some a := cell_of_row w H 0 _ _ (0, 0) h
theorem VB.c1 (h : VB w H a b c d) : w.cell? ⟨H, 1, none⟩ = some b := cell_of_row w H 1 _ _ (0, 0) h
theorem VB.c2 (h : VB w H a b c d) : w.cell? ⟨H, 2, none⟩ = some c := cell_of_row w H 2 _ _ (0, 0) h
theorem VB.c3 (h : VB w H a b c d) : w.cell? ⟨H, 3, none⟩ = some d := cell_of_row w H 3 _ _ (0, 0) h
theorem VB.fz (h : VB w H a b c d) (j : Nat) : w.frozen? ⟨H, j, none⟩ = false := frozen_of_row w H j _ _ h
theorem VB.lt (h : VB w H a b c d) : H < w.heap.size := World.block_lt_of_cell? w _ h.c0
theorem VB.later (h : VB w H a b c d) (k : Below w.heap.size w w') : VB w' H a b c d := (k.block H h.lt).trans h
theorem VB.put (h : VB w H a b c d) (a' b' c' d' : Value) : VB (put4 w H a' b' c' d') H a' b' c' d' :=
  heap_setCell_same _ H 3 _ _ _ (heap_setCell_same _ H 2 _ _ _ (heap_setCell_same _ H 1 _ _ _ (heap_setCell_same w H 0 _ _ _ h)))
end
theorem VB.new (W : World) (a b c d : Value) (k : Nat) (h : W.heap.size = k) : VB (W.alloc (.cells #[a, b, c, d] 52)) k a b c d := new_box W _ _ k h
theorem below_put {B : Nat} {w w' : World} (h : Below B w w') (H : Nat) (hH : B ≤ H) (x y z u : Value) : Below B w (put4 w' H x y z u) :=
  (((h.setCell (p := ⟨H, 0, none⟩) hH x).setCell (p := ⟨H, 1, none⟩) hH y).setCell (p := ⟨H, 2, none⟩) hH z).setCell (p := ⟨H, 3, none⟩) hH u
theorem res_val {fn : Func} {p : Tmp} (h : fn.results = #[.cell p 52]) (tmps : Array Value) (w : World) (g : Nat) (a b c d : Value)
    (hp : tmps.getD p undef = .pointer (some ⟨g, 0, none⟩)) (hg : VB w g a b c d) : (results fn tmps).run Tryz.prog w = .ok (.agg #[a, b, c, d]) w :=
  results_cell_row h tmps w g _ _ _ _ hp hg Tryz.underlying52 rfl (by kernel_rfl)
theorem fr_put {B H : Nat} {w : World} {a : Option Addr} {l : List Int} {c : Nat} (h : FrAt B w a l c) (hH : H < B) (x y z u : Value) : FrAt B (put4 w H x y z u) a l c :=
  LAt.keep (ok := (B ≤ ·)) h (Kept.put w H x y z u (by show ¬ B ≤ H; omega))
def CameIn (ok : Nat → Prop) (x : V × Nat) (e : Ending) (w : World) : Prop := (x.2 = 0 ∧ ∃ a c, e = .returned (valC x.1 a c) ∧ LAt ok w a x.1.list c) ∨ (x.2 ≠ 0 ∧ e = panE x.2)
def CameF (B : Nat) (x : V × Nat) (e : Ending) (w : World) : Prop := (x.2 = 0 ∧ ∃ a c, e = .returned (valC x.1 a c) ∧ FrAt B w a x.1.list c) ∨ (x.2 ≠ 0 ∧ e = panE x.2)
end Go.Proofs.YtabbdkdpmpjchaaGreatDoor.Ev

namespace Go.Proofs.YtabbdkdpmpjchaaGreatDoor.Ev
open Go.RowKit
open Ex Lx Va
set_option linter.unusedVariables false
set_option linter.unusedSimpArgs false
set_option maxRecDepth 100000 in
set_option maxHeartbeats 1000000 in
theorem number_1 (n : Int) (t : List UInt8) (p : Option Addr) (kk c : Nat) (a : Option Addr) (k cap : Nat) (w : World) :
    Calls Tryz.prog 107 #[.agg #[.int .i64 1, .int .i64 n, .string (S t), .slice p kk c], .slice a k cap] w fun e w' => e = .returned (.int .i64 n) ∧ Below w.heap.size w w' := by
  have HB := Lib.hid ((Below.refl w.heap.size w).alloc (Nat.le_refl _) (.cells #[.int .i64 1, .int .i64 n, .string (S t), .slice p kk c] 24))
  go_enter Tryz.func107, Tryz.ntmps107
  go_wp2_with fail
  go_ret
  exact ⟨rfl, HB.out⟩
set_option maxRecDepth 100000 in
set_option maxHeartbeats 1000000 in
theorem number_12 (n : Int) (t : List UInt8) (p : Option Addr) (kk c : Nat) (x : V) (a : Option Addr) (cap : Nat) (w : World) (hx : ValsAt w a [x]) :
    Calls Tryz.prog 107 #[.agg #[.int .i64 12, .int .i64 n, .string (S t), .slice p kk c], .slice a 1 cap] w fun e w' => e = intR (opE 12 n t [x]) ∧ Below w.heap.size w w' := by
  have hb := (Below.refl w.heap.size w).alloc (Nat.le_refl _) (.cells #[.int .i64 12, .int .i64 n, .string (S t), .slice p kk c] 24)
  obtain ⟨b, o, rfl, ⟨q, cc, h0, h1, h2, h3, _⟩, hl⟩ := hx.below hb 0 (by simp)
  simp only [List.getElem_cons_zero, Nat.zero_mul, Nat.add_zero] at h0 h1 h2 h3
  have HB := Lib.hid hb
  have HR := Lib.hid (show intR (opE 12 n t [x]) = (if x.kind = 5 then .returned (.int .i64 (x.list.length : Int)) else if x.kind = 3 then .returned (.int .i64 (x.text.length : Int)) else panE 23) from by
    unfold opE argV
    simp only [List.getD_cons_zero]
    by_cases h5 : x.kind = 5
    · simp [h5, intR, intV]
    · by_cases h3 : x.kind = 3
      · simp [h3, intR, intV]
      · simp [h5, h3, intR])
  rw [HR.out]
  clear hb HR
  obtain ⟨xk, xn, xt, xl⟩ := x
  simp only at h0 h1 h2 h3 ⊢
  have HS := Lib.hid (fun W => size_any xk xn xt q xl.length cc W)
  unfold vA at HS
  generalize xl.length = ln at *
  by_cases h5 : xk = 5
  · subst h5
    simp only [if_true] at HS ⊢
    go_enter Tryz.func107, Tryz.ntmps107
    go_wp2_with fail
    refine (HS.out _).mono ?_
    rintro e w2 ⟨rfl, b2⟩
    have HB2 := Lib.hid (HB.out.trans (b2.mono HB.out.size))
    clear b2
    go_wp2_with fail
    go_ret
    exact ⟨rfl, HB2.out⟩
  by_cases h3 : xk = 3
  · subst h3
    simp only [if_neg h5, if_true] at HS ⊢
    go_enter Tryz.func107, Tryz.ntmps107
    go_wp2_with fail
    refine (HS.out _).mono ?_
    rintro e w2 ⟨rfl, b2⟩
    have HB2 := Lib.hid (HB.out.trans (b2.mono HB.out.size))
    clear b2
    go_wp2_with fail
    go_ret
    exact ⟨rfl, HB2.out⟩
  · simp only [if_neg h5, if_neg h3] at HS ⊢
    go_enter Tryz.func107, Tryz.ntmps107
    go_wp2_with fail
    refine (HS.out _).mono ?_
    rintro e w2 ⟨rfl, b2⟩
    have HB2 := Lib.hid (HB.out.trans (b2.mono HB.out.size))
    clear b2
    unfold panE
    go_wp2_with fail
    exact ⟨rfl, rfl, HB2.out⟩
end Go.Proofs.YtabbdkdpmpjchaaGreatDoor.Ev

namespace Go.Proofs.YtabbdkdpmpjchaaGreatDoor.Ev
open Go.RowKit
open Ex Lx Va
set_option linter.unusedVariables false
set_option linter.unusedSimpArgs false
theorem op_5 (n : Int) (t : List UInt8) (vs : List V) : opE 5 n t vs = if allV vs 1 = true then (⟨5, 0, [], vs.map (·.num)⟩, 0) else (zeroV, 23) := rfl
set_option maxRecDepth 100000 in
set_option maxHeartbeats 2000000 in
theorem node_5 (n : Int) (t : List UInt8) (p : Option Addr) (kk c : Nat) (vs : List V) (hn : vs.length ≤ 100000) (a : Option Addr) (cap : Nat) (w : World) (hx : ValsAt w a vs) :
    Calls Tryz.prog 62 #[.agg #[.int .i64 5, .int .i64 n, .string (S t), .slice p kk c], .slice a vs.length cap] w fun e w' => CameF w.heap.size (opE 5 n t vs) e w' ∧ Below w.heap.size w w' := by
  have hb := ((Below.refl w.heap.size w).alloc (Nat.le_refl _) (.cells #[.int .i64 5, .int .i64 n, .string (S t), .slice p kk c] 24)).alloc (by simp) (.cells #[.int .i64 0, .int .i64 0, .string ⟨#[]⟩, .slice none 0 0] 52)
  have HV := Lib.hid (VB.new (w.alloc (.cells #[.int .i64 5, .int .i64 n, .string (S t), .slice p kk c] 24)) (.int .i64 0) (.int .i64 0) (.string ⟨#[]⟩) (.slice none 0 0) (w.heap.size + 1) (by simp))
  have HX := Lib.hid (Bx.keep (Bx.new w (.int .i64 5) (.int .i64 n) (.string (S t)) (.slice p kk c)) (Kept.alloc (ok := fun _ => True) _ (.cells #[.int .i64 0, .int .i64 0, .string ⟨#[]⟩, .slice none 0 0] 52)) trivial)
  have HB := Lib.hid hb
  have hnum := fun (W : World) (k : Below ((w.alloc (.cells #[.int .i64 5, .int .i64 n, .string (S t), .slice p kk c] 24)).alloc (.cells #[.int .i64 0, .int .i64 0, .string ⟨#[]⟩, .slice none 0 0] 52)).heap.size ((w.alloc (.cells #[.int .i64 5, .int .i64 n, .string (S t), .slice p kk c] 24)).alloc (.cells #[.int .i64 0, .int .i64 0, .string ⟨#[]⟩, .slice none 0 0] 52)) W) => numbers_any vs hn a cap W ((hx.below hb).below k)
  have HLEN := Lib.hid (show (vs.map (·.num)).length = vs.length from List.length_map ..)
  have HSZ := Lib.hid (show ((w.alloc (.cells #[.int .i64 5, .int .i64 n, .string (S t), .slice p kk c] 24)).alloc (.cells #[.int .i64 0, .int .i64 0, .string ⟨#[]⟩, .slice none 0 0] 52)).heap.size = w.heap.size + 1 + 1 from by simp)
  rw [op_5]
  clear hb hx
  cases ha : allV vs 1 with
  | true =>
    have HN := Lib.hid (fun (W : World) (k : Below ((w.alloc (.cells #[.int .i64 5, .int .i64 n, .string (S t), .slice p kk c] 24)).alloc (.cells #[.int .i64 0, .int .i64 0, .string ⟨#[]⟩, .slice none 0 0] 52)).heap.size ((w.alloc (.cells #[.int .i64 5, .int .i64 n, .string (S t), .slice p kk c] 24)).alloc (.cells #[.int .i64 0, .int .i64 0, .string ⟨#[]⟩, .slice none 0 0] 52)) W) => (hnum W k).mono (R' := fun e w' => (∃ a' c', e = .returned (.slice a' vs.length c') ∧ FrAt W.heap.size w' a' (vs.map (·.num)) c') ∧ Below W.heap.size W w') (fun e w' h => by
      refine ⟨?_, h.2⟩
      rcases h.1 with ⟨_, h⟩ | ⟨h, _⟩
      · exact h
      · rw [ha] at h; cases h))
    rw [if_pos rfl]
    clear hnum hn ha
    generalize vs.map (·.num) = ns at *
    generalize vs.length = ln at *
    go_enter Tryz.func62, Tryz.ntmps62
    go_wp2_with fail
    refine (HN.out _ (by first | exact Below.refl _ _ | exact (Below.refl _ _).drew | exact (Below.refl _ _).alloc (Nat.le_refl _) _)).mono ?_
    rintro e w3 ⟨⟨a', c', rfl, hfr⟩, b3⟩
    have HFR := Lib.hid hfr
    clear hfr
    have hnb := HV.out.later b3
    have fz := hnb.fz
    have k0 := hnb.c0
    have k1 := hnb.c1
    have k2 := hnb.c2
    have k3 := hnb.c3
    have HP := Lib.hid (hnb.put (.int .i64 5) (.int .i64 0) (.string ⟨#[]⟩) (.slice a' ln c'))
    have HBE := Lib.hid (below_put (HB.out.trans (b3.mono HB.out.size)) (w.heap.size + 1) (by omega) (.int .i64 5) (.int .i64 0) (.string ⟨#[]⟩) (.slice a' ln c'))
    clear hnb
    go_wp2_with fail
    exact bodyPost_ret (res_val rfl _ _ _ _ _ _ _ rfl HP.out) rfl ⟨.inl ⟨rfl, a', c', by rw [← HLEN.out]; rfl, (fr_put HFR.out (by rw [HSZ.out]; omega) _ _ _ _).mono HB.out.size⟩, HBE.out⟩
  | false =>
    have HN := Lib.hid (fun (W : World) (k : Below ((w.alloc (.cells #[.int .i64 5, .int .i64 n, .string (S t), .slice p kk c] 24)).alloc (.cells #[.int .i64 0, .int .i64 0, .string ⟨#[]⟩, .slice none 0 0] 52)).heap.size ((w.alloc (.cells #[.int .i64 5, .int .i64 n, .string (S t), .slice p kk c] 24)).alloc (.cells #[.int .i64 0, .int .i64 0, .string ⟨#[]⟩, .slice none 0 0] 52)) W) => (hnum W k).mono (R' := fun e w' => e = panE 23 ∧ Below W.heap.size W w') (fun e w' h => by
      refine ⟨?_, h.2⟩
      rcases h.1 with ⟨h, _⟩ | ⟨_, h⟩
      · rw [ha] at h; cases h
      · exact h))
    rw [if_neg (by decide)]
    clear hnum hn ha
    generalize vs.length = ln at *
    go_enter Tryz.func62, Tryz.ntmps62
    go_wp2_with fail
    refine (HN.out _ (by first | exact Below.refl _ _ | exact (Below.refl _ _).drew | exact (Below.refl _ _).alloc (Nat.le_refl _) _)).mono ?_
    rintro e w3 ⟨rfl, b3⟩
    unfold panE
    go_wp2_with fail
    exact ⟨rfl, .inr ⟨by decide, rfl⟩, HB.out.trans (b3.mono HB.out.size)⟩
theorem op_26 (n : Int) (t : List UInt8) (x y : V) : opE 26 n t [x, y] = if x.kind = 5 ∧ y.kind = 1 then (if x.list.length < 16 then (⟨5, 0, [], x.list ++ [y.num]⟩, 0) else (zeroV, 32)) else (zeroV, 23) := rfl
set_option maxRecDepth 100000 in
set_option maxHeartbeats 2000000 in
theorem node_26 (n : Int) (t : List UInt8) (p : Option Addr) (kk c : Nat) (x y : V) (hxl : x.list.length ≤ 1000) (a : Option Addr) (cap : Nat) (w : World) (ok : Nat → Prop) (hx : VsAt ok w a [x, y]) :
    Calls Tryz.prog 62 #[.agg #[.int .i64 26, .int .i64 n, .string (S t), .slice p kk c], .slice a 2 cap] w fun e w' => CameF w.heap.size (opE 26 n t [x, y]) e w' ∧ Below w.heap.size w w' := by
  have hb := ((Below.refl w.heap.size w).alloc (Nat.le_refl _) (.cells #[.int .i64 26, .int .i64 n, .string (S t), .slice p kk c] 24)).alloc (by simp) (.cells #[.int .i64 0, .int .i64 0, .string ⟨#[]⟩, .slice none 0 0] 52)
  have HV := Lib.hid (VB.new (w.alloc (.cells #[.int .i64 26, .int .i64 n, .string (S t), .slice p kk c] 24)) (.int .i64 0) (.int .i64 0) (.string ⟨#[]⟩) (.slice none 0 0) (w.heap.size + 1) (by simp))
  have HX := Lib.hid (Bx.keep (Bx.new w (.int .i64 26) (.int .i64 n) (.string (S t)) (.slice p kk c)) (Kept.alloc (ok := fun _ => True) _ (.cells #[.int .i64 0, .int .i64 0, .string ⟨#[]⟩, .slice none 0 0] 52)) trivial)
  have hxb := hx.below hb
  obtain ⟨b, o, rfl, ⟨q, cc, h0, h1, h2, h3, hn⟩, hl⟩ := hxb 0 (by simp)
  obtain ⟨b', o', e', ⟨q2, cc2, g0, g1, g2, g3, hn2⟩, hl2⟩ := hxb 1 (by simp)
  injection e' with e'
  injection e' with e1 e2 _
  subst e1 e2
  simp only [List.getElem_cons_zero, List.getElem_cons_succ, Nat.zero_mul, Nat.add_zero, Nat.one_mul] at h0 h1 h2 h3 hn g0 g1 g2 g3 hn2
  clear hxb
  have HB := Lib.hid hb
  have HS := Lib.hid (fun (W : World) (k : Below ((w.alloc (.cells #[.int .i64 26, .int .i64 n, .string (S t), .slice p kk c] 24)).alloc (.cells #[.int .i64 0, .int .i64 0, .string ⟨#[]⟩, .slice none 0 0] 52)).heap.size ((w.alloc (.cells #[.int .i64 26, .int .i64 n, .string (S t), .slice p kk c] 24)).alloc (.cells #[.int .i64 0, .int .i64 0, .string ⟨#[]⟩, .slice none 0 0] 52)) W) => push_any x.kind x.num x.text q x.list cc hn.2.1 y.kind y.num y.text q2 y.list.length cc2 W (hn.1.below k) (by omega))
  have HSZ := Lib.hid (show ((w.alloc (.cells #[.int .i64 26, .int .i64 n, .string (S t), .slice p kk c] 24)).alloc (.cells #[.int .i64 0, .int .i64 0, .string ⟨#[]⟩, .slice none 0 0] 52)).heap.size = w.heap.size + 1 + 1 from by simp)
  rw [op_26]
  clear hb hx hn hn2
  obtain ⟨xk, xn, xt, xl⟩ := x
  obtain ⟨yk, yn, yt, yl⟩ := y
  unfold vA at HS
  simp only at h0 h1 h2 h3 g0 g1 g2 g3 HS hxl ⊢
  have HL := Lib.hid (show (xl ++ [yn]).length = xl.length + 1 from by simp)
  by_cases hk : xk = 5 ∧ yk = 1
  · by_cases h16 : xl.length < 16
    · have HS2 := Lib.hid (fun W k => (HS.out W k).mono (R' := fun e w' => (∃ a' c', e = .returned (.slice a' (xl.length + 1) c') ∧ FrAt W.heap.size w' a' (xl ++ [yn]) c') ∧ Below W.heap.size W w') (fun e w' h => by
        refine ⟨?_, h.2⟩
        rcases h.1 with ⟨_, _, _, h⟩ | ⟨_, _, h, _⟩ | ⟨h, _⟩
        · exact h
        · exact absurd h16 h
        · exact absurd hk h))
      rw [if_pos hk, if_pos h16]
      clear HS hk h16
      generalize xl ++ [yn] = ns at *
      generalize xl.length + 1 = ln1 at *
      generalize xl.length = ln at *
      generalize yl.length = ln2 at *
      go_enter Tryz.func62, Tryz.ntmps62
      go_wp2_with fail
      go_region_law (first
        | (go_simp; go_at_call 106; refine (HS2.out _ (by first | exact Below.refl _ _ | exact (Below.refl _ _).drew | exact (Below.refl _ _).alloc (Nat.le_refl _) _)).mono ?_; rintro e w3 ⟨⟨a', c', rfl, hfr⟩, b3⟩; have hnb := (VB.later HV.out (Below.refl _ _).drew).later b3; have fz := hnb.fz; have k0 := hnb.c0; have k1 := hnb.c1; have k2 := hnb.c2; have k3 := hnb.c3))
      all_goals
        have HP := Lib.hid (hnb.put (.int .i64 5) (.int .i64 0) (.string ⟨#[]⟩) (.slice a' ln1 c'))
        have HBE := Lib.hid (below_put (HB.out.drew.trans (b3.mono HB.out.size)) (w.heap.size + 1) (by omega) (.int .i64 5) (.int .i64 0) (.string ⟨#[]⟩) (.slice a' ln1 c'))
        clear hnb
        go_wp2_with fail
        exact bodyPost_ret (res_val rfl _ _ _ _ _ _ _ rfl HP.out) rfl ⟨.inl ⟨rfl, a', c', by rw [← HL.out]; rfl, (fr_put hfr (Nat.lt_of_lt_of_eq (Nat.lt_succ_self _) HSZ.out.symm) _ _ _ _).mono HB.out.size⟩, HBE.out⟩
    · have HS2 := Lib.hid (fun W k => (HS.out W k).mono (R' := fun e w' => e = panE 32 ∧ Below W.heap.size W w') (fun e w' h => by
        refine ⟨?_, h.2⟩
        rcases h.1 with ⟨_, _, h, _⟩ | ⟨_, _, _, h⟩ | ⟨h, _⟩
        · exact absurd h h16
        · exact h
        · exact absurd hk h))
      rw [if_pos hk, if_neg h16]
      clear HS hk h16 HL
      generalize xl.length = ln at *
      generalize yl.length = ln2 at *
      go_enter Tryz.func62, Tryz.ntmps62
      go_wp2_with fail
      go_region_dies
      all_goals
        refine (HS2.out _ (by first | exact Below.refl _ _ | exact (Below.refl _ _).drew | exact (Below.refl _ _).alloc (Nat.le_refl _) _)).mono ?_
        rintro e w2 ⟨rfl, b2⟩
        unfold panE
        go_wp2_with fail
        exact ⟨rfl, .inr ⟨by decide, rfl⟩, HB.out.drew.trans (b2.mono HB.out.size)⟩
  · have HS2 := Lib.hid (fun W k => (HS.out W k).mono (R' := fun e w' => e = panE 23 ∧ Below W.heap.size W w') (fun e w' h => by
      refine ⟨?_, h.2⟩
      rcases h.1 with ⟨h5, h1, _, _⟩ | ⟨h5, h1, _, _⟩ | ⟨_, h⟩
      · exact absurd ⟨h5, h1⟩ hk
      · exact absurd ⟨h5, h1⟩ hk
      · exact h))
    rw [if_neg hk]
    clear HS hk HL
    generalize xl.length = ln at *
    generalize yl.length = ln2 at *
    go_enter Tryz.func62, Tryz.ntmps62
    go_wp2_with fail
    go_region_dies
    all_goals
      refine (HS2.out _ (by first | exact Below.refl _ _ | exact (Below.refl _ _).drew | exact (Below.refl _ _).alloc (Nat.le_refl _) _)).mono ?_
      rintro e w2 ⟨rfl, b2⟩
      unfold panE
      go_wp2_with fail
      exact ⟨rfl, .inr ⟨by decide, rfl⟩, HB.out.drew.trans (b2.mono HB.out.size)⟩
set_option maxRecDepth 100000 in
set_option maxHeartbeats 4000000 in
theorem node_num (op n : Int) (ho : op = 1 ∨ op = 11 ∨ op = 12 ∨ op = 20 ∨ op = 21 ∨ op = 22 ∨ op = 23 ∨ op = 24 ∨ op = 25) (t : List UInt8) (p : Option Addr) (kk c : Nat) (R : V × Nat) (hR : (∃ m, R = (intV m, 0)) ∨ ∃ k, k ≠ 0 ∧ R = (zeroV, k)) (a : Option Addr) (ln cap : Nat) (w : World)
    (hN : ∀ W : World, Below w.heap.size w W → Calls Tryz.prog 107 #[.agg #[.int .i64 op, .int .i64 n, .string (S t), .slice p kk c], .slice a ln cap] W fun e w' => e = intR R ∧ Below W.heap.size W w') :
    Calls Tryz.prog 62 #[.agg #[.int .i64 op, .int .i64 n, .string (S t), .slice p kk c], .slice a ln cap] w fun e w' => CameF w.heap.size R e w' ∧ Below w.heap.size w w' := by
  have hb := ((Below.refl w.heap.size w).alloc (Nat.le_refl _) (.cells #[.int .i64 op, .int .i64 n, .string (S t), .slice p kk c] 24)).alloc (by simp) (.cells #[.int .i64 0, .int .i64 0, .string ⟨#[]⟩, .slice none 0 0] 52)
  have HV := Lib.hid (VB.new (w.alloc (.cells #[.int .i64 op, .int .i64 n, .string (S t), .slice p kk c] 24)) (.int .i64 0) (.int .i64 0) (.string ⟨#[]⟩) (.slice none 0 0) (w.heap.size + 1) (by simp))
  have HX := Lib.hid (Bx.keep (Bx.new w (.int .i64 op) (.int .i64 n) (.string (S t)) (.slice p kk c)) (Kept.alloc (ok := fun _ => True) _ (.cells #[.int .i64 0, .int .i64 0, .string ⟨#[]⟩, .slice none 0 0] 52)) trivial)
  have HB := Lib.hid hb
  have q0 := HX.out.c0
  have q1 := HX.out.c1
  have q2 := HX.out.c2
  have q3 := HX.out.c3
  have e2 : (op == 2) = false := by simp; omega
  have e3 : (op == 3) = false := by simp; omega
  have e4 : (op == 4) = false := by simp; omega
  have e5 : (op == 5) = false := by simp; omega
  have e10 : (op == 10) = false := by simp; omega
  have e26 : (op == 26) = false := by simp; omega
  have e30 : (op == 30) = false := by simp; omega
  have e31 : (op == 31) = false := by simp; omega
  have e32 : (op == 32) = false := by simp; omega
  have e33 : (op == 33) = false := by simp; omega
  have HN := Lib.hid (fun (W : World) (k : Below ((w.alloc (.cells #[.int .i64 op, .int .i64 n, .string (S t), .slice p kk c] 24)).alloc (.cells #[.int .i64 0, .int .i64 0, .string ⟨#[]⟩, .slice none 0 0] 52)).heap.size ((w.alloc (.cells #[.int .i64 op, .int .i64 n, .string (S t), .slice p kk c] 24)).alloc (.cells #[.int .i64 0, .int .i64 0, .string ⟨#[]⟩, .slice none 0 0] 52)) W) => hN W (hb.trans (k.mono hb.size)))
  clear hb ho hN
  rcases hR with ⟨m, rfl⟩ | ⟨k, hk, rfl⟩
  · have hr : intR (intV m, 0) = .returned (.int .i64 m) := rfl
    rw [hr] at HN
    clear hr
    go_enter Tryz.func62, Tryz.ntmps62
    go_wp2_with fail
    refine (HN.out _ (by first | exact Below.refl _ _ | exact (Below.refl _ _).drew | exact (Below.refl _ _).alloc (Nat.le_refl _) _)).mono ?_
    rintro e w3 ⟨rfl, b3⟩
    have hnb := HV.out.later b3
    have fz := hnb.fz
    have k0 := hnb.c0
    have k1 := hnb.c1
    have k2 := hnb.c2
    have k3 := hnb.c3
    have HP := Lib.hid (hnb.put (.int .i64 1) (.int .i64 m) (.string ⟨#[]⟩) (.slice none 0 0))
    have HBE := Lib.hid (below_put (HB.out.trans (b3.mono HB.out.size)) (w.heap.size + 1) (by omega) (.int .i64 1) (.int .i64 m) (.string ⟨#[]⟩) (.slice none 0 0))
    clear hnb
    go_wp2_with fail
    exact bodyPost_ret (res_val rfl _ _ _ _ _ _ _ rfl HP.out) rfl ⟨.inl ⟨rfl, none, 0, rfl, fr_nil _ _⟩, HBE.out⟩
  · have hr : intR (zeroV, k) = panE k := by unfold intR; rw [if_neg hk]
    rw [hr] at HN
    clear hr
    go_enter Tryz.func62, Tryz.ntmps62
    go_wp2_with fail
    refine (HN.out _ (by first | exact Below.refl _ _ | exact (Below.refl _ _).drew | exact (Below.refl _ _).alloc (Nat.le_refl _) _)).mono ?_
    rintro e w3 ⟨rfl, b3⟩
    unfold panE
    go_wp2_with fail
    exact ⟨rfl, .inr ⟨hk, rfl⟩, HB.out.trans (b3.mono HB.out.size)⟩
end Go.Proofs.YtabbdkdpmpjchaaGreatDoor.Ev

namespace Go.Proofs.YtabbdkdpmpjchaaGreatDoor.Ev
open Go.RowKit
open Ex Lx Va Ty
set_option linter.unusedVariables false
set_option linter.unusedSimpArgs false
set_option maxRecDepth 100000 in
set_option maxHeartbeats 4000000 in
theorem named_any (ok : Nat → Prop) (l : List AttrP) (vs : List V) (n : List UInt8) (p q : Option Addr) (c c2 : Nat) (w : World) (hl : AttrsAt w p l) (hlen : l.length ≤ 281474976710656) (hv : VsAt ok w q vs) (hok : ∀ g, ok g → g < w.heap.size) (hvl : vs.length ≤ 281474976710656) :
    Calls Tryz.prog 60 #[.slice p l.length c, .slice q vs.length c2, .string (S n)] w fun e w' => CameIn ok (namedV l vs n) e w' ∧ Below w.heap.size w w' := by
  have hki : (l.length : Int) ≤ 281474976710656 := by omega
  have hkv : (vs.length : Int) ≤ 281474976710656 := by omega
  have ba := ((Below.refl w.heap.size w).alloc (Nat.le_refl _) (.cells #[.string (S n)] 9)).alloc (by simp) (.cells #[.int .i64 0, .int .i64 0, .string ⟨#[]⟩, .slice none 0 0] 52)
  have hla := hl.later ba
  have hva := hv.below ba
  have HI := Lib.hid (attr_idx l n p c w.heap.size _ hla hlen (by simp) (by simp; omega))
  have HVB := Lib.hid (VB.new (w.alloc (.cells #[.string (S n)] 9)) (.int .i64 0) (.int .i64 0) (.string ⟨#[]⟩) (.slice none 0 0) (w.heap.size + 1) (by simp))
  have HV := Lib.hid hva
  have HBA := Lib.hid ba
  have HOK := Lib.hid hok
  clear hl ba hla hv hva hok
  have hall : (namedV l vs n = (zeroV, 22) ∧ (fstIdx (fun x => x.name == n) l = -1 ∨ (∃ k : Nat, fstIdx (fun x => x.name == n) l = (k : Int) ∧ vs.length ≤ k) ∨ ∃ (k : Nat) (h : k < vs.length), fstIdx (fun x => x.name == n) l = (k : Int) ∧ vs[k].kind = 0)) ∨ ∃ (k : Nat) (h : k < vs.length), fstIdx (fun x => x.name == n) l = (k : Int) ∧ namedV l vs n = (vs[k], 0) ∧ vs[k].kind ≠ 0 := by
    rcases namedV_idx l vs n with ⟨h1, h2⟩ | ⟨k, h1, h2⟩
    · exact .inl ⟨h2, .inl h1⟩
    · by_cases hk : k < vs.length
      · rw [List.getElem?_eq_getElem hk] at h2
        simp only at h2
        by_cases h0 : vs[k].kind = 0
        · rw [if_pos h0] at h2
          exact .inl ⟨h2, .inr (.inr ⟨k, hk, h1, h0⟩)⟩
        · rw [if_neg h0] at h2
          exact .inr ⟨k, hk, h1, h2, h0⟩
      · rw [List.getElem?_eq_none (by omega)] at h2
        exact .inl ⟨h2, .inr (.inl ⟨k, h1, by omega⟩)⟩
  rcases hall with ⟨h2, h1 | ⟨k, h1, hk⟩ | ⟨k, hk, h1, h0⟩⟩ | ⟨k, hk, h1, h2, h0⟩
  · rw [h1] at HI
    rw [h2]
    clear h1 h2
    generalize vs.length = ln at *
    go_enter Tryz.func60, Tryz.ntmps60
    go_wp2_with fail
    refine HI.out.mono ?_
    rintro e w2 ⟨rfl, b2⟩
    have HB2 := Lib.hid (HBA.out.trans (b2.mono HBA.out.size))
    clear b2
    go_wp2_with fail
    refine (need_bad 22 _).mono ?_
    rintro e w1 ⟨rfl, rfl⟩
    unfold panE
    go_wp2_with fail
    exact ⟨rfl, .inr ⟨by decide, rfl⟩, HB2.out⟩
  · rw [h1] at HI
    rw [h2]
    clear h1 h2
    have hkn : decide ((k : Int) < (vs.length : Int)) = false := decide_eq_false (by omega)
    have hk0 : decide ((0 : Int) ≤ (k : Int)) = true := decide_eq_true (by omega)
    generalize vs.length = ln at *
    go_enter Tryz.func60, Tryz.ntmps60
    go_wp2_with fail
    refine HI.out.mono ?_
    rintro e w2 ⟨rfl, b2⟩
    have HB2 := Lib.hid (HBA.out.trans (b2.mono HBA.out.size))
    clear b2
    go_wp2_with fail
    refine (need_bad 22 _).mono ?_
    rintro e w1 ⟨rfl, rfl⟩
    unfold panE
    go_wp2_with fail
    exact ⟨rfl, .inr ⟨by decide, rfl⟩, HB2.out⟩
  · rw [h1] at HI
    rw [h2]
    clear h1 h2
    have hki2 : (k : Int) < (vs.length : Int) := by omega
    have hkn : decide ((k : Int) < (vs.length : Int)) = true := decide_eq_true (by omega)
    have hk0 : decide ((0 : Int) ≤ (k : Int)) = true := decide_eq_true (by omega)
    go_enter Tryz.func60, Tryz.ntmps60
    go_wp2_with fail
    refine HI.out.mono ?_
    rintro e w2 ⟨rfl, b2⟩
    have HB2 := Lib.hid (HBA.out.trans (b2.mono HBA.out.size))
    obtain ⟨b, o, rfl, ⟨g, cc, f0, f1, f2, f3, _⟩, hb⟩ := (HV.out.below b2) k hk
    rw [h0] at f0
    clear b2 h0
    generalize vs[k] = x at *
    generalize vs.length = ln at *
    go_wp2_with fail
    refine (need_bad 22 _).mono ?_
    rintro e w1 ⟨rfl, rfl⟩
    unfold panE
    go_wp2_with fail
    exact ⟨rfl, .inr ⟨by decide, rfl⟩, HB2.out⟩
  · rw [h1] at HI
    rw [h2]
    clear h1 h2
    obtain ⟨x, hx⟩ : ∃ x, x = vs[k] := ⟨_, rfl⟩
    rw [← hx] at h0 ⊢
    have HX := Lib.hid hx
    clear hx
    have hki2 : (k : Int) < (vs.length : Int) := by omega
    have hkn : decide ((k : Int) < (vs.length : Int)) = true := decide_eq_true (by omega)
    have hk0 : decide ((0 : Int) ≤ (k : Int)) = true := decide_eq_true (by omega)
    go_enter Tryz.func60, Tryz.ntmps60
    go_wp2_with fail
    refine HI.out.mono ?_
    rintro e w2 ⟨rfl, b2⟩
    have HB2 := Lib.hid (HBA.out.trans (b2.mono HBA.out.size))
    obtain ⟨b, o, rfl, ⟨g, cc, f0, f1, f2, f3, hla⟩, hb⟩ := (HV.out.below b2) k hk
    have hnb := HVB.out.later b2
    have HLA := Lib.hid hla
    clear b2 hla
    rw [← HX.out] at f0 f1 f2 f3 HLA
    clear HX
    obtain ⟨xk, xn, xt, xl⟩ := x
    simp only at f0 f1 f2 f3 h0 HLA
    generalize hxl : xl.length = lx at *
    have hx0 : (xk != 0) = true := by simpa using h0
    have fz := hnb.fz
    have k0 := hnb.c0
    have k1 := hnb.c1
    have k2 := hnb.c2
    have k3 := hnb.c3
    go_wp2_with fail
    refine (need_ok 22 _).mono ?_
    rintro e w1 ⟨rfl, rfl⟩
    have HP := Lib.hid (hnb.put (.int .i64 xk) (.int .i64 xn) (.string (S xt)) (.slice g lx cc))
    have HBE := Lib.hid (below_put HB2.out (w.heap.size + 1) (by omega) (.int .i64 xk) (.int .i64 xn) (.string (S xt)) (.slice g lx cc))
    clear hnb
    go_wp2_with fail
    exact bodyPost_ret (res_val rfl _ _ _ _ _ _ _ rfl HP.out) rfl ⟨.inl ⟨rfl, g, cc, by rw [← hxl]; rfl, HLA.out.keep (Kept.put _ _ _ _ _ _ (fun h => by have := HOK.out _ h; omega))⟩, HBE.out⟩
end Go.Proofs.YtabbdkdpmpjchaaGreatDoor.Ev

namespace Go.Proofs.YtabbdkdpmpjchaaGreatDoor.Ev
open Go.RowKit
open Ex Lx Va
set_option maxRecDepth 100000 in
set_option maxHeartbeats 2000000 in
theorem catch_idle (p : Addr) (w : World) :
    CallsD Tryz.prog 32 #[.pointer (some p)] .returning w fun e u' w' => e = .returned (.tuple #[]) ∧ u' = .returning ∧ w' = w := by
  refine callsD_of_wpS Tryz.func32 rfl fun c₀ cs hu => ?_
  apply wpS_seq
  apply wpS_region
  simp [wpOpsS, go_sem, recoverD, hu, Tryz.ntmps32, Exit.thenS]
  have hta : ∀ w, (Instr.typeAssert Value.nilIface 20 26 true).run Tryz.prog w = .ok (.tuple #[.int .i64 0, .bool false]) w := fun w => by kernel_rfl
  refine wpS_of_wp ?_
  go_wp2_with fail
  cases c₀
  simp_all [bodyPostS, results, Tryz.results32]
theorem run_errno (v : Value) (xT : TypeId) (w : World) : (Instr.typeAssert (.iface 26 v) xT 26 true).run Tryz.prog w = .ok (.tuple #[v, .bool true]) w := by
  simp [Instr.typeAssert, run_underlying Tryz.underlying26, go_sem, Result.andThen]
set_option maxRecDepth 100000 in
set_option maxHeartbeats 1000000 in
theorem catch_panicking (p : Addr) (x k : Int) (older : List PanicEntry) (w : World) (hc : w.cell? p = some (.int .i64 x)) (hz : w.frozen? p = false) :
    CallsD Tryz.prog 32 #[.pointer (some p)] (.panicking ({ v := .iface 26 (.int .i64 k), recovered := false } :: older)) w fun e u' w' =>
      e = .returned (.tuple #[]) ∧ u' = .panicking ({ v := .iface 26 (.int .i64 k), recovered := true } :: older) ∧ w' = w.setCell p (.int .i64 k) := by
  refine callsD_of_wpS Tryz.func32 rfl fun c₀ cs hu => ?_
  apply wpS_seq
  apply wpS_region
  simp [wpOpsS, go_sem, recoverD, hu, Tryz.ntmps32, Exit.thenS]
  have hta := fun w => run_errno (.int .i64 k) 20 w
  apply wpS_seq
  apply wpS_region
  simp [wpOpsS, go_sem, hta, Exit.thenS]
  apply wpS_seq
  apply wpS_region
  simp [wpOpsS, go_sem, Exit.thenS]
  refine wpS_cond (t := true) (by simp [Act.eval, Array.replicate]) ?_
  simp only [if_true]
  apply wpS_region
  simp [wpOpsS, go_sem, hc, hz, bodyPostS, results, Tryz.results32]
end Go.Proofs.YtabbdkdpmpjchaaGreatDoor.Ev
