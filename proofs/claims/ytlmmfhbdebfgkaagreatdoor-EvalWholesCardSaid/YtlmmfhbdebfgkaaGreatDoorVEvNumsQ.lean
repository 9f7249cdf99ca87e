/-
  EvNums, EvPush.
-/
import Derived.Test.YtlmmfhbdebfgkaaGreatDoorVVaPrintBQ
import Derived.ArgAppend
import Derived.Deep.RegionHeld3
import Derived.Deep.RegionLaw
set_option linter.unusedVariables false
set_option linter.unusedSimpArgs false
set_option maxRecDepth 100000
set_option maxHeartbeats 4000000
namespace Go.Proofs.YtlmmfhbdebfgkaaGreatDoor.Ev
open Go.RowKit
open Ex Lx Va
def IRow (w : World) (H n : Nat) (l : List Int) : Prop :=
  ∃ cur, w.heap[H]? = some (.cells cur 2 (0, 0)) ∧ cur.size = n ∧ ∀ i, i < l.length → cur[i]? = some (.int .i64 (l.getD i 0))
theorem make_i (w : World) (n : Nat) (hn : n ≤ 100000) : ∃ w2 : World, (Instr.makeSlice 50 (.int .i64 (n : Int)) (.int .i64 (n : Int))).run Tryz.prog w = .ok (.slice (some ⟨w.heap.size, 0, none⟩) n n) w2 ∧ IRow w2 w.heap.size n [] ∧ Below w.heap.size w w2 := by
  obtain ⟨i0, hi, hz0, hz1, hz2⟩ := info_parts info64
  obtain ⟨w2, hmk, hown, hgr⟩ := run_make_full (P := Tryz.prog) w w.heap.size 50 2 i0 _ 1 Tryz.underlying50 hi hz0 hz1 .i64 .i64 n (by rw [hz2]; omega) (by unfold maxLen; omega) (Nat.le_refl _)
  refine ⟨w2, hmk, ?_, (Below.refl _ _).grown hgr (Nat.le_refl _) (by simp)⟩
  rcases hown.2 with ⟨h1, _⟩ | ⟨g, cap, cur, h1, _, h3, _, _, h6, _⟩
  · cases h1
  · injection h1 with e1 e2 e3
    injection e1 with e1
    injection e1 with e1 _ _
    subst e1 e3
    exact ⟨cur, h3, by omega, fun i hi => absurd hi (Nat.not_lt_zero _)⟩
theorem IRow.lt {w : World} {H n : Nat} {l : List Int} (h : IRow w H n l) : H < w.heap.size := by
  obtain ⟨cur, hb, _⟩ := h
  exact (Array.getElem?_eq_some_iff.1 hb).1
theorem IRow.later {w w' : World} {H n : Nat} {l : List Int} (h : IRow w H n l) (k : Below w.heap.size w w') : IRow w' H n l := by
  have hlt := h.lt
  obtain ⟨cur, hb, r⟩ := h
  exact ⟨cur, (k.block H hlt).trans hb, r⟩
theorem IRow.fz {w : World} {H n : Nat} {l : List Int} (h : IRow w H n l) (j : Nat) : w.frozen? ⟨H, j, none⟩ = false := by
  obtain ⟨cur, hb, _⟩ := h
  exact frozen_of_row w H j _ _ hb
theorem IRow.room {w : World} {H n : Nat} {l : List Int} (h : IRow w H n l) (i : Nat) (hi : i < n) : ∃ u, w.cell? ⟨H, i, none⟩ = some u := by
  obtain ⟨cur, hb, hs, _⟩ := h
  rw [cell_of_row w H i _ _ (0, 0) hb]
  exact ⟨_, Array.getElem?_eq_getElem (by omega)⟩
theorem IRow.put {w : World} {H n : Nat} {l : List Int} (h : IRow w H n l) (i : Nat) (hi : i = l.length) (hn : i < n) (x : Int) :
    IRow (w.setCell ⟨H, i, none⟩ (.int .i64 x)) H n (l ++ [x]) := by
  subst hi
  obtain ⟨cur, hb, hs, hc⟩ := h
  refine ⟨_, heap_setCell_same w H _ _ _ _ hb, by simp [hs], fun j hj => ?_⟩
  rw [List.length_append] at hj
  simp only [List.length_singleton] at hj
  by_cases e : j < l.length
  · rw [Array.getElem?_setIfInBounds_ne (by omega), hc j e]
    rw [List.getD_eq_getElem?_getD, List.getD_eq_getElem?_getD, List.getElem?_append_left e]
  · obtain rfl : j = l.length := by omega
    rw [Array.getElem?_setIfInBounds_self_of_lt (by omega)]
    rw [List.getD_eq_getElem?_getD, List.getElem?_append_right (by omega)]
    simp
theorem IRow.nums {w : World} {H n : Nat} {l : List Int} (h : IRow w H n l) : NumsAt w (some ⟨H, 0, none⟩) l := fun i hi => by
  have hlt := h.lt
  obtain ⟨cur, hb, hs, hc⟩ := h
  refine ⟨H, 0, rfl, ?_, hlt⟩
  rw [Nat.zero_add]
  exact (cell_of_row w H _ _ _ (0, 0) hb).trans (hc i hi)
def FrAt (B : Nat) (w : World) (a : Option Addr) (l : List Int) (c : Nat) : Prop := NumsAt w a l ∧ l.length ≤ c ∧ ∀ g off, a = some ⟨g, off, none⟩ → l ≠ [] → B ≤ g
theorem FrAt.mono {B B' : Nat} {w : World} {a : Option Addr} {l : List Int} {c : Nat} (h : FrAt B w a l c) (hB : B' ≤ B) : FrAt B' w a l c := ⟨h.1, h.2.1, fun g off e hl => Nat.le_trans hB (h.2.2 g off e hl)⟩
theorem all_hit (l : List V) (k : Int) (h : ∀ j (hj : j < l.length), l[j].kind = k) : allV l k = true := by
  unfold allV
  rw [List.all_eq_true]
  intro x hx
  obtain ⟨j, hj, rfl⟩ := List.getElem_of_mem hx
  simpa using h j hj
theorem all_miss (l : List V) (k : Int) (j : Nat) (hj : j < l.length) (h : l[j].kind ≠ k) : allV l k = false := by
  cases e : allV l k with
  | false => rfl
  | true =>
    unfold allV at e
    rw [List.all_eq_true] at e
    exact absurd (by simpa using e l[j] (List.getElem_mem hj)) h
theorem numbers_any (vs : List V) (hn : vs.length ≤ 100000) (a : Option Addr) (cap : Nat) (w : World) (hx : ValsAt w a vs) :
    Calls Tryz.prog 94 #[.slice a vs.length cap] w fun e w' => ((allV vs 1 = true ∧ ∃ a' c', e = .returned (.slice a' vs.length c') ∧ FrAt w.heap.size w' a' (vs.map (·.num)) c') ∨ (allV vs 1 = false ∧ e = panE 23)) ∧ Below w.heap.size w w' := by
  obtain ⟨w2, hmk, hrow, hb⟩ := make_i w vs.length hn
  have hki : (vs.length : Int) ≤ 100000 := by omega
  have HX := Lib.hid hx
  have HROW := Lib.hid hrow
  have HB := Lib.hid hb
  have HALL := Lib.hid (all_hit vs 1)
  have HMISS := Lib.hid (fun j hj h => all_miss vs 1 j hj h)
  obtain ⟨H, hH⟩ : ∃ H, w.heap.size = H := ⟨_, rfl⟩
  rw [hH] at hmk HROW HB ⊢
  clear hx hrow hb
  go_enter Tryz.func94, Tryz.ntmps94
  go_wp2_with fail
  clear hmk
  go_loopw [11] (fun iv wr => ∃ k : Nat, k ≤ vs.length ∧ iv = .int .i64 k ∧ IRow wr H vs.length ((vs.take k).map (·.num)) ∧ (∀ j (hj : j < vs.length), j < k → vs[j].kind = 1) ∧ Below H w wr) (fun iv _ => vs.length - (intOf iv).toNat)
  case atStart => exact ⟨0, Nat.zero_le _, rfl, HROW.out, fun j _ h => absurd h (Nat.not_lt_zero _), HB.out⟩
  case round =>
    obtain ⟨k, hk, rfl, hrow, hA, hbe⟩ := hrel
    have hlt := hrow.lt
    have hle := Nat.le_of_lt hlt
    by_cases hkl : k < vs.length
    · have hkli : (k : Int) < (vs.length : Int) := by omega
      obtain ⟨b, o, rfl, ⟨q, cc, f0, f1, f2, f3, _⟩, hb⟩ := (HX.out.below (by rw [hH]; exact hbe)) k hkl
      obtain ⟨⟨xk, xn, xt, xl⟩, hy⟩ : ∃ y, y = vs[k] := ⟨_, rfl⟩
      rw [← hy] at f0 f1 f2 f3
      simp only at f0 f1 f2 f3
      have ba := (Below.refl wr.heap.size wr).alloc (Nat.le_refl _) (.cells #[.int .i64 xk, .int .i64 xn, .string (S xt), .slice q xl.length cc] 52)
      have hrow2 := hrow.later ba
      obtain ⟨u, hu⟩ := hrow2.room k hkl
      have fz := hrow2.fz
      have HP := Lib.hid ((hrow.put k (by simp; omega) hkl xn).later ((Below.refl _ _).alloc (Nat.le_refl _) (.cells #[.int .i64 xk, .int .i64 xn, .string (S xt), .slice q xl.length cc] 52)))
      have HBS := Lib.hid ((hbe.setCell (p := ⟨H, k, none⟩) (Nat.le_refl _) (.int .i64 xn)).alloc (by simpa using hle) (.cells #[.int .i64 xk, .int .i64 xn, .string (S xt), .slice q xl.length cc] 52))
      have HBE := Lib.hid (hbe.trans (ba.mono hle))
      have HA := Lib.hid hA
      have HY := Lib.hid hy
      clear hrow hA hbe hy ba hrow2
      by_cases h1 : xk = 1
      · subst h1
        go_wp2_with fail
        refine (need_ok 23 _).mono ?_
        rintro e w1 ⟨rfl, rfl⟩
        go_wp2_with fail
        go_roundw
        case rel => exact ⟨k + 1, by omega, by go_num, by
            rw [List.take_add_one, List.getElem?_eq_getElem hkl, ← HY.out]
            simpa using HP.out, fun j hj hjk => by
          by_cases e : j = k
          · subst e; rw [← HY.out]
          · exact HA.out j hj (by omega), HBS.out⟩
        case measure => simp [intOf]; omega
      · have e1 : (xk == 1) = false := by simpa using h1
        have HM := Lib.hid (HMISS.out k hkl (by rw [← HY.out]; exact h1))
        go_wp2_with fail
        refine (need_bad 23 _).mono ?_
        rintro e w1 ⟨rfl, rfl⟩
        unfold panE
        go_wp2_with fail
        exact ⟨rfl, .inr ⟨HM.out, rfl⟩, HBE.out⟩
    · have hkli : ¬ (k : Int) < (vs.length : Int) := by omega
      have hk2 : k = vs.length := by omega
      have HR := Lib.hid hrow
      have HBE := Lib.hid hbe
      have HA := Lib.hid (HALL.out fun j hj => hA j hj (by omega))
      clear hrow hA hbe
      go_wp2_with fail
      go_ret
      have hnn := HR.out.nums
      rw [hk2, List.take_length] at hnn
      refine ⟨.inl ⟨HA.out, _, _, rfl, hnn, by simp, fun g off e _ => ?_⟩, HBE.out⟩
      injection e with e; injection e with e _ _; omega
end Go.Proofs.YtlmmfhbdebfgkaaGreatDoor.Ev
namespace Go.Proofs.YtlmmfhbdebfgkaaGreatDoor.Ev
open Go.RowKit
open Ex Lx Va
theorem clip_any (a : Option Addr) (n c : Nat) (hc : n ≤ c) (w : World) : Calls Tryz.prog 146 #[.slice a n c] w fun e w' => e = .returned (.slice a n n) ∧ w = w' := by
  cases a with
  | none =>
    go_enter Tryz.func146, Tryz.ntmps146
    go_wp2_with fail
    go_ret
    exact ⟨rfl, rfl⟩
  | some p =>
    go_enter Tryz.func146, Tryz.ntmps146
    go_wp2_with fail
    go_ret
    exact ⟨rfl, rfl⟩
theorem step_app1 {P : Program} {ops : Array Oper} {o : Oper} {a : Act} {w : World} {K : Act → World → Prop} {Q : Exit → Act → World → Prop} {E : Prop} (hgd : o.guard = none) (s x : Operand) (t u : TypeId)
    (ho : o.op = .call { callee := .builtin .append, args := #[s, x], argTypes := #[t, u] }) {v vx : Value} (hs : a.eval s = v) (hx : a.eval x = vx) (n : Nat) {R : Option Addr → Nat → World → Prop}
    (h : ∃ q c w', (Builtin.append_ #[t, u] o.type #[v, vx]).run P w = .ok (.slice q n c) w' ∧ R q c w') (hk : ∀ q c w', R q c w' → K (a.put o.dst (.slice q n c)) w') : if Region.wanted o (yielded ops a.tmps) = true then Oper.wp P o a w K Q else E := by
  obtain ⟨q, c, w', hr, hR⟩ := h
  have hw : Region.wanted o (yielded ops a.tmps) = true := by simp [Region.wanted, hgd]
  rw [if_pos hw]
  unfold Oper.wp execOp
  simp only [ho, resolve, invoke, builtin, Sem.run_bind, Sem.run_pure, Result.andThen_ok, List.map_toArray, List.map_cons, List.map_nil, hs, hx, hr]
  exact hk q c w' hR
theorem NumsAt.drew {w : World} {a : Option Addr} {l : List Int} (h : NumsAt w a l) : NumsAt w.drew a l := h.below (Below.refl _ _).drew
theorem owned_fr {w : World} {B n : Nat} {v : Value} {l : List Int} (h : w.ownsRow B 2 1 v n (i64C l)) (hn : n = l.length) : ∃ a c, v = .slice a l.length c ∧ FrAt B w a l c := by
  obtain ⟨a, c, e, hx⟩ := owned_nums h hn
  subst hn
  rcases h.2 with ⟨e2, h0⟩ | ⟨g, cap, cur, e2, hg, _, hc, _⟩
  · have : l = [] := List.length_eq_zero_iff.1 h0
    subst this
    exact ⟨a, c, e, hx, Nat.zero_le _, fun _ _ _ h => absurd rfl h⟩
  · rw [e] at e2
    injection e2 with e1 _ e3
    subst e1 e3
    exact ⟨_, _, e, hx, by omega, fun g' off e' _ => by injection e' with e'; injection e' with e' _ _; omega⟩
theorem app_one (W : World) (l : List Int) (hl : l.length ≤ 1000) (a : Option Addr) (x : Int) (H : Nat) (hx : NumsAt W a l) (hnew : NumsAt W (some ⟨H, 0, none⟩) [x]) :
    ∃ a' c' w', (Builtin.append_ #[50, 50] 50 #[.slice a l.length l.length, .slice (some ⟨H, 0, none⟩) 1 1]).run Tryz.prog W = .ok (.slice a' (l.length + 1) c') w' ∧ FrAt W.heap.size w' a' (l ++ [x]) c' ∧ Below W.heap.size W w' := by
  cases a with
  | none =>
    have hl0 : l = [] := by
      cases l with
      | nil => rfl
      | cons y r => obtain ⟨_, _, e, _⟩ := hx 0 (by simp); cases e
    subst hl0
    obtain ⟨v', w', hr, ho, hg⟩ := app_nums W.heap.size (.slice none 0 0) 0 [] W (World.ownsRow_nil _ _ _ _) [x] _ 1 hnew (by simp) (Nat.le_refl _)
    rw [List.nil_append] at ho
    obtain ⟨a', c', rfl, hn⟩ := owned_fr ho (by simp)
    exact ⟨a', c', w', hr, hn, (Below.refl _ _).grown hg (Nat.le_refl _) (by simp [Value.ownBlock])⟩
  | some p =>
    obtain ⟨i0, hi, hz0, hz1, hz2⟩ := info_parts info64
    have cells : ∀ (q : Addr) (m : List Int), NumsAt W (some q) m → ∀ j u, (i64C m)[j]? = some u → W.cell? (q.add j) = some u := fun q m hm j u hu => by
      have hj : j < m.length := by
        have := (List.getElem?_eq_some_iff.1 hu).1
        simpa [i64C] using this
      obtain ⟨b, off, e, hc, _⟩ := hm j hj
      obtain rfl := Option.some.inj e
      rw [Addr.add_lit, hc]
      simp [i64C, hj] at hu
      simp [List.getD, hj, hu]
    obtain ⟨v', w', hr, ho, hg⟩ := run_append_arg_grows (P := Tryz.prog) W 50 50 2 i0 (.int .i64 0) 1 8 Tryz.underlying50 hi hz0 hz1 hz2 rfl (by decide) p l.length l.length (i64C l) (by rw [i64C_length]; omega) (cells p l hx) ⟨H, 0, none⟩ 1 1 (i64C [x]) (by simp [i64C]) (cells _ [x] hnew) (by omega) (by unfold maxLen; omega) (by omega)
    rw [← i64C_append] at ho
    obtain ⟨a', c', rfl, hn⟩ := owned_fr ho (by simp)
    rw [List.length_append] at hr
    exact ⟨a', c', w', hr, hn, (Below.refl _ _).grown hg (Nat.le_refl _) (by simp)⟩
theorem app_both (W : World) (l : List Int) (hl : l.length ≤ 1000) (a : Option Addr) (x : Int) (H : Nat) (hH : W.heap.size = H) (hx : NumsAt W a l) (V : World) (hV : V = (W.alloc (.cells #[.int .i64 x] 2)).drew ∨ V = W.drew.alloc (.cells #[.int .i64 x] 2) ∨ V = W.alloc (.cells #[.int .i64 x] 2)) :
    ∃ a' c' w', (Builtin.append_ #[50, 50] 50 #[.slice a l.length l.length, .slice (some ⟨H, 0, none⟩) 1 1]).run Tryz.prog V = .ok (.slice a' (l.length + 1) c') w' ∧ FrAt W.heap.size w' a' (l ++ [x]) c' ∧ Below W.heap.size W w' := by
  subst hH
  have hnew : ∀ (U : World), NumsAt (U.alloc (.cells #[.int .i64 x] 2)) (some ⟨U.heap.size, 0, none⟩) [x] := fun U i hi => by
    have : i = 0 := by simpa using hi
    subst this
    exact ⟨U.heap.size, 0, rfl, cell_of_row _ _ 0 _ _ (0, 0) (heap_alloc_new U _), by simp⟩
  have b1 := (Below.refl W.heap.size W).alloc (Nat.le_refl _) (.cells #[.int .i64 x] 2)
  have b2 := (Below.refl W.heap.size W).drew.alloc (Nat.le_refl _) (.cells #[.int .i64 x] 2)
  rcases hV with rfl | rfl | rfl
  · obtain ⟨a', c', w', h1, h2, h3⟩ := app_one _ l hl a x W.heap.size (hx.below b1.drew) (NumsAt.drew (hnew W))
    exact ⟨a', c', w', h1, h2.mono b1.drew.size, b1.drew.trans (h3.mono b1.drew.size)⟩
  · obtain ⟨a', c', w', h1, h2, h3⟩ := app_one _ l hl a x W.heap.size (hx.below b2) (hnew W.drew)
    exact ⟨a', c', w', h1, h2.mono b2.size, b2.trans (h3.mono b2.size)⟩
  · obtain ⟨a', c', w', h1, h2, h3⟩ := app_one _ l hl a x W.heap.size (hx.below b1) (hnew W)
    exact ⟨a', c', w', h1, h2.mono b1.size, b1.trans (h3.mono b1.size)⟩
def pushR (B : Nat) (k k2 : Int) (l : List Int) (n2 : Int) (e : Ending) (w' : World) : Prop :=
  (k = 5 ∧ k2 = 1 ∧ l.length < 16 ∧ ∃ a' c', e = .returned (.slice a' (l.length + 1) c') ∧ FrAt B w' a' (l ++ [n2]) c') ∨ (k = 5 ∧ k2 = 1 ∧ ¬ l.length < 16 ∧ e = panE 32) ∨ (¬ (k = 5 ∧ k2 = 1) ∧ e = panE 23)
theorem push_any (k n : Int) (t : List UInt8) (a : Option Addr) (l : List Int) (cap : Nat) (hcap : l.length ≤ cap) (k2 n2 : Int) (t2 : List UInt8) (a2 : Option Addr) (len2 cap2 : Nat) (w : World) (hl : NumsAt w a l) (hll : l.length ≤ 100000) :
    Calls Tryz.prog 95 #[vA k n t a l.length cap, vA k2 n2 t2 a2 len2 cap2] w fun e w' => pushR w.heap.size k k2 l n2 e w' ∧ Below w.heap.size w w' := by
  have hb1 := (Below.refl w.heap.size w).alloc (Nat.le_refl _) (.cells #[.int .i64 k, .int .i64 n, .string (S t), .slice a l.length cap] 52)
  have hb2 := hb1.alloc (by simp) (.cells #[.int .i64 k2, .int .i64 n2, .string (S t2), .slice a2 len2 cap2] 52)
  have HB := Lib.hid hb2
  have HL := Lib.hid (hl.below hb2)
  clear hb1 hb2 hl
  unfold vA
  by_cases hk : k = 5 ∧ k2 = 1
  · obtain ⟨rfl, rfl⟩ := hk
    by_cases h16 : l.length < 16
    · have h16i : (l.length : Int) < 16 := by omega
      have HAPP := Lib.hid (app_both _ l (by omega) a n2 (w.heap.size + 1 + 1) (by simp) HL.out)
      go_enter Tryz.func95, Tryz.ntmps95
      go_wp2_with fail
      refine (need_ok 23 _).mono ?_
      rintro e w1 ⟨rfl, rfl⟩
      go_wp2_with fail
      refine (need_ok 32 _).mono ?_
      rintro e w1 ⟨rfl, rfl⟩
      go_wp2_with fail
      go_region_law (first
        | (go_simp; go_at_call 146; refine (clip_any _ _ _ hcap _).mono ?_; rintro e w5 ⟨rfl, rfl⟩)
        | (refine step_app1 rfl _ _ _ _ rfl rfl rfl _ (HAPP.out _ (by first | exact .inl rfl | exact .inr (.inl rfl) | exact .inr (.inr rfl))) ?_; rintro q c' w6 ⟨hn6, b6⟩))
      all_goals
        go_wp2_with fail
        go_ret
        exact ⟨.inl ⟨rfl, rfl, h16, q, c', rfl, hn6.mono HB.out.size⟩, HB.out.trans (b6.mono HB.out.size)⟩
    · have h16i : decide ((l.length : Int) < 16) = false := decide_eq_false (by omega)
      go_enter Tryz.func95, Tryz.ntmps95
      go_wp2_with fail
      refine (need_ok 23 _).mono ?_
      rintro e w1 ⟨rfl, rfl⟩
      go_wp2_with fail
      refine (need_bad 32 _).mono ?_
      rintro e w1 ⟨rfl, rfl⟩
      unfold panE
      go_wp2_with fail
      exact ⟨rfl, .inr (.inl ⟨rfl, rfl, h16, rfl⟩), HB.out⟩
  · have hR : ∀ wx, pushR w.heap.size k k2 l n2 (panE 23) wx := fun wx => .inr (.inr ⟨hk, rfl⟩)
    have HR := Lib.hid hR
    clear hR
    by_cases h5 : k = 5
    · subst h5
      have e1 : (k2 == 1) = false := by simp; omega
      go_enter Tryz.func95, Tryz.ntmps95
      go_wp2_with fail
      refine (need_bad 23 _).mono ?_
      rintro e w1 ⟨rfl, rfl⟩
      unfold panE
      go_wp2_with fail
      exact ⟨rfl, HR.out _, HB.out⟩
    · have e5 : (k == 5) = false := by simpa using h5
      go_enter Tryz.func95, Tryz.ntmps95
      go_wp2_with fail
      refine (need_bad 23 _).mono ?_
      rintro e w1 ⟨rfl, rfl⟩
      unfold panE
      go_wp2_with fail
      exact ⟨rfl, HR.out _, HB.out⟩
end Go.Proofs.YtlmmfhbdebfgkaaGreatDoor.Ev
