/-
  LxRTokP, LxRSaid, LxRSaidW.
-/
import Derived.Test.YtlmmfhbdebfgkaaGreatDoorVLxTokQ
import Derived.Test.YtlmmfhbdebfgkaaGreatDoorVVaPrintBQ
set_option linter.unusedVariables false
set_option linter.unusedSimpArgs false
set_option maxRecDepth 100000
set_option maxHeartbeats 3200000
namespace Go.Proofs.YtlmmfhbdebfgkaaGreatDoor.Lx
open Va
theorem endQ_at : ∀ (n : Nat) (r : List UInt8) (k : Nat), r.length ≤ n → endQ r = some k → 1 ≤ k ∧ k ≤ r.length ∧ r = r.take (k - 1) ++ 34 :: r.drop k := by
  intro n
  induction n with
  | zero =>
    intro r k hr h
    have : r = [] := List.eq_nil_of_length_eq_zero (by omega)
    subst this
    cases h
  | succ n ih =>
    intro r k hr h
    match r, hr, h with
    | [], _, h => cases h
    | c :: r, hr, h =>
      by_cases h92 : c = 92
      · subst h92
        match r, hr, h with
        | [], _, h => cases h
        | d :: r, hr, h =>
          rw [endQ_esc] at h
          cases he : endQ r with
          | none => rw [he] at h; cases h
          | some j =>
            rw [he] at h
            obtain rfl : j + 2 = k := by simpa using h
            obtain ⟨h1, h2, h3⟩ := ih r j (by simp at hr; omega) he
            refine ⟨by omega, by simp; omega, ?_⟩
            rw [show j + 2 - 1 = (j - 1) + 2 by omega]
            simp only [List.take_succ_cons, List.drop_succ_cons, List.cons_append]
            rw [← h3]
      · by_cases h34 : c = 34
        · subst h34
          rw [endQ_quo] at h
          obtain rfl : 1 = k := by simpa using h
          exact ⟨by omega, by simp, rfl⟩
        · rw [endQ_one c r h92 h34] at h
          cases he : endQ r with
          | none => rw [he] at h; cases h
          | some j =>
            rw [he] at h
            obtain rfl : j + 1 = k := by simpa using h
            obtain ⟨h1, h2, h3⟩ := ih r j (by simp at hr; omega) he
            refine ⟨by omega, by simp; omega, ?_⟩
            rw [show j + 1 - 1 = (j - 1) + 1 by omega]
            simp only [List.take_succ_cons, List.drop_succ_cons, List.cons_append]
            rw [← h3]
theorem tok_34 (r : List UInt8) : tokM (34 :: r) = match quo (r.length + 1) r with
    | none => none
    | some (t, n) => if t.length ≤ 64 then some ⟨3, t, 0, n + 1⟩ else none := by
  rw [tokM_cons, if_neg (by decide), if_neg (by decide), if_neg (by decide), if_pos rfl]
  rfl
theorem quo_endQ (r : List UInt8) (t : List UInt8) (n : Nat) (h : quo (r.length + 1) r = some (t, n)) : endQ r = some n ∧ r.take (n - 1) = escT t := by
  have e := quo_text _ _ _ _ h
  have hn := quo_len _ _ _ _ h
  have hr : r = escT t ++ 34 :: r.drop n := by
    conv => lhs; rw [← List.take_append_drop n r, e]
    simp
  have hl := congrArg List.length e
  rw [List.length_take] at hl
  simp only [List.length_append, List.length_cons, List.length_nil] at hl
  have hk : n = (escT t).length + 1 := by omega
  refine ⟨?_, ?_⟩
  · rw [hr, endQ_text, hk]
  · rw [hk, Nat.add_sub_cancel]
    conv => lhs; rw [hr]
    rw [List.take_left]
theorem tok_noend (r : List UInt8) (h : endQ r = none) : tokM (34 :: r) = none := by
  rw [tok_34]
  cases hq : quo (r.length + 1) r with
  | none => rfl
  | some tn => rw [(quo_endQ r tn.1 tn.2 hq).1] at h; cases h
theorem tok_nosaid (r : List UInt8) (k : Nat) (h : endQ r = some k) (hn : ∀ t, r.take (k - 1) ≠ escT t) : tokM (34 :: r) = none := by
  rw [tok_34]
  cases hq : quo (r.length + 1) r with
  | none => rfl
  | some tn =>
    obtain ⟨h1, h2⟩ := quo_endQ r tn.1 tn.2 hq
    rw [h1] at h
    obtain rfl : tn.2 = k := by simpa using h
    exact absurd h2 (hn _)
theorem tok_said (r : List UInt8) (k : Nat) (h : endQ r = some k) (t : List UInt8) (ht : r.take (k - 1) = escT t) : tokM (34 :: r) = if t.length ≤ 64 then some ⟨3, t, 0, k + 1⟩ else none := by
  obtain ⟨h1, h2, h3⟩ := endQ_at _ r k (Nat.le_refl _) h
  have hl := congrArg List.length ht
  rw [List.length_take] at hl
  have hge := escT_ge t
  have hq := quo_of t (r.drop k) (r.length + 1) (by omega)
  rw [← ht, ← h3, show (r.take (k - 1)).length + 1 = k by rw [List.length_take]; omega] at hq
  rw [tok_34, hq]
structure TwSt (p : UInt8 → Bool) (l : List UInt8) (a n : Nat) : Prop where
  eq : (l.drop a).takeWhile p = (l.drop a).take (n - a) ++ (l.drop n).takeWhile p
  le : a ≤ n
theorem tw_start (p : UInt8 → Bool) (l : List UInt8) (a : Nat) : TwSt p l a a := ⟨by simp, Nat.le_refl _⟩
theorem tw_step (p : UInt8 → Bool) (l : List UInt8) (a n : Nat) (h : TwSt p l a n) (hn : n < l.length) (hp : p l[n] = true) : TwSt p l a (n + 1) := by
  have he := h.eq
  have hl := h.le
  refine ⟨?_, by omega⟩
  rw [he, rdrop_cons l n hn, List.takeWhile_cons, if_pos hp]
  have e1 : (l.drop a).take (n + 1 - a) = (l.drop a).take (n - a) ++ [l[n]] := by
    rw [show n + 1 - a = (n - a) + 1 by omega, List.take_succ_eq_append_getElem (by rw [List.length_drop]; omega)]
    congr 2
    rw [List.getElem_drop]
    congr 1
    omega
  rw [e1, List.append_assoc]
  rfl
theorem tw_stop (p : UInt8 → Bool) (l : List UInt8) (a n : Nat) (h : TwSt p l a n) (hc : l.length ≤ n ∨ ∃ hn : n < l.length, p l[n] = false) : (l.drop a).takeWhile p = (l.drop a).take (n - a) := by
  have he := h.eq
  rcases hc with hc | ⟨hn, hc⟩
  · rw [List.drop_eq_nil_of_le hc, List.takeWhile_nil, List.append_nil] at he
    exact he
  · rw [rdrop_cons l n hn, List.takeWhile_cons, hc] at he
    simpa using he
end Go.Proofs.YtlmmfhbdebfgkaaGreatDoor.Lx
namespace Go.Proofs.YtlmmfhbdebfgkaaGreatDoor.Lx
open Go.RowKit
open Va
theorem esc_pre (c d : UInt8) (x y : List UInt8) (h : esc c ++ x = esc d ++ y) : c = d ∧ x = y := by
  have h1 := unescM_esc c x
  rw [h, unescM_esc] at h1
  have h2 : d = c := congrArg Prod.fst h1
  subst h2
  exact ⟨rfl, List.append_cancel_left h⟩
theorem escT_split : ∀ (t0 t x : List UInt8), escT t0 ++ x = escT t → ∃ t1, t = t0 ++ t1 ∧ x = escT t1
  | [], t, x, h => ⟨t, rfl, h⟩
  | c :: t0, [], x, h => by
    rw [escT_cons] at h
    have := esc_ne c
    simp [escT] at h
    exact absurd h.1 this
  | c :: t0, d :: t, x, h => by
    rw [escT_cons, escT_cons, List.append_assoc] at h
    obtain ⟨rfl, h2⟩ := esc_pre c d _ _ h
    obtain ⟨t1, h3, h4⟩ := escT_split t0 t x h2
    exact ⟨t1, by rw [h3]; rfl, h4⟩
structure SaSt (m t0 : List UInt8) (p : Nat) : Prop where
  eq : m = escT t0 ++ m.drop p
  le : p ≤ m.length
theorem sa_zero (m : List UInt8) : SaSt m [] 0 := ⟨rfl, Nat.zero_le _⟩
theorem sa_hit (m t0 : List UInt8) (p : Nat) (h : SaSt m t0 p) (c : UInt8) (hp : esc c <+: m.drop p) : SaSt m (t0 ++ [c]) (p + (esc c).length) := by
  obtain ⟨r, hr⟩ := hp
  have hd : m.drop (p + (esc c).length) = r := by rw [← List.drop_drop, ← hr, List.drop_left]
  have hl := congrArg List.length hr
  rw [List.length_append, List.length_drop] at hl
  have hle := h.le
  have h1 := esc_len1 c
  refine ⟨?_, by omega⟩
  rw [hd, escT_append, List.append_assoc]
  conv => lhs; rw [h.eq, ← hr]
  simp [escT]
theorem sa_no (m t0 : List UInt8) (p : Nat) (h : SaSt m t0 p) (hlt : p < m.length) (hn : ∀ c : UInt8, ¬ esc c <+: m.drop p) (t : List UInt8) : m ≠ escT t := by
  intro e
  have he := h.eq
  rw [e] at he
  obtain ⟨t1, h1, h2⟩ := escT_split t0 t _ (by rw [← e] at he ⊢; exact he.symm)
  cases t1 with
  | nil =>
    have := congrArg List.length h2
    rw [List.length_drop] at this
    simp [escT] at this
    omega
  | cons c t1 => exact hn c ⟨escT t1, by rw [h2, escT_cons]⟩
theorem sa_end (m t0 : List UInt8) (p : Nat) (h : SaSt m t0 p) (hp : p = m.length) : m = escT t0 := by
  have := h.eq
  rw [hp, List.drop_length, List.append_nil] at this
  exact this
theorem esc_len4 (c : UInt8) : (esc c).length ≤ 4 := by
  unfold esc
  split
  · simp
  · split <;> simp
theorem sa_len (m t0 : List UInt8) (p : Nat) (h : SaSt m t0 p) : t0.length ≤ m.length := by
  have h1 := escT_ge t0
  have h2 := congrArg List.length h.eq
  rw [List.length_append] at h2
  omega
def saidR (m : List UInt8) (e : Ending) : Prop := (∃ t, m = escT t ∧ e = .returned (.tuple #[.string (S t), .bool (decide (t.length ≤ 64))])) ∨ ((∀ t, m ≠ escT t) ∧ e = .returned (.tuple #[.string ⟨#[]⟩, .bool false]))
theorem conv_nil8 (w : World) : (convert 67 9 (.slice none 0 0)).run Tryz.prog w = .ok (.string ⟨#[]⟩) w := by kernel_rfl
theorem buf_string {B : Nat} {W0 w : World} {v : Value} {t : List UInt8} (h : Buf B W0 w v t) : (convert 67 9 v).run Tryz.prog w = .ok (.string (S t)) w ∧ ∃ a c, v = .slice a t.length c := by
  rcases h.own.2 with ⟨rfl, h0⟩ | ⟨g, cap, cur, rfl, _⟩
  · have : t = [] := List.length_eq_zero_iff.1 h0
    subst this
    exact ⟨conv_nil8 w, none, 0, rfl⟩
  · exact ⟨(Row8.of_owns h.own).back (P := Tryz.prog) 67 9 5 cap Tryz.underlying67 Tryz.underlying5 Tryz.underlying9 t.length rfl, _, _, rfl⟩
theorem wpList_appR {P : Program} {ops : Array Oper} {rest : List Oper} {o : Oper} {a : Act} {w : World} {Q : Exit → Act → World → Prop} (hgd : o.guard = none) (s x : Operand) (t u : TypeId)
    (ho : o.op = .call { callee := .builtin .append, args := #[s, x], argTypes := #[t, u] }) {v vx : Value} (hs : a.eval s = v) (hx : a.eval x = vx) (v' : Value) (w' : World)
    (hr : (Builtin.append_ #[t, u] o.type #[v, vx]).run P w = .ok v' w') (h : wpList P ops Q rest (a.put o.dst v') w') : wpList P ops Q (o :: rest) a w := by
  refine wpList_plain hgd fun K hK => ?_
  unfold Oper.wp execOp
  simp only [ho, resolve, invoke, builtin, Sem.run_bind, Sem.run_pure, Result.andThen_ok, List.map_toArray, List.map_cons, List.map_nil, hs, hx, hr]
  exact hK _ _ h
theorem buf_later {B : Nat} {W0 w w' : World} {v : Value} {l : List UInt8} (h : Buf B W0 w v l) (hb : Below w.heap.size w w') : Buf B W0 w' v l :=
  ⟨World.ownsRow.kept (row := none) h.own ⟨hb.os, hb.tape, hb.output, hb.size, fun k hk _ => hb.block k hk⟩ (Classical.em _), h.below.trans (hb.mono h.hi), Nat.le_trans h.hi hb.size⟩
theorem app_one (B : Nat) (W0 w : World) (v : Value) (t : List UInt8) (h : Buf B W0 w v t) (ht : t.length ≤ 100000) (c : UInt8) (H : Nat) (hH : w.heap.size = H) :
    ∃ v' w', (Builtin.append_ #[67, 67] 67 #[v, .slice (some ⟨H, 0, none⟩) 1 1]).run Tryz.prog (w.alloc (.cells #[.int .u8 (c.toNat : Int)] 5)) = .ok v' w' ∧ Buf B W0 w' v' (t ++ [c]) := by
  obtain ⟨i0, hi, hz0, hz1, hz2⟩ := info_parts info8
  obtain ⟨v', w', hr, h2, h3, _⟩ := run_append_own (P := Tryz.prog) (w.alloc (.cells #[.int .u8 (c.toNat : Int)] 5)) B 67 67 5 i0 _ 1 1 Tryz.underlying67 hi hz0 hz1 hz2 rfl (by decide) v t.length (u8C t) (h.own.alloc _) ⟨H, 0, none⟩ 1 1 [.int .u8 (c.toNat : Int)] rfl (news_one w _ _ H hH) (one_int _) (by unfold maxLen; omega) (by omega) (by have := h.hi; simp; omega)
  exact ⟨v', w', hr, h.step rfl h2 h3⟩
inductive SaIn (m t0 : List UInt8) (P : Nat) (w wr : World) (vb va vf : Value) (c : Nat) : Prop where
  | no : vf = .bool false → va = .int .i64 (P : Int) → Buf w.heap.size w wr vb t0 → (∀ d : UInt8, d.toNat < c → ¬ esc d <+: m.drop (P - 1)) → SaIn m t0 P w wr vb va vf c
  | yes (t1 : List UInt8) (Q : Nat) : vf = .bool true → va = .int .i64 (Q : Int) → P < Q → SaSt m t1 (Q - 1) → Buf w.heap.size w wr vb t1 → SaIn m t0 P w wr vb va vf c
def SaRel (m t0 : List UInt8) (P : Nat) (w : World) (vb va vf vc : Value) (wr : World) : Prop := ∃ (c : Nat) (xb : Value), xb = vb ∧ vc = .int .i64 c ∧ c ≤ 256 ∧ SaIn m t0 P w wr xb va vf c
end Go.Proofs.YtlmmfhbdebfgkaaGreatDoor.Lx
namespace Go.Proofs.YtlmmfhbdebfgkaaGreatDoor.Lx
open Go.RowKit
open Va
theorem refSaid_any (s : ByteArray) (m : List UInt8) (hm : s.data.toList = 34 :: (m ++ [34])) (hs : s.size ≤ 100000) (w : World) :
    Calls Tryz.prog 136 #[.string s] w fun e w' => saidR m e ∧ Below w.heap.size w w' := by
  have hls := list_size s
  rw [hm] at hls
  have hsz : s.size = m.length + 2 := by simpa using hls.symm
  have hsi : (s.size : Int) = (m.length : Int) + 2 := by omega
  have hml : (m.length : Int) ≤ 100000 := by omega
  have HEX := Lib.hid (fun (P k : Nat) (hP : 1 ≤ P) (hk : P + k ≤ m.length + 1) => show s.extract P (P + k) = S ((m.drop (P - 1)).take k) from by
    obtain ⟨q, rfl⟩ : ∃ q, P = q + 1 := ⟨P - 1, by omega⟩
    rw [S_extract, hm, List.drop_succ_cons, Nat.add_sub_cancel_left, Nat.add_sub_cancel, List.drop_append_of_le_length (by omega), List.take_append_of_le_length (by rw [List.length_drop]; omega)])
  have HPR := Lib.hid (fun (c : UInt8) (wr : World) => show Calls Tryz.prog 101 #[.agg #[.int .i64 3, .int .i64 0, .string (S [c]), .slice none 0 0]] wr fun e w' => e = .returned (.string (S (34 :: (esc c ++ [34])))) ∧ Below wr.heap.size wr w' from by
    have := refPrint_text 0 [c] [] (by simp) none 0 wr
    rw [show escT [c] = esc c by simp [escT]] at this
    exact this)
  have HST0 := Lib.hid (sa_zero m)
  have HB0 := Lib.hid (show Buf w.heap.size w w (.slice none 0 0) [] from ⟨World.ownsRow_nil _ _ _ _, Below.refl _ _, Nat.le_refl _⟩)
  have HSZ := Lib.hid hsz
  clear hls hsz hm
  go_enter Tryz.func136, Tryz.ntmps136
  go_wp2_with fail
  go_loopw [4, 5] (fun vb va wr => ∃ (P : Nat) (t0 : List UInt8) (ub : Value), ub = vb ∧ va = .int .i64 P ∧ 1 ≤ P ∧ P ≤ m.length + 1 ∧ SaSt m t0 (P - 1) ∧ Buf w.heap.size w wr ub t0) (fun _ va _ => m.length + 2 - (intOf va).toNat)
  case atStart => exact ⟨1, [], _, rfl, rfl, by omega, by omega, HST0.out, HB0.out⟩
  case round =>
    obtain ⟨P, t0, ub, rfl, rfl, hP1, hP2, hst, hb⟩ := hrel
    have HST := Lib.hid hst
    have HB := Lib.hid hb
    clear hst hb
    by_cases hlt : P < m.length + 1
    · have hPi : (P : Int) < (m.length : Int) + 2 - 1 := by omega
      have hPd : decide ((P : Int) < (m.length : Int) + 2 - 1) = true := by simpa using hPi
      obtain ⟨wo, hwo⟩ : ∃ wo : World, wo = wr := ⟨_, rfl⟩
      subst hwo
      go_wp2_with fail
      go_loopw [4, 5, 6, 7] (fun vb va vf vc wr => SaRel m t0 P w vb va vf vc wr) (fun _ _ _ vc _ => 256 - (intOf vc).toNat)
      case atStart => exact ⟨0, _, rfl, rfl, by omega, .no rfl rfl HB.out (fun d hd => absurd hd (by omega))⟩
      case round =>
        obtain ⟨c, xb, rfl, rfl, hc, hin⟩ := hrel
        have hci0 : (c : Int) ≤ 256 := by omega
        rcases hin with ⟨rfl, rfl, hbf, hno⟩ | ⟨t1, Q, rfl, rfl, hPQ, hst1, hb1⟩
        · have HBF := Lib.hid hbf
          have HNO := Lib.hid hno
          clear hbf hno
          by_cases hc6 : c < 256
          · obtain ⟨cb, rfl⟩ : ∃ cb : UInt8, cb.toNat = c := ⟨UInt8.ofNat c, UInt8.toNat_ofNat_of_lt' (by simpa using hc6)⟩
            have hc256 : ((cb.toNat : Nat) : Int) < 256 := by omega
            have hc0 : (0 : Int) ≤ ((cb.toNat : Nat) : Int) := by omega
            have hconv := byte_string wr cb _ rfl
            have HP := Lib.hid (HPR.out cb)
            obtain ⟨PS, hPS⟩ : ∃ PS, PS = S (34 :: (esc cb ++ [34])) := ⟨_, rfl⟩
            obtain ⟨E, hE⟩ : ∃ E, E = S (esc cb) := ⟨_, rfl⟩
            have hPz : PS.size = (esc cb).length + 2 := by rw [hPS, S_size]; simp
            have hEz : E.size = (esc cb).length := by rw [hE, S_size]
            have hk1 := esc_len1 cb
            have hk4 := esc_len4 cb
            have hex1 : PS.extract 1 (PS.size - 1) = E := by
              rw [hPz, hPS, hE, S_extract, S_toList, show (esc cb).length + 2 - 1 - 1 = (esc cb).length by omega, List.drop_succ_cons, List.drop_zero, List.take_left]
            have hPi2 : (2 : Int) ≤ (PS.size : Int) := by omega
            have hPi6 : (PS.size : Int) ≤ 10 := by omega
            have hEi1 : (1 : Int) ≤ (E.size : Int) := by omega
            have hEi4 : (E.size : Int) ≤ 4 := by omega
            rw [← hPS] at HP
            have HEZ := Lib.hid hEz
            by_cases hA : P + E.size ≤ m.length + 1
            · have hAi : (P : Int) + (E.size : Int) ≤ (m.length : Int) + 1 := by omega
              have hexs := HEX.out P E.size hP1 hA
              by_cases hH : (m.drop (P - 1)).take E.size = esc cb
              · have heq : ((s.extract P (P + E.size)).toList == E.toList) = true := by rw [hexs, hH, hE]; simp
                have hpre : esc cb <+: m.drop (P - 1) := by rw [← hH]; exact List.take_prefix _ _
                have HS1 := Lib.hid (show SaSt m (t0 ++ [cb]) (P + E.size - 1) from by
                  have := sa_hit m t0 _ HST.out cb hpre
                  rw [show P + E.size - 1 = P - 1 + (esc cb).length by omega]; exact this)
                have htl := sa_len m t0 _ HST.out
                clear hPS hE hPz hEz hk1 hk4 hexs hH hpre hA
                go_wp2_with fail
                refine (HP.out _).mono ?_
                rintro e w2 ⟨rfl, b2⟩
                have hb2 := buf_later HBF.out (((Below.refl wr.heap.size wr).alloc (Nat.le_refl _) (.cells #[.int .u8 ((cb.toNat : Nat) : Int)] 5)).trans (b2.mono (by simp)))
                obtain ⟨v4, w4, hr4, hb4⟩ := app_one w.heap.size w w2 xb t0 hb2 (by omega) cb w2.heap.size rfl
                have HRUN := Lib.hid hr4
                have HB4 := Lib.hid hb4
                clear b2 hb2 hr4 hb4
                go_wp2_with (at_builtin; refine wpList_appR rfl _ _ _ _ rfl rfl rfl _ _ HRUN.out ?_)
                go_roundw
                case rel => exact ⟨cb.toNat + 1, _, rfl, by go_num, by omega, .yes (t0 ++ [cb]) (P + E.size) rfl (by go_num) (by omega) HS1.out HB4.out⟩
                case measure => simp [intOf]; omega
              · have heq : ((s.extract P (P + E.size)).toList == E.toList) = false := by
                  rw [beq_eq_false_iff_ne, hexs, hE, ByteArray.toList_eq, ByteArray.toList_eq, S_toList, S_toList, S_size]
                  rw [hEz] at hH
                  exact hH
                have HN := Lib.hid (show ∀ d : UInt8, d.toNat < cb.toNat + 1 → ¬ esc d <+: m.drop (P - 1) from fun d hd => by
                  by_cases e : d = cb
                  · subst e
                    intro hp
                    exact hH (by rw [HEZ.out]; exact (List.prefix_iff_eq_take.1 hp).symm)
                  · exact HNO.out d (by have : d.toNat ≠ cb.toNat := fun h => e (UInt8.toNat_inj.1 h); omega))
                clear hPS hE hPz hEz hk1 hk4 hexs hH hA
                go_wp2_with fail
                refine (HP.out _).mono ?_
                rintro e w2 ⟨rfl, b2⟩
                have HB2 := Lib.hid (buf_later HBF.out (((Below.refl wr.heap.size wr).alloc (Nat.le_refl _) (.cells #[.int .u8 ((cb.toNat : Nat) : Int)] 5)).trans (b2.mono (by simp))))
                clear b2
                go_wp2_with fail
                go_roundw
                case rel => exact ⟨cb.toNat + 1, _, rfl, by go_num, by omega, .no rfl rfl HB2.out HN.out⟩
                case measure => simp [intOf]; omega
            · have hAi : ¬ (P : Int) + (E.size : Int) ≤ (m.length : Int) + 1 := by omega
              have HN := Lib.hid (show ∀ d : UInt8, d.toNat < cb.toNat + 1 → ¬ esc d <+: m.drop (P - 1) from fun d hd => by
                by_cases e : d = cb
                · subst e
                  intro hp
                  have := hp.length_le
                  rw [List.length_drop] at this
                  have := HEZ.out
                  omega
                · exact HNO.out d (by have : d.toNat ≠ cb.toNat := fun h => e (UInt8.toNat_inj.1 h); omega))
              clear hPS hE hPz hEz hk1 hk4 hA
              go_wp2_with fail
              refine (HP.out _).mono ?_
              rintro e w2 ⟨rfl, b2⟩
              have HB2 := Lib.hid (buf_later HBF.out (((Below.refl wr.heap.size wr).alloc (Nat.le_refl _) (.cells #[.int .u8 ((cb.toNat : Nat) : Int)] 5)).trans (b2.mono (by simp))))
              clear b2
              go_wp2_with fail
              go_roundw
              case rel => exact ⟨cb.toNat + 1, _, rfl, by go_num, by omega, .no rfl rfl HB2.out HN.out⟩
              case measure => simp [intOf]; omega
          · obtain rfl : c = 256 := by omega
            have HR := Lib.hid (sa_no m t0 (P - 1) HST.out (by omega) (fun d => HNO.out d d.toNat_lt))
            go_wp2_with fail
            go_ret2
            exact ⟨.inr ⟨HR.out, rfl⟩, HBF.out.below⟩
        · have HS1 := Lib.hid hst1
          have HB1 := Lib.hid hb1
          have hle := hst1.le
          clear hst1 hb1
          go_wp2_with fail
          all_goals
            go_roundw
            case rel => exact ⟨Q, t1, _, rfl, rfl, by omega, by omega, HS1.out, HB1.out⟩
            case measure => simp [intOf]; omega
    · obtain rfl : P = m.length + 1 := by omega
      have HE := Lib.hid (sa_end m t0 _ HST.out (by omega))
      obtain ⟨hcv, a, cp, rfl⟩ := buf_string HB.out
      have htl := sa_len m t0 _ HST.out
      have htli : (t0.length : Int) ≤ 100000 := by omega
      go_wp2_with fail
      go_ret2
      refine ⟨.inl ⟨t0, HE.out, ?_⟩, HB.out.below⟩
      show Ending.returned (.tuple #[.string (S t0), .bool (decide ((t0.length : Int) ≤ 64))]) = _
      rw [show decide ((t0.length : Int) ≤ 64) = decide (t0.length ≤ 64) from decide_eq_decide.2 (by omega)]
end Go.Proofs.YtlmmfhbdebfgkaaGreatDoor.Lx
