/-
  LxRBlank, LxRQuo.
-/
import Derived.Test.YtlmmfhbdebfgkaaGreatDoorWVaPureQ
import Derived.Test.YtlmmfhbdebfgkaaGreatDoorWLxTokQ
set_option linter.unusedVariables false
set_option linter.unusedSimpArgs false
set_option maxRecDepth 100000
set_option maxHeartbeats 3200000
namespace Go.Proofs.YtlmmfhbdebfgkaaGreatDoor.Lx
open Go.RowKit
open Va
theorem rbyte_ne (c d : UInt8) (h : c ≠ d) : ((c.toNat : Int) == (d.toNat : Int)) = false := by
  rw [beq_eq_false_iff_ne]
  intro e
  exact h (UInt8.toNat_inj.1 (by omega))
theorem rdrop_cons (l : List UInt8) (n : Nat) (h : n < l.length) : l.drop n = l[n] :: l.drop (n + 1) := List.drop_eq_getElem_cons h
theorem rget (s : ByteArray) (l : List UInt8) (h : s.data.toList = l) (k : Nat) (hk : k < s.size) (hl : k < l.length) : s[k] = l[k] := by
  have := getElem_list s k hk
  rw [← this, h]
  simp [List.getD, hl]
theorem ret_int {k : IntKind} {a b : Int} (h : a = b) : Ending.returned (.int k a) = .returned (.int k b) := by rw [h]
structure BlSt (l : List UInt8) (a : Nat) (c : Bool) (n : Nat) : Prop where
  eq : blk false (l.drop a) = (n - a) + blk c (l.drop n)
  le : a ≤ n
theorem bl_white (l : List UInt8) (a n : Nat) (h : BlSt l a false n) (hn : n < l.length) (hw : whiteB l[n] = true) : BlSt l a false (n + 1) := by
  have := h.eq
  rw [rdrop_cons l n hn, blk_f, if_pos hw] at this
  have := h.le
  exact ⟨by omega, by omega⟩
theorem bl_open (l : List UInt8) (a n : Nat) (h : BlSt l a false n) (hn : n + 1 < l.length) (h1 : l[n] = 47) (h2 : l[n + 1] = 47) : BlSt l a true n := by
  have he := h.eq
  rw [rdrop_cons l n (by omega), blk_f, h1, if_neg (by decide), if_pos ⟨rfl, by rw [rdrop_cons l (n + 1) hn, h2]; rfl⟩] at he
  refine ⟨?_, h.le⟩
  rw [rdrop_cons l n (by omega), h1, blk_t, if_neg (by decide)]
  exact he
theorem bl_in (l : List UInt8) (a n : Nat) (h : BlSt l a true n) (hn : n < l.length) (hc : l[n] ≠ 10) : BlSt l a true (n + 1) := by
  have he := h.eq
  rw [rdrop_cons l n hn, blk_t, if_neg hc] at he
  have := h.le
  exact ⟨by omega, by omega⟩
theorem bl_close (l : List UInt8) (a n : Nat) (h : BlSt l a true n) (hc : n = l.length ∨ ∃ hn : n < l.length, l[n] = 10) : BlSt l a false n := by
  have he := h.eq
  refine ⟨?_, h.le⟩
  rcases hc with hc | ⟨hn, hc⟩
  · have hd : l.drop n = [] := List.drop_eq_nil_of_le (by omega)
    rw [he, hd]
    rfl
  · have hd : l.drop n = 10 :: l.drop (n + 1) := by rw [rdrop_cons l n hn, hc]
    rw [he, hd, blk_t, blk_f, if_pos rfl, if_pos (show whiteB 10 = true from rfl)]
theorem bl_end (l : List UInt8) (a n : Nat) (h : BlSt l a false n) (hc : n = l.length ∨ ∃ hn : n < l.length, whiteB l[n] = false ∧ ¬ (l[n] = 47 ∧ l[n + 1]? = some 47)) : ((n : Int) - (a : Int)) = (blk false (l.drop a) : Int) := by
  have he := h.eq
  have hl := h.le
  have h0 : blk false (l.drop n) = 0 := by
    rcases hc with hc | ⟨hn, hw, hc⟩
    · rw [List.drop_eq_nil_of_le (show l.length ≤ n by omega)]; rfl
    · rw [rdrop_cons l n hn, blk_f, if_neg (by rw [hw]; decide), if_neg (by rw [List.head?_drop]; exact hc)]
  omega
theorem refBlanks_any (s : ByteArray) (a : Nat) (ha : a ≤ s.size) (hs : s.size ≤ 100000) (w : World) :
    Calls Tryz.prog 81 #[.string s, .int .i64 (a : Int)] w fun e w' => e = .returned (.int .i64 (blk false (s.data.toList.drop a) : Int)) ∧ w = w' := by
  have hls := list_size s
  obtain ⟨l, hl⟩ : ∃ l, s.data.toList = l := ⟨_, rfl⟩
  rw [hl] at hls ⊢
  have HLS := Lib.hid hls
  have HL := Lib.hid hl
  have hsi : (s.size : Int) ≤ 100000 := by omega
  have HE0 := Lib.hid (show BlSt l a false a from ⟨by omega, Nat.le_refl _⟩)
  have HGT := Lib.hid (fun (k : Nat) (hk : k < s.size) (hk2 : k < l.length) => rget s l hl k hk hk2)
  clear hl hls
  go_enter Tryz.func81, Tryz.ntmps81
  go_wp2_with fail
  go_loop [5] (fun v => ∃ n : Nat, v = .int .i64 n ∧ n ≤ s.size ∧ BlSt l a false n) (fun v => s.size - (intOf v).toNat)
  case atStart => exact ⟨a, rfl, ha, HE0.out⟩
  case round =>
    obtain ⟨n, rfl, hn, hst⟩ := hrel
    have HST := Lib.hid hst
    clear hst
    by_cases hlt : n < s.size
    · have hni : (n : Int) < (s.size : Int) := by omega
      have hnl : n < l.length := by have := HLS.out; omega
      have hg := HGT.out n hlt hnl
      obtain ⟨c, hc⟩ : ∃ c, l[n] = c := ⟨_, rfl⟩
      rw [hc] at hg
      have HC := Lib.hid hc
      clear hc
      by_cases hw : whiteB c = true
      · have HN := Lib.hid (bl_white l a n HST.out hnl (by rw [HC.out]; exact hw))
        have hcs : c = 9 ∨ c = 10 ∨ c = 13 ∨ c = 32 := by
          unfold whiteB at hw
          simpa [or_assoc] using hw
        clear hw
        rcases hcs with rfl | rfl | rfl | rfl
        all_goals
          go_wp2_with fail
          go_round
          case rel => exact ⟨n + 1, by go_num, by omega, HN.out⟩
          case measure => simp [intOf]; omega
      · have hwf : whiteB c = false := by simpa using hw
        have h9 : ((c.toNat : Int) == 9) = false := rbyte_ne c 9 (by rintro rfl; exact hw rfl)
        have h10 : ((c.toNat : Int) == 10) = false := rbyte_ne c 10 (by rintro rfl; exact hw rfl)
        have h13 : ((c.toNat : Int) == 13) = false := rbyte_ne c 13 (by rintro rfl; exact hw rfl)
        have h32 : ((c.toNat : Int) == 32) = false := rbyte_ne c 32 (by rintro rfl; exact hw rfl)
        clear hw
        by_cases hn1 : n + 1 < s.size
        · have hn1i : (n : Int) + 1 < (s.size : Int) := by omega
          have hn2i : (n : Int) + 2 ≤ (s.size : Int) := by omega
          have hex : s.extract n (n + 2) = S [c, l[n + 1]'(by have := HLS.out; omega)] := by
            rw [S_extract, HL.out, rdrop_cons l n hnl, rdrop_cons l (n + 1) (by have := HLS.out; omega), HC.out, show n + 2 - n = 2 by omega]
            rfl
          obtain ⟨d, hd⟩ : ∃ d, l[n + 1]'(by have := HLS.out; omega) = d := ⟨_, rfl⟩
          rw [hd] at hex
          have HD := Lib.hid hd
          clear hd
          by_cases hcm : c = 47 ∧ d = 47
          · have HO := Lib.hid (bl_open l a n HST.out (by have := HLS.out; omega) (by rw [HC.out]; exact hcm.1) (by rw [HD.out]; exact hcm.2))
            obtain ⟨rfl, rfl⟩ := hcm
            have heq : ((s.extract n (n + 2)).toList == ([47, 47] : List UInt8)) = true := by rw [hex, ByteArray.toList_eq, S_toList]; rfl
            clear hex
            go_wp2_with fail
            go_loop [5] (fun v => ∃ m : Nat, v = .int .i64 m ∧ n ≤ m ∧ m ≤ s.size ∧ BlSt l a true m) (fun v => s.size - (intOf v).toNat)
            case atStart => exact ⟨n, rfl, Nat.le_refl _, hn, HO.out⟩
            case round =>
              obtain ⟨m, rfl, hm1, hm2, hsm⟩ := hrel
              have HSM := Lib.hid hsm
              clear hsm
              by_cases hlt2 : m < s.size
              · have hmi : (m : Int) < (s.size : Int) := by omega
                have hml : m < l.length := by have := HLS.out; omega
                have hg2 := HGT.out m hlt2 hml
                obtain ⟨c2, hc2⟩ : ∃ c2, l[m] = c2 := ⟨_, rfl⟩
                rw [hc2] at hg2
                have HC2 := Lib.hid hc2
                clear hc2
                by_cases h10c : c2 = 10
                · subst h10c
                  have HN := Lib.hid (bl_close l a m HSM.out (.inr ⟨hml, HC2.out⟩))
                  have hmn : m ≠ n := by
                    rintro rfl
                    have := HC.out.symm.trans HC2.out
                    exact absurd this (by decide)
                  go_wp2_with fail
                  go_round
                  case rel => exact ⟨m, rfl, by omega, HN.out⟩
                  case measure => simp [intOf]; omega
                · have h10b : ((c2.toNat : Int) == 10) = false := rbyte_ne c2 10 h10c
                  have h10n : ((c2.toNat : Int) != 10) = true := by simp only [bne, h10b, Bool.not_false]
                  have HN := Lib.hid (bl_in l a m HSM.out hml (by rw [HC2.out]; exact h10c))
                  clear h10c
                  go_wp2_with fail
                  go_round
                  case rel => exact ⟨m + 1, by go_num, by omega, by omega, HN.out⟩
                  case measure => simp [intOf]; omega
              · obtain rfl : m = s.size := by omega
                have HN := Lib.hid (bl_close l a s.size HSM.out (.inl (by have := HLS.out; omega)))
                go_wp2_with fail
                go_round
                case rel => exact ⟨s.size, rfl, by omega, HN.out⟩
                case measure => simp [intOf]; omega
          · have HR := Lib.hid (bl_end l a n HST.out (.inr ⟨hnl, by rw [HC.out]; exact hwf, by
              rw [HC.out, List.getElem?_eq_getElem (show n + 1 < l.length by have := HLS.out; omega), HD.out]
              simpa using hcm⟩))
            have heq : ((s.extract n (n + 2)).toList == ([47, 47] : List UInt8)) = false := by
              rw [hex, ByteArray.toList_eq, S_toList, beq_eq_false_iff_ne]
              intro e
              exact hcm ⟨(List.cons.inj e).1, (List.cons.inj (List.cons.inj e).2).1⟩
            have hai : (a : Int) ≤ (n : Int) := by have := HST.out.le; omega
            clear hex hcm
            go_wp2_with fail
            go_ret
            exact ⟨ret_int HR.out, rfl⟩
        · have hn1i : ¬ (n : Int) + 1 < (s.size : Int) := by omega
          have HR := Lib.hid (bl_end l a n HST.out (.inr ⟨hnl, by rw [HC.out]; exact hwf, by
            rw [List.getElem?_eq_none (show l.length ≤ n + 1 by have := HLS.out; omega)]
            simp⟩))
          have hai : (a : Int) ≤ (n : Int) := by have := HST.out.le; omega
          go_wp2_with fail
          go_ret
          exact ⟨ret_int HR.out, rfl⟩
    · obtain rfl : n = s.size := by omega
      have HR := Lib.hid (bl_end l a s.size HST.out (.inl (by have := HLS.out; omega)))
      have hai : (a : Int) ≤ (s.size : Int) := by omega
      go_wp2_with fail
      go_ret
      exact ⟨ret_int HR.out, rfl⟩
end Go.Proofs.YtlmmfhbdebfgkaaGreatDoor.Lx
namespace Go.Proofs.YtlmmfhbdebfgkaaGreatDoor.Lx
open Go.RowKit
open Va
def endQ : List UInt8 → Option Nat
  | [] => none
  | [c] => if c = 92 then none else if c = 34 then some 1 else none
  | c :: d :: r => if c = 92 then (endQ r).map (· + 2) else if c = 34 then some 1 else (endQ (d :: r)).map (· + 1)
theorem endQ_esc (d : UInt8) (r : List UInt8) : endQ (92 :: d :: r) = (endQ r).map (· + 2) := by simp [endQ]
theorem endQ_quo (r : List UInt8) : endQ (34 :: r) = some 1 := by cases r <;> simp [endQ]
theorem endQ_one (c : UInt8) (r : List UInt8) (h1 : c ≠ 92) (h2 : c ≠ 34) : endQ (c :: r) = (endQ r).map (· + 1) := by
  cases r with
  | nil => simp [endQ, h1, h2]
  | cons d r => simp [endQ, h1, h2]
theorem endQ_esc1 (c : UInt8) (q : List UInt8) : endQ (esc c ++ q) = (endQ q).map (· + (esc c).length) := by
  unfold esc
  by_cases h1 : (c < 32 || 126 < c) = true
  · rw [if_pos h1]
    have hh : ∀ n, n < 16 → hexC n ≠ 92 ∧ hexC n ≠ 34 := by decide
    obtain ⟨a1, a2⟩ := hh (c.toNat / 16) (by have := c.toNat_lt; omega)
    obtain ⟨b1, b2⟩ := hh (c.toNat % 16) (by omega)
    show endQ (92 :: 120 :: hexC (c.toNat / 16) :: hexC (c.toNat % 16) :: q) = _
    rw [endQ_esc, endQ_one _ _ a1 a2, endQ_one _ _ b1 b2]
    cases endQ q <;> simp
  · rw [if_neg h1]
    by_cases h2 : (c == 34 || c == 92) = true
    · rw [if_pos h2]
      show endQ (92 :: c :: q) = _
      rw [endQ_esc]
      rfl
    · rw [if_neg h2]
      simp only [Bool.or_eq_true, beq_iff_eq, not_or] at h2
      show endQ (c :: q) = _
      rw [endQ_one _ _ h2.2 h2.1]
      rfl
theorem endQ_text (t q : List UInt8) : endQ (escT t ++ 34 :: q) = some ((escT t).length + 1) := by
  induction t with
  | nil => exact endQ_quo q
  | cons c t ih =>
    rw [escT_cons, List.append_assoc, endQ_esc1, ih]
    simp; omega
structure QeSt (l : List UInt8) (a i : Nat) : Prop where
  eq : endQ (l.drop (a + 1)) = (endQ (l.drop i)).map (· + (i - (a + 1)))
  le : a + 1 ≤ i
theorem qe_esc (l : List UInt8) (a i : Nat) (h : QeSt l a i) (hi : i < l.length) (hc : l[i] = 92) : QeSt l a (i + 2) := by
  have he := h.eq
  have hl := h.le
  refine ⟨?_, by omega⟩
  rw [he]
  by_cases h1 : i + 1 < l.length
  · rw [rdrop_cons l i hi, rdrop_cons l (i + 1) h1, hc, endQ_esc]
    cases endQ (l.drop (i + 1 + 1)) with
    | none => rfl
    | some k => simp; omega
  · have hd : l.drop i = [92] := by rw [rdrop_cons l i hi, hc, List.drop_eq_nil_of_le (by omega)]
    rw [hd, List.drop_eq_nil_of_le (show l.length ≤ i + 2 by omega)]
    rfl
theorem qe_one (l : List UInt8) (a i : Nat) (h : QeSt l a i) (hi : i < l.length) (h1 : l[i] ≠ 92) (h2 : l[i] ≠ 34) : QeSt l a (i + 1) := by
  have he := h.eq
  have hl := h.le
  refine ⟨?_, by omega⟩
  rw [he, rdrop_cons l i hi, endQ_one _ _ h1 h2]
  cases endQ (l.drop (i + 1)) with
  | none => rfl
  | some k => simp; omega
def qlen (o : Option Nat) : Nat := match o with
  | some k => k + 1
  | none => 0
theorem qe_quo (l : List UInt8) (a i : Nat) (h : QeSt l a i) (hi : i < l.length) (hc : l[i] = 34) : ((i : Int) + 1 - (a : Int)) = (qlen (endQ (l.drop (a + 1))) : Int) := by
  have hl := h.le
  rw [h.eq, rdrop_cons l i hi, hc, endQ_quo]
  show _ = (((1 + (i - (a + 1))) + 1 : Nat) : Int)
  omega
theorem qe_end (l : List UInt8) (a i : Nat) (h : QeSt l a i) (hi : l.length ≤ i) : qlen (endQ (l.drop (a + 1))) = 0 := by
  rw [h.eq, List.drop_eq_nil_of_le hi]
  rfl
theorem refQuoted_any (s : ByteArray) (a : Nat) (ha : a < s.size) (hs : s.size ≤ 100000) (w : World) :
    Calls Tryz.prog 135 #[.string s, .int .i64 (a : Int)] w fun e w' => e = .returned (.int .i64 (qlen (endQ (s.data.toList.drop (a + 1))) : Int)) ∧ w = w' := by
  have hls := list_size s
  obtain ⟨l, hl⟩ : ∃ l, s.data.toList = l := ⟨_, rfl⟩
  rw [hl] at hls ⊢
  have HLS := Lib.hid hls
  have hsi : (s.size : Int) ≤ 100000 := by omega
  have HE0 := Lib.hid (show QeSt l a (a + 1) from ⟨by
    rw [Nat.sub_self]
    cases endQ (l.drop (a + 1)) <;> rfl, Nat.le_refl _⟩)
  have HGT := Lib.hid (fun (k : Nat) (hk : k < s.size) (hk2 : k < l.length) => rget s l hl k hk hk2)
  clear hl hls
  go_enter Tryz.func135, Tryz.ntmps135
  go_wp2_with fail
  go_loop [5] (fun v => ∃ n : Nat, v = .int .i64 n ∧ n ≤ s.size + 1 ∧ QeSt l a n) (fun v => s.size + 1 - (intOf v).toNat)
  case atStart => exact ⟨a + 1, by go_num, by omega, HE0.out⟩
  case round =>
    obtain ⟨n, rfl, hn, hst⟩ := hrel
    have HST := Lib.hid hst
    clear hst
    by_cases hlt : n < s.size
    · have hni : (n : Int) < (s.size : Int) := by omega
      have hnl : n < l.length := by have := HLS.out; omega
      have hg := HGT.out n hlt hnl
      obtain ⟨c, hc⟩ : ∃ c, l[n] = c := ⟨_, rfl⟩
      rw [hc] at hg
      have HC := Lib.hid hc
      have hai : (a : Int) ≤ (n : Int) := by have := HST.out.le; omega
      clear hc
      by_cases h92 : c = 92
      · subst h92
        have HN := Lib.hid (qe_esc l a n HST.out hnl HC.out)
        go_wp2_with fail
        go_round
        case rel => exact ⟨n + 2, by go_num, by omega, HN.out⟩
        case measure => simp [intOf]; omega
      · have b92 : ((c.toNat : Int) == 92) = false := rbyte_ne c 92 h92
        by_cases h34 : c = 34
        · subst h34
          have HR := Lib.hid (qe_quo l a n HST.out hnl HC.out)
          go_wp2_with fail
          go_ret
          exact ⟨ret_int HR.out, rfl⟩
        · have b34 : ((c.toNat : Int) == 34) = false := rbyte_ne c 34 h34
          have HN := Lib.hid (qe_one l a n HST.out hnl (by rw [HC.out]; exact h92) (by rw [HC.out]; exact h34))
          clear h92 h34
          go_wp2_with fail
          go_round
          case rel => exact ⟨n + 1, by go_num, by omega, HN.out⟩
          case measure => simp [intOf]; omega
    · have hni : ¬ (n : Int) < (s.size : Int) := by omega
      have HR := Lib.hid (qe_end l a n HST.out (by have := HLS.out; omega))
      go_wp2_with fail
      go_ret
      exact ⟨by rw [HR.out]; rfl, rfl⟩
end Go.Proofs.YtlmmfhbdebfgkaaGreatDoor.Lx
