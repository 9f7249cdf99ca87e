/-
  Several texts in one: LxRBlank, LxRQuo, LxRSaid, LxRSaidW, LxRDig, LxRDigW.
-/
import Derived.Test.YtabbdkdpmpjchaaGreatDoorZTzB
import Derived.Test.YtabbdkdpmpjchaaGreatDoorZTzL
import Derived.Test.YtabbdkdpmpjchaaGreatDoorZTzF
import Derived.Test.YtabbdkdpmpjchaaGreatDoorZLxDig
import GoSem.Claims
namespace Go.Proofs.YtabbdkdpmpjchaaGreatDoor.Lx
open Go.RowKit
open Va
theorem rbyte_ne (c d : UInt8) (h : c ≠ d) : ((c.toNat : Int) == (d.toNat : Int)) = false := by
  rw [beq_eq_false_iff_ne]
  intro e
  exact h (UInt8.toNat_inj.1 (by omega))
theorem rdrop_cons (l : List UInt8) (n : Nat) (h : n < l.length) : l.drop n = l[n] :: l.drop (n + 1) := List.drop_eq_getElem_cons h
theorem rget (s : ByteArray) (l : List UInt8) (h : s.data.toList = l) (k : Nat) (hk : k < s.size) (hl : k < l.length) : s[k] = l[k] := by
  have := getElem_list s k hk
  rw [← this, h]
  simp [List.getD, hl]
theorem ret_int {k : IntKind} {a b : Int} (h : a = b) : Ending.returned (.int k a) = .returned (.int k b) := by rw [h]
structure BlSt (l : List UInt8) (a : Nat) (c : Bool) (n : Nat) : Prop where
  eq : blk false (l.drop a) = (n - a) + blk c (l.drop n)
  le : a ≤ n
theorem bl_white (l : List UInt8) (a n : Nat) (h : BlSt l a false n) (hn : n < l.length) (hw : whiteB l[n] = true) : BlSt l a false (n + 1) := by
  have := h.eq
  rw [rdrop_cons l n hn, blk_f, if_pos hw] at this
  have := h.le
  exact ⟨by omega, by omega⟩
theorem bl_open (l : List UInt8) (a n : Nat) (h : BlSt l a false n) (hn : n + 1 < l.length) (h1 : l[n] = 47) (h2 : l[n + 1] = 47) : BlSt l a true n := by
  have he := h.eq
  rw [rdrop_cons l n (by omega), blk_f, h1, if_neg (by decide), if_pos ⟨rfl, by rw [rdrop_cons l (n + 1) hn, h2]; rfl⟩] at he
  refine ⟨?_, h.le⟩
  rw [rdrop_cons l n (by omega), h1, blk_t, if_neg (by decide)]
  exact he
theorem bl_in (l : List UInt8) (a n : Nat) (h : BlSt l a true n) (hn : n < l.length) (hc : l[n] ≠ 10) : BlSt l a true (n + 1) := by
  have he := h.eq
  rw [rdrop_cons l n hn, blk_t, if_neg hc] at he
  have := h.le
  exact ⟨by omega, by omega⟩
theorem bl_close (l : List UInt8) (a n : Nat) (h : BlSt l a true n) (hc : n = l.length ∨ ∃ hn : n < l.length, l[n] = 10) : BlSt l a false n := by
  have he := h.eq
  refine ⟨?_, h.le⟩
  rcases hc with hc | ⟨hn, hc⟩
  · have hd : l.drop n = [] := List.drop_eq_nil_of_le (by omega)
    rw [he, hd]
    rfl
  · have hd : l.drop n = 10 :: l.drop (n + 1) := by rw [rdrop_cons l n hn, hc]
    rw [he, hd, blk_t, blk_f, if_pos rfl, if_pos (show whiteB 10 = true from rfl)]
theorem bl_end (l : List UInt8) (a n : Nat) (h : BlSt l a false n) (hc : n = l.length ∨ ∃ hn : n < l.length, whiteB l[n] = false ∧ ¬ (l[n] = 47 ∧ l[n + 1]? = some 47)) : ((n : Int) - (a : Int)) = (blk false (l.drop a) : Int) := by
  have he := h.eq
  have hl := h.le
  have h0 : blk false (l.drop n) = 0 := by
    rcases hc with hc | ⟨hn, hw, hc⟩
    · rw [List.drop_eq_nil_of_le (show l.length ≤ n by omega)]; rfl
    · rw [rdrop_cons l n hn, blk_f, if_neg (by rw [hw]; decide), if_neg (by rw [List.head?_drop]; exact hc)]
  omega
set_option linter.unusedSimpArgs false
set_option maxRecDepth 100000 in
set_option maxHeartbeats 3200000 in
theorem refBlanks_any (s : ByteArray) (a : Nat) (ha : a ≤ s.size) (hs : s.size ≤ 100000) (w : World) :
    Calls Tryz.prog 92 #[.string s, .int .i64 (a : Int)] w fun e w' => e = .returned (.int .i64 (blk false (s.data.toList.drop a) : Int)) ∧ w = w' := by
  have hls := list_size s
  obtain ⟨l, hl⟩ : ∃ l, s.data.toList = l := ⟨_, rfl⟩
  rw [hl] at hls ⊢
  have HLS := Lib.hid hls
  have HL := Lib.hid hl
  have hsi : (s.size : Int) ≤ 100000 := by omega
  have HE0 := Lib.hid (show BlSt l a false a from ⟨by omega, Nat.le_refl _⟩)
  have HGT := Lib.hid (fun (k : Nat) (hk : k < s.size) (hk2 : k < l.length) => rget s l hl k hk hk2)
  clear hl hls
  go_enter Tryz.func92, Tryz.ntmps92
  go_wp2_with fail
  go_loop [5] (fun v => ∃ n : Nat, v = .int .i64 n ∧ n ≤ s.size ∧ BlSt l a false n) (fun v => s.size - (intOf v).toNat)
  case atStart => exact ⟨a, rfl, ha, HE0.out⟩
  case round =>
    obtain ⟨n, rfl, hn, hst⟩ := hrel
    have HST := Lib.hid hst
    clear hst
    by_cases hlt : n < s.size
    · have hni : (n : Int) < (s.size : Int) := by omega
      have hnl : n < l.length := by have := HLS.out; omega
      have hg := HGT.out n hlt hnl
      obtain ⟨c, hc⟩ : ∃ c, l[n] = c := ⟨_, rfl⟩
      rw [hc] at hg
      have HC := Lib.hid hc
      clear hc
      by_cases hw : whiteB c = true
      · have HN := Lib.hid (bl_white l a n HST.out hnl (by rw [HC.out]; exact hw))
        have hcs : c = 9 ∨ c = 10 ∨ c = 13 ∨ c = 32 := by
          unfold whiteB at hw
          simpa [or_assoc] using hw
        clear hw
        rcases hcs with rfl | rfl | rfl | rfl
        all_goals
          go_wp2_with fail
          go_round
          case rel => exact ⟨n + 1, by go_num, by omega, HN.out⟩
          case measure => simp [intOf]; omega
      · have hwf : whiteB c = false := by simpa using hw
        have h9 : ((c.toNat : Int) == 9) = false := rbyte_ne c 9 (by rintro rfl; exact hw rfl)
        have h10 : ((c.toNat : Int) == 10) = false := rbyte_ne c 10 (by rintro rfl; exact hw rfl)
        have h13 : ((c.toNat : Int) == 13) = false := rbyte_ne c 13 (by rintro rfl; exact hw rfl)
        have h32 : ((c.toNat : Int) == 32) = false := rbyte_ne c 32 (by rintro rfl; exact hw rfl)
        clear hw
        by_cases hn1 : n + 1 < s.size
        · have hn1i : (n : Int) + 1 < (s.size : Int) := by omega
          have hn2i : (n : Int) + 2 ≤ (s.size : Int) := by omega
          have hex : s.extract n (n + 2) = S [c, l[n + 1]'(by have := HLS.out; omega)] := by
            rw [S_extract, HL.out, rdrop_cons l n hnl, rdrop_cons l (n + 1) (by have := HLS.out; omega), HC.out, show n + 2 - n = 2 by omega]
            rfl
          obtain ⟨d, hd⟩ : ∃ d, l[n + 1]'(by have := HLS.out; omega) = d := ⟨_, rfl⟩
          rw [hd] at hex
          have HD := Lib.hid hd
          clear hd
          by_cases hcm : c = 47 ∧ d = 47
          · have HO := Lib.hid (bl_open l a n HST.out (by have := HLS.out; omega) (by rw [HC.out]; exact hcm.1) (by rw [HD.out]; exact hcm.2))
            obtain ⟨rfl, rfl⟩ := hcm
            have heq : ((s.extract n (n + 2)).toList == ([47, 47] : List UInt8)) = true := by rw [hex, ByteArray.toList_eq, S_toList]; rfl
            clear hex
            go_wp2_with fail
            go_loop [5] (fun v => ∃ m : Nat, v = .int .i64 m ∧ n ≤ m ∧ m ≤ s.size ∧ BlSt l a true m) (fun v => s.size - (intOf v).toNat)
            case atStart => exact ⟨n, rfl, Nat.le_refl _, hn, HO.out⟩
            case round =>
              obtain ⟨m, rfl, hm1, hm2, hsm⟩ := hrel
              have HSM := Lib.hid hsm
              clear hsm
              by_cases hlt2 : m < s.size
              · have hmi : (m : Int) < (s.size : Int) := by omega
                have hml : m < l.length := by have := HLS.out; omega
                have hg2 := HGT.out m hlt2 hml
                obtain ⟨c2, hc2⟩ : ∃ c2, l[m] = c2 := ⟨_, rfl⟩
                rw [hc2] at hg2
                have HC2 := Lib.hid hc2
                clear hc2
                by_cases h10c : c2 = 10
                · subst h10c
                  have HN := Lib.hid (bl_close l a m HSM.out (.inr ⟨hml, HC2.out⟩))
                  have hmn : m ≠ n := by
                    rintro rfl
                    have := HC.out.symm.trans HC2.out
                    exact absurd this (by decide)
                  go_wp2_with fail
                  go_round
                  case rel => exact ⟨m, rfl, by omega, HN.out⟩
                  case measure => simp [intOf]; omega
                · have h10b : ((c2.toNat : Int) == 10) = false := rbyte_ne c2 10 h10c
                  have h10n : ((c2.toNat : Int) != 10) = true := by simp only [bne, h10b, Bool.not_false]
                  have HN := Lib.hid (bl_in l a m HSM.out hml (by rw [HC2.out]; exact h10c))
                  clear h10c
                  go_wp2_with fail
                  go_round
                  case rel => exact ⟨m + 1, by go_num, by omega, by omega, HN.out⟩
                  case measure => simp [intOf]; omega
              · obtain rfl : m = s.size := by omega
                have HN := Lib.hid (bl_close l a s.size HSM.out (.inl (by have := HLS.out; omega)))
                go_wp2_with fail
                go_round
                case rel => exact ⟨s.size, rfl, by omega, HN.out⟩
                case measure => simp [intOf]; omega
          · have HR := Lib.hid (bl_end l a n HST.out (.inr ⟨hnl, by rw [HC.out]; exact hwf, by
              rw [HC.out, List.getElem?_eq_getElem (show n + 1 < l.length by have := HLS.out; omega), HD.out]
              simpa using hcm⟩))
            have heq : ((s.extract n (n + 2)).toList == ([47, 47] : List UInt8)) = false := by
              rw [hex, ByteArray.toList_eq, S_toList, beq_eq_false_iff_ne]
              intro e
              exact hcm ⟨(List.cons.inj e).1, (List.cons.inj (List.cons.inj e).2).1⟩
            have hai : (a : Int) ≤ (n : Int) := by have := HST.out.le; omega
            clear hex hcm
            go_wp2_with fail
            go_ret
            exact ⟨ret_int HR.out, rfl⟩
        · have hn1i : ¬ (n : Int) + 1 < (s.size : Int) := by omega
          have HR := Lib.hid (bl_end l a n HST.out (.inr ⟨hnl, by rw [HC.out]; exact hwf, by
            rw [List.getElem?_eq_none (show l.length ≤ n + 1 by have := HLS.out; omega)]
            simp⟩))
          have hai : (a : Int) ≤ (n : Int) := by have := HST.out.le; omega
          go_wp2_with fail
          go_ret
          exact ⟨ret_int HR.out, rfl⟩
    · obtain rfl : n = s.size := by omega
      have HR := Lib.hid (bl_end l a s.size HST.out (.inl (by have := HLS.out; omega)))
      have hai : (a : Int) ≤ (s.size : Int) := by omega
      go_wp2_with fail
      go_ret
      exact ⟨ret_int HR.out, rfl⟩
end Go.Proofs.YtabbdkdpmpjchaaGreatDoor.Lx

namespace Go.Proofs.YtabbdkdpmpjchaaGreatDoor.Lx
open Go.RowKit
open Va
def endQ : List UInt8 → Option Nat
  | [] => none
  | [c] => if c = 92 then none else if c = 34 then some 1 else none
  | c :: d :: r => if c = 92 then (endQ r).map (· + 2) else if c = 34 then some 1 else (endQ (d :: r)).map (· + 1)
theorem endQ_esc (d : UInt8) (r : List UInt8) : endQ (92 :: d :: r) = (endQ r).map (· + 2) := by simp [endQ]
theorem endQ_quo (r : List UInt8) : endQ (34 :: r) = some 1 := by cases r <;> simp [endQ]
theorem endQ_one (c : UInt8) (r : List UInt8) (h1 : c ≠ 92) (h2 : c ≠ 34) : endQ (c :: r) = (endQ r).map (· + 1) := by
  cases r with
  | nil => simp [endQ, h1, h2]
  | cons d r => simp [endQ, h1, h2]
theorem endQ_esc1 (c : UInt8) (q : List UInt8) : endQ (esc c ++ q) = (endQ q).map (· + (esc c).length) := by
  unfold esc
  by_cases h1 : (c < 32 || 126 < c) = true
  · rw [if_pos h1]
    have hh : ∀ n, n < 16 → hexC n ≠ 92 ∧ hexC n ≠ 34 := by decide
    obtain ⟨a1, a2⟩ := hh (c.toNat / 16) (by have := c.toNat_lt; omega)
    obtain ⟨b1, b2⟩ := hh (c.toNat % 16) (by omega)
    show endQ (92 :: 120 :: hexC (c.toNat / 16) :: hexC (c.toNat % 16) :: q) = _
    rw [endQ_esc, endQ_one _ _ a1 a2, endQ_one _ _ b1 b2]
    cases endQ q <;> simp
  · rw [if_neg h1]
    by_cases h2 : (c == 34 || c == 92) = true
    · rw [if_pos h2]
      show endQ (92 :: c :: q) = _
      rw [endQ_esc]
      rfl
    · rw [if_neg h2]
      simp only [Bool.or_eq_true, beq_iff_eq, not_or] at h2
      show endQ (c :: q) = _
      rw [endQ_one _ _ h2.2 h2.1]
      rfl
theorem endQ_text (t q : List UInt8) : endQ (escT t ++ 34 :: q) = some ((escT t).length + 1) := by
  induction t with
  | nil => exact endQ_quo q
  | cons c t ih =>
    rw [escT_cons, List.append_assoc, endQ_esc1, ih]
    simp; omega
structure QeSt (l : List UInt8) (a i : Nat) : Prop where
  eq : endQ (l.drop (a + 1)) = (endQ (l.drop i)).map (· + (i - (a + 1)))
  le : a + 1 ≤ i
theorem qe_esc (l : List UInt8) (a i : Nat) (h : QeSt l a i) (hi : i < l.length) (hc : l[i] = 92) : QeSt l a (i + 2) := by
  have he := h.eq
  have hl := h.le
  refine ⟨?_, by omega⟩
  rw [he]
  by_cases h1 : i + 1 < l.length
  · rw [rdrop_cons l i hi, rdrop_cons l (i + 1) h1, hc, endQ_esc]
    cases endQ (l.drop (i + 1 + 1)) with
    | none => rfl
    | some k => simp; omega
  · have hd : l.drop i = [92] := by rw [rdrop_cons l i hi, hc, List.drop_eq_nil_of_le (by omega)]
    rw [hd, List.drop_eq_nil_of_le (show l.length ≤ i + 2 by omega)]
    rfl
theorem qe_one (l : List UInt8) (a i : Nat) (h : QeSt l a i) (hi : i < l.length) (h1 : l[i] ≠ 92) (h2 : l[i] ≠ 34) : QeSt l a (i + 1) := by
  have he := h.eq
  have hl := h.le
  refine ⟨?_, by omega⟩
  rw [he, rdrop_cons l i hi, endQ_one _ _ h1 h2]
  cases endQ (l.drop (i + 1)) with
  | none => rfl
  | some k => simp; omega
def qlen (o : Option Nat) : Nat := match o with
  | some k => k + 1
  | none => 0
theorem qe_quo (l : List UInt8) (a i : Nat) (h : QeSt l a i) (hi : i < l.length) (hc : l[i] = 34) : ((i : Int) + 1 - (a : Int)) = (qlen (endQ (l.drop (a + 1))) : Int) := by
  have hl := h.le
  rw [h.eq, rdrop_cons l i hi, hc, endQ_quo]
  show _ = (((1 + (i - (a + 1))) + 1 : Nat) : Int)
  omega
theorem qe_end (l : List UInt8) (a i : Nat) (h : QeSt l a i) (hi : l.length ≤ i) : qlen (endQ (l.drop (a + 1))) = 0 := by
  rw [h.eq, List.drop_eq_nil_of_le hi]
  rfl
set_option linter.unusedSimpArgs false
set_option maxRecDepth 100000 in
set_option maxHeartbeats 3200000 in
theorem refQuoted_any (s : ByteArray) (a : Nat) (ha : a < s.size) (hs : s.size ≤ 100000) (w : World) :
    Calls Tryz.prog 139 #[.string s, .int .i64 (a : Int)] w fun e w' => e = .returned (.int .i64 (qlen (endQ (s.data.toList.drop (a + 1))) : Int)) ∧ w = w' := by
  have hls := list_size s
  obtain ⟨l, hl⟩ : ∃ l, s.data.toList = l := ⟨_, rfl⟩
  rw [hl] at hls ⊢
  have HLS := Lib.hid hls
  have hsi : (s.size : Int) ≤ 100000 := by omega
  have HE0 := Lib.hid (show QeSt l a (a + 1) from ⟨by
    rw [Nat.sub_self]
    cases endQ (l.drop (a + 1)) <;> rfl, Nat.le_refl _⟩)
  have HGT := Lib.hid (fun (k : Nat) (hk : k < s.size) (hk2 : k < l.length) => rget s l hl k hk hk2)
  clear hl hls
  go_enter Tryz.func139, Tryz.ntmps139
  go_wp2_with fail
  go_loop [5] (fun v => ∃ n : Nat, v = .int .i64 n ∧ n ≤ s.size + 1 ∧ QeSt l a n) (fun v => s.size + 1 - (intOf v).toNat)
  case atStart => exact ⟨a + 1, by go_num, by omega, HE0.out⟩
  case round =>
    obtain ⟨n, rfl, hn, hst⟩ := hrel
    have HST := Lib.hid hst
    clear hst
    by_cases hlt : n < s.size
    · have hni : (n : Int) < (s.size : Int) := by omega
      have hnl : n < l.length := by have := HLS.out; omega
      have hg := HGT.out n hlt hnl
      obtain ⟨c, hc⟩ : ∃ c, l[n] = c := ⟨_, rfl⟩
      rw [hc] at hg
      have HC := Lib.hid hc
      have hai : (a : Int) ≤ (n : Int) := by have := HST.out.le; omega
      clear hc
      by_cases h92 : c = 92
      · subst h92
        have HN := Lib.hid (qe_esc l a n HST.out hnl HC.out)
        go_wp2_with fail
        go_round
        case rel => exact ⟨n + 2, by go_num, by omega, HN.out⟩
        case measure => simp [intOf]; omega
      · have b92 : ((c.toNat : Int) == 92) = false := rbyte_ne c 92 h92
        by_cases h34 : c = 34
        · subst h34
          have HR := Lib.hid (qe_quo l a n HST.out hnl HC.out)
          go_wp2_with fail
          go_ret
          exact ⟨ret_int HR.out, rfl⟩
        · have b34 : ((c.toNat : Int) == 34) = false := rbyte_ne c 34 h34
          have HN := Lib.hid (qe_one l a n HST.out hnl (by rw [HC.out]; exact h92) (by rw [HC.out]; exact h34))
          clear h92 h34
          go_wp2_with fail
          go_round
          case rel => exact ⟨n + 1, by go_num, by omega, HN.out⟩
          case measure => simp [intOf]; omega
    · have hni : ¬ (n : Int) < (s.size : Int) := by omega
      have HR := Lib.hid (qe_end l a n HST.out (by have := HLS.out; omega))
      go_wp2_with fail
      go_ret
      exact ⟨by rw [HR.out]; rfl, rfl⟩
end Go.Proofs.YtabbdkdpmpjchaaGreatDoor.Lx

namespace Go.Proofs.YtabbdkdpmpjchaaGreatDoor.Lx
open Go.RowKit
open Va
theorem esc_pre (c d : UInt8) (x y : List UInt8) (h : esc c ++ x = esc d ++ y) : c = d ∧ x = y := by
  have h1 := unescM_esc c x
  rw [h, unescM_esc] at h1
  have h2 : d = c := congrArg Prod.fst h1
  subst h2
  exact ⟨rfl, List.append_cancel_left h⟩
theorem escT_split : ∀ (t0 t x : List UInt8), escT t0 ++ x = escT t → ∃ t1, t = t0 ++ t1 ∧ x = escT t1
  | [], t, x, h => ⟨t, rfl, h⟩
  | c :: t0, [], x, h => by
    rw [escT_cons] at h
    have := esc_ne c
    simp [escT] at h
    exact absurd h.1 this
  | c :: t0, d :: t, x, h => by
    rw [escT_cons, escT_cons, List.append_assoc] at h
    obtain ⟨rfl, h2⟩ := esc_pre c d _ _ h
    obtain ⟨t1, h3, h4⟩ := escT_split t0 t x h2
    exact ⟨t1, by rw [h3]; rfl, h4⟩
structure SaSt (m t0 : List UInt8) (p : Nat) : Prop where
  eq : m = escT t0 ++ m.drop p
  le : p ≤ m.length
theorem sa_zero (m : List UInt8) : SaSt m [] 0 := ⟨rfl, Nat.zero_le _⟩
theorem sa_hit (m t0 : List UInt8) (p : Nat) (h : SaSt m t0 p) (c : UInt8) (hp : esc c <+: m.drop p) : SaSt m (t0 ++ [c]) (p + (esc c).length) := by
  obtain ⟨r, hr⟩ := hp
  have hd : m.drop (p + (esc c).length) = r := by rw [← List.drop_drop, ← hr, List.drop_left]
  have hl := congrArg List.length hr
  rw [List.length_append, List.length_drop] at hl
  have hle := h.le
  have h1 := esc_len1 c
  refine ⟨?_, by omega⟩
  rw [hd, escT_append, List.append_assoc]
  conv => lhs; rw [h.eq, ← hr]
  simp [escT]
theorem sa_no (m t0 : List UInt8) (p : Nat) (h : SaSt m t0 p) (hlt : p < m.length) (hn : ∀ c : UInt8, ¬ esc c <+: m.drop p) (t : List UInt8) : m ≠ escT t := by
  intro e
  have he := h.eq
  rw [e] at he
  obtain ⟨t1, h1, h2⟩ := escT_split t0 t _ (by rw [← e] at he ⊢; exact he.symm)
  cases t1 with
  | nil =>
    have := congrArg List.length h2
    rw [List.length_drop] at this
    simp [escT] at this
    omega
  | cons c t1 => exact hn c ⟨escT t1, by rw [h2, escT_cons]⟩
theorem sa_end (m t0 : List UInt8) (p : Nat) (h : SaSt m t0 p) (hp : p = m.length) : m = escT t0 := by
  have := h.eq
  rw [hp, List.drop_length, List.append_nil] at this
  exact this
theorem esc_len4 (c : UInt8) : (esc c).length ≤ 4 := by
  unfold esc
  split
  · simp
  · split <;> simp
theorem sa_len (m t0 : List UInt8) (p : Nat) (h : SaSt m t0 p) : t0.length ≤ m.length := by
  have h1 := escT_ge t0
  have h2 := congrArg List.length h.eq
  rw [List.length_append] at h2
  omega
def saidR (m : List UInt8) (e : Ending) : Prop := (∃ t, m = escT t ∧ e = .returned (.tuple #[.string (S t), .bool (decide (t.length ≤ 64))])) ∨ ((∀ t, m ≠ escT t) ∧ e = .returned (.tuple #[.string ⟨#[]⟩, .bool false]))
theorem conv_nil8 (w : World) : (convert 71 9 (.slice none 0 0)).run Tryz.prog w = .ok (.string ⟨#[]⟩) w := by kernel_rfl
theorem buf_string {B : Nat} {W0 w : World} {v : Value} {t : List UInt8} (h : Buf B W0 w v t) : (convert 71 9 v).run Tryz.prog w = .ok (.string (S t)) w ∧ ∃ a c, v = .slice a t.length c := by
  rcases h.own.2 with ⟨rfl, h0⟩ | ⟨g, cap, cur, rfl, _⟩
  · have : t = [] := List.length_eq_zero_iff.1 h0
    subst this
    exact ⟨conv_nil8 w, none, 0, rfl⟩
  · exact ⟨(Row8.of_owns h.own).back (P := Tryz.prog) 71 9 5 cap Tryz.underlying71 Tryz.underlying5 Tryz.underlying9 t.length rfl, _, _, rfl⟩
theorem wpList_appR {P : Program} {ops : Array Oper} {rest : List Oper} {o : Oper} {a : Act} {w : World} {Q : Exit → Act → World → Prop} (hgd : o.guard = none) (s x : Operand) (t u : TypeId)
    (ho : o.op = .call { callee := .builtin .append, args := #[s, x], argTypes := #[t, u] }) {v vx : Value} (hs : a.eval s = v) (hx : a.eval x = vx) (v' : Value) (w' : World)
    (hr : (Builtin.append_ #[t, u] o.type #[v, vx]).run P w = .ok v' w') (h : wpList P ops Q rest (a.put o.dst v') w') : wpList P ops Q (o :: rest) a w := by
  refine wpList_plain hgd fun K hK => ?_
  unfold Oper.wp execOp
  simp only [ho, resolve, invoke, builtin, Sem.run_bind, Sem.run_pure, Result.andThen_ok, List.map_toArray, List.map_cons, List.map_nil, hs, hx, hr]
  exact hK _ _ h
theorem buf_later {B : Nat} {W0 w w' : World} {v : Value} {l : List UInt8} (h : Buf B W0 w v l) (hb : Below w.heap.size w w') : Buf B W0 w' v l :=
  ⟨World.ownsRow.kept (row := none) h.own ⟨hb.os, hb.tape, hb.output, hb.size, fun k hk _ => hb.block k hk⟩ (Classical.em _), h.below.trans (hb.mono h.hi), Nat.le_trans h.hi hb.size⟩
theorem app_one (B : Nat) (W0 w : World) (v : Value) (t : List UInt8) (h : Buf B W0 w v t) (ht : t.length ≤ 100000) (c : UInt8) (H : Nat) (hH : w.heap.size = H) :
    ∃ v' w', (Builtin.append_ #[71, 71] 71 #[v, .slice (some ⟨H, 0, none⟩) 1 1]).run Tryz.prog (w.alloc (.cells #[.int .u8 (c.toNat : Int)] 5)) = .ok v' w' ∧ Buf B W0 w' v' (t ++ [c]) := by
  obtain ⟨i0, hi, hz0, hz1, hz2⟩ := info_parts info8
  obtain ⟨v', w', hr, h2, h3, _⟩ := run_append_own (P := Tryz.prog) (w.alloc (.cells #[.int .u8 (c.toNat : Int)] 5)) B 71 71 5 i0 _ 1 1 Tryz.underlying71 hi hz0 hz1 hz2 rfl (by decide) v t.length (u8C t) (h.own.alloc _) ⟨H, 0, none⟩ 1 1 [.int .u8 (c.toNat : Int)] rfl (news_one w _ _ H hH) (one_int _) (by unfold maxLen; omega) (by omega) (by have := h.hi; simp; omega)
  exact ⟨v', w', hr, h.step rfl h2 h3⟩
inductive SaIn (m t0 : List UInt8) (P : Nat) (w wr : World) (vb va vf : Value) (c : Nat) : Prop where
  | no : vf = .bool false → va = .int .i64 (P : Int) → Buf w.heap.size w wr vb t0 → (∀ d : UInt8, d.toNat < c → ¬ esc d <+: m.drop (P - 1)) → SaIn m t0 P w wr vb va vf c
  | yes (t1 : List UInt8) (Q : Nat) : vf = .bool true → va = .int .i64 (Q : Int) → P < Q → SaSt m t1 (Q - 1) → Buf w.heap.size w wr vb t1 → SaIn m t0 P w wr vb va vf c
def SaRel (m t0 : List UInt8) (P : Nat) (w : World) (vb va vf vc : Value) (wr : World) : Prop := ∃ (c : Nat) (xb : Value), xb = vb ∧ vc = .int .i64 c ∧ c ≤ 256 ∧ SaIn m t0 P w wr xb va vf c
end Go.Proofs.YtabbdkdpmpjchaaGreatDoor.Lx

namespace Go.Proofs.YtabbdkdpmpjchaaGreatDoor.Lx
open Go.RowKit
open Va
set_option linter.unusedSimpArgs false
set_option maxRecDepth 100000 in
set_option maxHeartbeats 3200000 in
theorem refSaid_any (s : ByteArray) (m : List UInt8) (hm : s.data.toList = 34 :: (m ++ [34])) (hs : s.size ≤ 100000) (w : World) :
    Calls Tryz.prog 140 #[.string s] w fun e w' => saidR m e ∧ Below w.heap.size w w' := by
  have hls := list_size s
  rw [hm] at hls
  have hsz : s.size = m.length + 2 := by simpa using hls.symm
  have hsi : (s.size : Int) = (m.length : Int) + 2 := by omega
  have hml : (m.length : Int) ≤ 100000 := by omega
  have HEX := Lib.hid (fun (P k : Nat) (hP : 1 ≤ P) (hk : P + k ≤ m.length + 1) => show s.extract P (P + k) = S ((m.drop (P - 1)).take k) from by
    obtain ⟨q, rfl⟩ : ∃ q, P = q + 1 := ⟨P - 1, by omega⟩
    rw [S_extract, hm, List.drop_succ_cons, Nat.add_sub_cancel_left, Nat.add_sub_cancel, List.drop_append_of_le_length (by omega), List.take_append_of_le_length (by rw [List.length_drop]; omega)])
  have HPR := Lib.hid (fun (c : UInt8) (wr : World) => show Calls Tryz.prog 71 #[.agg #[.int .i64 3, .int .i64 0, .string (S [c]), .slice none 0 0]] wr fun e w' => e = .returned (.string (S (34 :: (esc c ++ [34])))) ∧ Below wr.heap.size wr w' from by
    have := refPrint_text 0 [c] [] (by simp) none 0 wr
    rw [show escT [c] = esc c by simp [escT]] at this
    exact this)
  have HST0 := Lib.hid (sa_zero m)
  have HB0 := Lib.hid (show Buf w.heap.size w w (.slice none 0 0) [] from ⟨World.ownsRow_nil _ _ _ _, Below.refl _ _, Nat.le_refl _⟩)
  have HSZ := Lib.hid hsz
  clear hls hsz hm
  go_enter Tryz.func140, Tryz.ntmps140
  go_wp2_with fail
  go_loopw [4, 5] (fun vb va wr => ∃ (P : Nat) (t0 : List UInt8) (ub : Value), ub = vb ∧ va = .int .i64 P ∧ 1 ≤ P ∧ P ≤ m.length + 1 ∧ SaSt m t0 (P - 1) ∧ Buf w.heap.size w wr ub t0) (fun _ va _ => m.length + 2 - (intOf va).toNat)
  case atStart => exact ⟨1, [], _, rfl, rfl, by omega, by omega, HST0.out, HB0.out⟩
  case round =>
    obtain ⟨P, t0, ub, rfl, rfl, hP1, hP2, hst, hb⟩ := hrel
    have HST := Lib.hid hst
    have HB := Lib.hid hb
    clear hst hb
    by_cases hlt : P < m.length + 1
    · have hPi : (P : Int) < (m.length : Int) + 2 - 1 := by omega
      have hPd : decide ((P : Int) < (m.length : Int) + 2 - 1) = true := by simpa using hPi
      obtain ⟨wo, hwo⟩ : ∃ wo : World, wo = wr := ⟨_, rfl⟩
      subst hwo
      go_wp2_with fail
      go_loopw [4, 5, 6, 7] (fun vb va vf vc wr => SaRel m t0 P w vb va vf vc wr) (fun _ _ _ vc _ => 256 - (intOf vc).toNat)
      case atStart => exact ⟨0, _, rfl, rfl, by omega, .no rfl rfl HB.out (fun d hd => absurd hd (by omega))⟩
      case round =>
        obtain ⟨c, xb, rfl, rfl, hc, hin⟩ := hrel
        have hci0 : (c : Int) ≤ 256 := by omega
        rcases hin with ⟨rfl, rfl, hbf, hno⟩ | ⟨t1, Q, rfl, rfl, hPQ, hst1, hb1⟩
        · have HBF := Lib.hid hbf
          have HNO := Lib.hid hno
          clear hbf hno
          by_cases hc6 : c < 256
          · obtain ⟨cb, rfl⟩ : ∃ cb : UInt8, cb.toNat = c := ⟨UInt8.ofNat c, UInt8.toNat_ofNat_of_lt' (by simpa using hc6)⟩
            have hc256 : ((cb.toNat : Nat) : Int) < 256 := by omega
            have hc0 : (0 : Int) ≤ ((cb.toNat : Nat) : Int) := by omega
            have hconv := byte_string wr cb _ rfl
            have HP := Lib.hid (HPR.out cb)
            obtain ⟨PS, hPS⟩ : ∃ PS, PS = S (34 :: (esc cb ++ [34])) := ⟨_, rfl⟩
            obtain ⟨E, hE⟩ : ∃ E, E = S (esc cb) := ⟨_, rfl⟩
            have hPz : PS.size = (esc cb).length + 2 := by rw [hPS, S_size]; simp
            have hEz : E.size = (esc cb).length := by rw [hE, S_size]
            have hk1 := esc_len1 cb
            have hk4 := esc_len4 cb
            have hex1 : PS.extract 1 (PS.size - 1) = E := by
              rw [hPz, hPS, hE, S_extract, S_toList, show (esc cb).length + 2 - 1 - 1 = (esc cb).length by omega, List.drop_succ_cons, List.drop_zero, List.take_left]
            have hPi2 : (2 : Int) ≤ (PS.size : Int) := by omega
            have hPi6 : (PS.size : Int) ≤ 10 := by omega
            have hEi1 : (1 : Int) ≤ (E.size : Int) := by omega
            have hEi4 : (E.size : Int) ≤ 4 := by omega
            rw [← hPS] at HP
            have HEZ := Lib.hid hEz
            by_cases hA : P + E.size ≤ m.length + 1
            · have hAi : (P : Int) + (E.size : Int) ≤ (m.length : Int) + 1 := by omega
              have hexs := HEX.out P E.size hP1 hA
              by_cases hH : (m.drop (P - 1)).take E.size = esc cb
              · have heq : ((s.extract P (P + E.size)).toList == E.toList) = true := by rw [hexs, hH, hE]; simp
                have hpre : esc cb <+: m.drop (P - 1) := by rw [← hH]; exact List.take_prefix _ _
                have HS1 := Lib.hid (show SaSt m (t0 ++ [cb]) (P + E.size - 1) from by
                  have := sa_hit m t0 _ HST.out cb hpre
                  rw [show P + E.size - 1 = P - 1 + (esc cb).length by omega]; exact this)
                have htl := sa_len m t0 _ HST.out
                clear hPS hE hPz hEz hk1 hk4 hexs hH hpre hA
                go_wp2_with fail
                refine (HP.out _).mono ?_
                rintro e w2 ⟨rfl, b2⟩
                have hb2 := buf_later HBF.out (((Below.refl wr.heap.size wr).alloc (Nat.le_refl _) (.cells #[.int .u8 ((cb.toNat : Nat) : Int)] 5)).trans (b2.mono (by simp)))
                obtain ⟨v4, w4, hr4, hb4⟩ := app_one w.heap.size w w2 xb t0 hb2 (by omega) cb w2.heap.size rfl
                have HRUN := Lib.hid hr4
                have HB4 := Lib.hid hb4
                clear b2 hb2 hr4 hb4
                go_wp2_with (at_builtin; refine wpList_appR rfl _ _ _ _ rfl rfl rfl _ _ HRUN.out ?_)
                go_roundw
                case rel => exact ⟨cb.toNat + 1, _, rfl, by go_num, by omega, .yes (t0 ++ [cb]) (P + E.size) rfl (by go_num) (by omega) HS1.out HB4.out⟩
                case measure => simp [intOf]; omega
              · have heq : ((s.extract P (P + E.size)).toList == E.toList) = false := by
                  rw [beq_eq_false_iff_ne, hexs, hE, ByteArray.toList_eq, ByteArray.toList_eq, S_toList, S_toList, S_size]
                  rw [hEz] at hH
                  exact hH
                have HN := Lib.hid (show ∀ d : UInt8, d.toNat < cb.toNat + 1 → ¬ esc d <+: m.drop (P - 1) from fun d hd => by
                  by_cases e : d = cb
                  · subst e
                    intro hp
                    exact hH (by rw [HEZ.out]; exact (List.prefix_iff_eq_take.1 hp).symm)
                  · exact HNO.out d (by have : d.toNat ≠ cb.toNat := fun h => e (UInt8.toNat_inj.1 h); omega))
                clear hPS hE hPz hEz hk1 hk4 hexs hH hA
                go_wp2_with fail
                refine (HP.out _).mono ?_
                rintro e w2 ⟨rfl, b2⟩
                have HB2 := Lib.hid (buf_later HBF.out (((Below.refl wr.heap.size wr).alloc (Nat.le_refl _) (.cells #[.int .u8 ((cb.toNat : Nat) : Int)] 5)).trans (b2.mono (by simp))))
                clear b2
                go_wp2_with fail
                go_roundw
                case rel => exact ⟨cb.toNat + 1, _, rfl, by go_num, by omega, .no rfl rfl HB2.out HN.out⟩
                case measure => simp [intOf]; omega
            · have hAi : ¬ (P : Int) + (E.size : Int) ≤ (m.length : Int) + 1 := by omega
              have HN := Lib.hid (show ∀ d : UInt8, d.toNat < cb.toNat + 1 → ¬ esc d <+: m.drop (P - 1) from fun d hd => by
                by_cases e : d = cb
                · subst e
                  intro hp
                  have := hp.length_le
                  rw [List.length_drop] at this
                  have := HEZ.out
                  omega
                · exact HNO.out d (by have : d.toNat ≠ cb.toNat := fun h => e (UInt8.toNat_inj.1 h); omega))
              clear hPS hE hPz hEz hk1 hk4 hA
              go_wp2_with fail
              refine (HP.out _).mono ?_
              rintro e w2 ⟨rfl, b2⟩
              have HB2 := Lib.hid (buf_later HBF.out (((Below.refl wr.heap.size wr).alloc (Nat.le_refl _) (.cells #[.int .u8 ((cb.toNat : Nat) : Int)] 5)).trans (b2.mono (by simp))))
              clear b2
              go_wp2_with fail
              go_roundw
              case rel => exact ⟨cb.toNat + 1, _, rfl, by go_num, by omega, .no rfl rfl HB2.out HN.out⟩
              case measure => simp [intOf]; omega
          · obtain rfl : c = 256 := by omega
            have HR := Lib.hid (sa_no m t0 (P - 1) HST.out (by omega) (fun d => HNO.out d d.toNat_lt))
            go_wp2_with fail
            go_ret2
            exact ⟨.inr ⟨HR.out, rfl⟩, HBF.out.below⟩
        · have HS1 := Lib.hid hst1
          have HB1 := Lib.hid hb1
          have hle := hst1.le
          clear hst1 hb1
          go_wp2_with fail
          all_goals
            go_roundw
            case rel => exact ⟨Q, t1, _, rfl, rfl, by omega, by omega, HS1.out, HB1.out⟩
            case measure => simp [intOf]; omega
    · obtain rfl : P = m.length + 1 := by omega
      have HE := Lib.hid (sa_end m t0 _ HST.out (by omega))
      obtain ⟨hcv, a, cp, rfl⟩ := buf_string HB.out
      have htl := sa_len m t0 _ HST.out
      have htli : (t0.length : Int) ≤ 100000 := by omega
      go_wp2_with fail
      go_ret2
      refine ⟨.inl ⟨t0, HE.out, ?_⟩, HB.out.below⟩
      show Ending.returned (.tuple #[.string (S t0), .bool (decide ((t0.length : Int) ≤ 64))]) = _
      rw [show decide ((t0.length : Int) ≤ 64) = decide (t0.length ≤ 64) from decide_eq_decide.2 (by omega)]
end Go.Proofs.YtabbdkdpmpjchaaGreatDoor.Lx

namespace Go.Proofs.YtabbdkdpmpjchaaGreatDoor.Lx
open Va
theorem undig_dfold (d : List UInt8) : undig d = dfold 0 d := rfl
theorem dfold_acc (d : List UInt8) : ∀ acc, dfold acc d = acc * 10 ^ d.length + dfold 0 d := by
  induction d with
  | nil => intro acc; simp [dfold]
  | cons c d ih =>
    intro acc
    have e : ∀ x B : Nat, (10 * acc + x) * B = acc * (B * 10) + x * B := fun x B => by rw [Nat.add_mul, Nat.mul_comm 10 acc, Nat.mul_assoc, Nat.mul_comm 10 B]
    rw [dfold_cons, dfold_cons, ih, ih (10 * 0 + (c.toNat - 48)), List.length_cons, Nat.pow_succ, e, Nat.mul_zero, Nat.zero_add, Nat.add_assoc]
theorem undig_cons (c : UInt8) (d : List UInt8) : undig (c :: d) = (c.toNat - 48) * 10 ^ d.length + undig d := by
  rw [undig_dfold, dfold_cons, dfold_acc, undig_dfold]
  simp
theorem undig_lt (d : List UInt8) (h : ∀ c ∈ d, digB c = true) : undig d < 10 ^ d.length := by
  induction d with
  | nil => decide
  | cons c d ih =>
    have hc := (digB_iff c).1 (h c (by simp))
    have := ih (fun x hx => h x (by simp [hx]))
    rw [undig_cons, List.length_cons, Nat.pow_succ]
    have h9 : (c.toNat - 48) * 10 ^ d.length ≤ 9 * 10 ^ d.length := Nat.mul_le_mul_right _ (by omega)
    omega
theorem undig_ge (c : UInt8) (d : List UInt8) (h : digB c = true) (h0 : c ≠ 48) : 10 ^ d.length ≤ undig (c :: d) := by
  have hc := (digB_iff c).1 h
  have hn : c.toNat ≠ 48 := fun e => h0 (UInt8.toNat_inj.1 e)
  rw [undig_cons]
  have h1 : 1 * 10 ^ d.length ≤ (c.toNat - 48) * 10 ^ d.length := Nat.mul_le_mul_right _ (by omega)
  omega
theorem less_undig : ∀ (a b : List UInt8), a.length = b.length → (∀ c ∈ a, digB c = true) → (∀ c ∈ b, digB c = true) → Op.bytesLess a b = decide (undig a < undig b)
  | [], [], _, _, _ => by simp [Op.bytesLess]
  | [], _ :: _, h, _, _ => by simp at h
  | _ :: _, [], h, _, _ => by simp at h
  | x :: a, y :: b, h, ha, hb => by
    have hl : a.length = b.length := by simpa using h
    have ih := less_undig a b hl (fun c hc => ha c (by simp [hc])) (fun c hc => hb c (by simp [hc]))
    have hx := (digB_iff x).1 (ha x (by simp))
    have hy := (digB_iff y).1 (hb y (by simp))
    have la := undig_lt a (fun c hc => ha c (by simp [hc]))
    have lb := undig_lt b (fun c hc => hb c (by simp [hc]))
    rw [undig_cons, undig_cons, hl]
    rw [hl] at la
    show (decide (x < y) || (x == y && Op.bytesLess a b)) = _
    rw [ih]
    have e1 : decide (x < y) = decide (x.toNat < y.toNat) := by simp [UInt8.lt_iff_toNat_lt]
    rw [e1]
    generalize 10 ^ b.length = B at *
    generalize undig a = p at *
    generalize undig b = q at *
    rcases Nat.lt_trichotomy x.toNat y.toNat with h1 | h1 | h1
    · have h2 : ((x.toNat - 48) + 1) * B ≤ (y.toNat - 48) * B := Nat.mul_le_mul_right _ (by omega)
      rw [Nat.add_mul, Nat.one_mul] at h2
      rw [decide_eq_true h1, Bool.true_or, eq_comm, decide_eq_true_eq]
      omega
    · obtain rfl : x = y := UInt8.toNat_inj.1 h1
      rw [decide_eq_false (by omega), Bool.false_or, beq_self_eq_true, Bool.true_and]
      exact decide_eq_decide.2 (by omega)
    · have h2 : ((y.toNat - 48) + 1) * B ≤ (x.toNat - 48) * B := Nat.mul_le_mul_right _ (by omega)
      rw [Nat.add_mul, Nat.one_mul] at h2
      have hne : (x == y) = false := by
        rw [beq_eq_false_iff_ne]
        rintro rfl
        omega
      rw [decide_eq_false (by omega), Bool.false_or, hne, Bool.false_and, eq_comm, decide_eq_false_iff_not]
      omega
theorem less_tri : ∀ a b : List UInt8, (!Op.bytesLess a b && !(a == b)) = Op.bytesLess b a
  | [], [] => rfl
  | [], y :: b => rfl
  | x :: a, [] => rfl
  | x :: a, y :: b => by
    have ih := less_tri a b
    show (!(decide (x < y) || (x == y && Op.bytesLess a b)) && !((x == y) && (a == b))) = (decide (y < x) || (y == x && Op.bytesLess b a))
    have e1 : decide (x < y) = decide (x.toNat < y.toNat) := by simp [UInt8.lt_iff_toNat_lt]
    have e2 : decide (y < x) = decide (y.toNat < x.toNat) := by simp [UInt8.lt_iff_toNat_lt]
    rw [e1, e2]
    rcases Nat.lt_trichotomy x.toNat y.toNat with h | h | h
    · have n1 : (x == y) = false := by rw [beq_eq_false_iff_ne]; rintro rfl; omega
      have n2 : (y == x) = false := by rw [beq_eq_false_iff_ne]; rintro rfl; omega
      rw [n1, n2, decide_eq_true h, decide_eq_false (show ¬ y.toNat < x.toNat by omega)]
      rfl
    · obtain rfl : x = y := UInt8.toNat_inj.1 h
      rw [decide_eq_false (show ¬ x.toNat < x.toNat by omega), beq_self_eq_true]
      simpa using ih
    · have n1 : (x == y) = false := by rw [beq_eq_false_iff_ne]; rintro rfl; omega
      have n2 : (y == x) = false := by rw [beq_eq_false_iff_ne]; rintro rfl; omega
      rw [n1, n2, decide_eq_true h, decide_eq_false (show ¬ x.toNat < y.toNat by omega)]
      rfl
def mostD : List UInt8 := [57, 50, 50, 51, 51, 55, 50, 48, 51, 54, 56, 53, 52, 55, 55, 53, 56, 48, 55]
theorem most_val : undig mostD = 9223372036854775807 := by decide
theorem most_dig : ∀ c ∈ mostD, digB c = true := by decide
theorem digsOk_zero (c e : UInt8) (r : List UInt8) (h : c = 48) : digsOk (c :: e :: r) = false := by subst h; rfl
theorem digsOk_long (c : UInt8) (r : List UInt8) (h : ∀ x ∈ c :: r, digB x = true) (h0 : c ≠ 48) (hl : 19 < (c :: r).length) : digsOk (c :: r) = false := by
  have := undig_ge c r (h c (by simp)) h0
  have h2 : 10 ^ 19 ≤ 10 ^ r.length := Nat.pow_le_pow_right (by decide) (by simp at hl; omega)
  have h3 : (10 : Nat) ^ 19 = 10000000000000000000 := by decide
  have : ¬ undig (c :: r) ≤ 9223372036854775807 := by omega
  unfold digsOk
  rw [decide_eq_false this, Bool.and_false]
theorem digsOk_19 (d : List UInt8) (h : ∀ x ∈ d, digB x = true) (h0 : d.head? ≠ some 48) (hl : d.length = 19) : digsOk d = !Op.bytesLess mostD d := by
  rw [less_undig mostD d (by rw [hl]; rfl) most_dig h, most_val]
  unfold digsOk
  have h1 : (d.head? != some 48) = true := by simpa using h0
  rw [h1, Bool.or_true, Bool.true_and, ← decide_not]
  exact decide_eq_decide.2 (by omega)
theorem digsOk_few (d : List UInt8) (h : ∀ x ∈ d, digB x = true) (h0 : d.length = 1 ∨ d.head? ≠ some 48) (hl : d.length < 19) : digsOk d = true := by
  have := undig_lt d h
  have h2 : 10 ^ d.length ≤ 10 ^ 18 := Nat.pow_le_pow_right (by decide) (by omega)
  have h3 : (10 : Nat) ^ 18 = 1000000000000000000 := by decide
  unfold digsOk
  rw [decide_eq_true (show undig d ≤ 9223372036854775807 by omega), Bool.and_true]
  rcases h0 with h0 | h0
  · simp [h0]
  · simp [h0]
theorem undig_take_le (d : List UInt8) (k : Nat) : undig (d.take k) ≤ undig d := by
  have h : undig d = dfold (undig (d.take k)) (d.drop k) := by
    unfold undig dfold
    rw [← List.foldl_append, List.take_append_drop]
  rw [h]
  exact dfold_ge _ _
theorem undig_snoc (d : List UInt8) (k : Nat) (h : k < d.length) : undig (d.take (k + 1)) = 10 * undig (d.take k) + (d[k].toNat - 48) := by
  unfold undig
  rw [List.take_succ_eq_append_getElem h, List.foldl_append]
  rfl
end Go.Proofs.YtabbdkdpmpjchaaGreatDoor.Lx

namespace Go.Proofs.YtabbdkdpmpjchaaGreatDoor.Lx
open Go.RowKit
open Va
def digR2 (d : List UInt8) : Value := if digsOk d = true then .tuple #[.int .i64 (undig d : Int), .bool true] else .tuple #[.int .i64 0, .bool false]
theorem gtr_most (s : ByteArray) (w : World) : (binOp .gtr 9 (.string s) (.string ⟨#[57, 50, 50, 51, 51, 55, 50, 48, 51, 54, 56, 53, 52, 55, 55, 53, 56, 48, 55]⟩)).run Tryz.prog w = .ok (.bool (Op.bytesLess mostD s.toList)) w := by
  simp [binOp, Op.stringOp]
  exact less_tri _ _
set_option linter.unusedSimpArgs false
set_option maxRecDepth 100000 in
set_option maxHeartbeats 3200000 in
theorem refDigits_any (s : ByteArray) (d : List UInt8) (hd : s.data.toList = d) (hne : d ≠ []) (hall : ∀ c ∈ d, digB c = true) (hs : s.size ≤ 100000) (w : World) :
    Calls Tryz.prog 138 #[.string s] w fun e w' => e = .returned (digR2 d) ∧ w = w' := by
  have hls := list_size s
  rw [hd] at hls
  have hpos := List.length_pos_iff.2 hne
  have hsi : (1 : Int) ≤ (s.size : Int) := by omega
  have hsj : (s.size : Int) ≤ 100000 := by omega
  obtain ⟨c0, hc0⟩ : ∃ c0, d[0] = c0 := ⟨_, rfl⟩
  have h0 : s[0]'(by omega) = c0 := by rw [rget s d hd 0 (by omega) hpos, hc0]
  have hhd : d.head? = some c0 := by rw [List.head?_eq_getElem?, List.getElem?_eq_getElem hpos, hc0]
  have hgt := gtr_most s
  have no : digsOk d = false → Hid (digR2 d = .tuple #[.int .i64 0, .bool false]) := fun h => Lib.hid (by unfold digR2; rw [h]; rfl)
  by_cases hz : 1 < d.length ∧ c0 = 48
  · obtain ⟨hz1, rfl⟩ := hz
    have HR := no (by
      match d, hz1, hhd with
      | c :: e :: r, _, hh => exact digsOk_zero c e r (by simpa using hh))
    have hz1i : (1 : Int) < (s.size : Int) := by omega
    clear no hhd hc0 hall hd hgt
    go_enter Tryz.func138, Tryz.ntmps138
    go_wp2_with fail
    go_ret2
    exact ⟨by rw [HR.out]; rfl, rfl⟩
  · have hm : (48 : Int) ≤ (c0.toNat : Int) := by have := (digB_iff c0).1 (hall c0 (by rw [← hc0]; exact List.getElem_mem _)); omega
    have hnz : d.length = 1 ∨ d.head? ≠ some 48 := by
      by_cases h1 : d.length = 1
      · exact .inl h1
      · refine .inr ?_
        rw [hhd]
        intro e
        exact hz ⟨by omega, Option.some.inj e⟩
    have hfirst : ¬ (1 : Int) < (s.size : Int) ∨ ((1 : Int) < (s.size : Int) ∧ ((c0.toNat : Int) == 48) = false) := by
      by_cases h1 : 1 < d.length
      · exact .inr ⟨by omega, rbyte_ne c0 48 (fun e => hz ⟨h1, e⟩)⟩
      · exact .inl (by omega)
    have HGT := Lib.hid (fun (k : Nat) (hk : k < s.size) (hk2 : k < d.length) => rget s d hd k hk hk2)
    have HSN := Lib.hid (fun (k : Nat) (hk : k < d.length) => undig_snoc d k hk)
    have HAL := Lib.hid (fun (k : Nat) (hk : k < d.length) => (digB_iff d[k]).1 (hall _ (List.getElem_mem _)))
    have HLT := Lib.hid (fun (k : Nat) => undig_lt (d.take k) (fun c hc => hall c (List.mem_of_mem_take hc)))
    have HLS := Lib.hid hls
    have HD := Lib.hid (show s.toList = d by rw [ByteArray.toList_eq, hd])
    clear hz hc0 hd hgt
    by_cases hlong : 19 < d.length
    · have HR := no (by
        match d, hhd, hnz, hall, hlong with
        | c :: r, hh, hn, ha, hl => exact digsOk_long c r ha (by
            intro e
            rcases hn with hn | hn
            · omega
            · exact hn (by rw [e]; rfl)) hl)
      have hli : (19 : Int) < (s.size : Int) := by omega
      clear no hhd hnz hall
      rcases hfirst with hf | ⟨hf1, hf⟩
      · exact absurd (show (1 : Int) < (s.size : Int) by omega) hf
      · go_enter Tryz.func138, Tryz.ntmps138
        go_wp2_with fail
        go_ret2
        exact ⟨by rw [HR.out]; rfl, rfl⟩
    · have hli : ¬ (19 : Int) < (s.size : Int) := by omega
      by_cases h19 : d.length = 19 ∧ Op.bytesLess mostD d = true
      · have HR := no (by
          rw [digsOk_19 d hall (by rcases hnz with h | h; omega; exact h) h19.1, h19.2]; rfl)
        have hg2 := less_tri d mostD
        rw [h19.2, Bool.and_eq_true] at hg2
        have hb1 : Op.bytesLess s.toList [57, 50, 50, 51, 51, 55, 50, 48, 51, 54, 56, 53, 52, 55, 55, 53, 56, 48, 55] = false := by
          rw [HD.out]
          show Op.bytesLess d mostD = false
          simpa using hg2.1
        have hb2 : (s.toList == [57, 50, 50, 51, 51, 55, 50, 48, 51, 54, 56, 53, 52, 55, 55, 53, 56, 48, 55]) = false := by
          rw [HD.out]
          show (d == mostD) = false
          simpa using hg2.2
        have hsb : ((s.size : Int) == 19) = true := by simp; omega
        clear no hhd hnz hall h19 hg2
        rcases hfirst with hf | ⟨hf1, hf⟩
        · exact absurd (show (1 : Int) < (s.size : Int) by have : (s.size : Int) = 19 := by simpa using hsb
                                                           omega) hf
        · go_enter Tryz.func138, Tryz.ntmps138
          go_wp2_with fail
          go_ret2
          exact ⟨by rw [HR.out]; rfl, rfl⟩
      · have hok : digsOk d = true := by
          by_cases h : d.length = 19
          · rw [digsOk_19 d hall (by rcases hnz with h' | h'; omega; exact h') h]
            cases hb : Op.bytesLess mostD d with
            | false => rfl
            | true => exact absurd ⟨h, hb⟩ h19
          · exact digsOk_few d hall hnz (by omega)
        have HR := Lib.hid (show digR2 d = .tuple #[.int .i64 (undig d : Int), .bool true] by unfold digR2; rw [hok]; rfl)
        have hup : undig d ≤ 9223372036854775807 := by
          unfold digsOk at hok
          simp only [Bool.and_eq_true, decide_eq_true_eq] at hok
          exact hok.2
        have hcases : ((s.size : Int) == 19) = false ∨ (((s.size : Int) == 19) = true ∧ Op.bytesLess s.toList [57, 50, 50, 51, 51, 55, 50, 48, 51, 54, 56, 53, 52, 55, 55, 53, 56, 48, 55] = true) ∨
            (((s.size : Int) == 19) = true ∧ Op.bytesLess s.toList [57, 50, 50, 51, 51, 55, 50, 48, 51, 54, 56, 53, 52, 55, 55, 53, 56, 48, 55] = false ∧ (s.toList == [57, 50, 50, 51, 51, 55, 50, 48, 51, 54, 56, 53, 52, 55, 55, 53, 56, 48, 55]) = true) := by
          by_cases h : d.length = 19
          · have hsb : ((s.size : Int) == 19) = true := by simp; omega
            have hl := less_tri d mostD
            have hf : Op.bytesLess mostD d = false := by
              cases hb : Op.bytesLess mostD d with
              | false => rfl
              | true => exact absurd ⟨h, hb⟩ h19
            rw [hf] at hl
            rw [HD.out]
            cases h1 : Op.bytesLess d mostD with
            | true => exact .inr (.inl ⟨hsb, h1⟩)
            | false =>
              rw [h1] at hl
              exact .inr (.inr ⟨hsb, h1, by show (d == mostD) = true; simpa using hl⟩)
          · refine .inl ?_
            rw [beq_eq_false_iff_ne]
            omega
        have HTK := Lib.hid (fun k => undig_take_le d k)
        clear no hhd hnz hall h19 hok hm
        rcases hcases with hA | ⟨hA, hB⟩ | ⟨hA, hB, hC⟩ <;> rcases hfirst with hf | ⟨hf1, hf⟩
        all_goals
          go_enter Tryz.func138, Tryz.ntmps138
          go_wp2_with fail
          go_loop [5, 6] (fun vn vi => ∃ (k : Nat) (a : Int), vi = .int .i64 k ∧ k ≤ s.size ∧ vn = .int .i64 a ∧ 0 ≤ a ∧ Hid (a = (undig (d.take k) : Int))) (fun _ vi => s.size - (intOf vi).toNat)
          case atStart => exact ⟨0, 0, rfl, by omega, rfl, by omega, Lib.hid rfl⟩
          case round =>
            obtain ⟨k, a, rfl, hk, rfl, ha0, HA⟩ := hrel
            by_cases hlt : k < s.size
            · have hki : (k : Int) < (s.size : Int) := by omega
              have hkl : k < d.length := by have := HLS.out; omega
              have hg := HGT.out k hlt hkl
              have hal := HAL.out k hkl
              have hsn := HSN.out k hkl
              have htk := HTK.out (k + 1)
              obtain ⟨c, hc⟩ : ∃ c, d[k] = c := ⟨_, rfl⟩
              rw [hc] at hg hal hsn
              have c1 : (48 : Int) ≤ (c.toNat : Int) := by omega
              have c2 : (c.toNat : Int) ≤ 57 := by omega
              have hup2 : 10 * a + ((c.toNat : Int) - 48) ≤ 9223372036854775807 := by have := HA.out; omega
              have hup3 : 10 * a ≤ 9223372036854775807 := by omega
              have HN := Lib.hid (show 10 * a + ((c.toNat : Int) - 48) = (undig (d.take (k + 1)) : Int) by have := HA.out; omega)
              clear hal hsn htk hc
              go_wp2_with fail
              go_round
              case rel => exact ⟨k + 1, 10 * a + ((c.toNat : Int) - 48), by go_num, by omega, rfl, by omega, HN⟩
              case measure => simp [intOf]; omega
            · obtain rfl : k = s.size := by omega
              have HE := Lib.hid (show a = (undig d : Int) by
                have h1 := HA.out
                rw [List.take_of_length_le (by have := HLS.out; omega)] at h1
                exact h1)
              go_wp2_with fail
              go_ret2
              exact ⟨by rw [HR.out, ← HE.out]; rfl, rfl⟩
end Go.Proofs.YtabbdkdpmpjchaaGreatDoor.Lx
