/-
  The walks over pack's reader, each method by its contract.
-/
import Derived.Test.YtkdhchdhgmaolaaZPkText
import Derived.Test.YtkdhchdhgmaolaaZTzP
namespace Go.Proofs.Ytkdhchdhgmaolaa.Pk
open Go.RowKit

/-- A reader in memory: what is left, and the error that is kept. -/
def RdAt (w : World) (b : Nat) (l : List UInt8) (bad : Nat) : Prop :=
  w.heap[b]? = some (.cells #[.string (S l), .int .i64 (bad : Int)] 171 (0, 0))

set_option maxRecDepth 100000 in
theorem lastByte_any (i : Nat) (hi : i < 10) (c : UInt8) (w : World) :
    Calls Try.prog 131 #[.int .i64 (i : Int), .int .u8 (c.toNat : Int)] w fun e w' => e = .returned (.int .i64 (lastErr i c : Nat)) ∧ w = w' := by
  have hc : c.toNat < 256 := c.toNat_lt
  obtain ⟨x, hx⟩ : ∃ x, c.toNat = x := ⟨_, rfl⟩
  have hl : lastErr i c = if (0 < i ∧ x = 0) ∨ (i = 9 ∧ 1 < x) then 4 else 0 := by unfold lastErr; rw [hx]
  rw [hl, hx]
  rw [hx] at hc
  clear hl hx
  rcases (show (0 < i ∧ x = 0) ∨ (0 < i ∧ x ≠ 0 ∧ i = 9 ∧ 1 < x) ∨ (0 < i ∧ x ≠ 0 ∧ i = 9 ∧ ¬ 1 < x) ∨ (0 < i ∧ x ≠ 0 ∧ i ≠ 9) ∨ (i = 0) by omega) with ⟨a, rfl⟩ | ⟨a, b, rfl, d⟩ | ⟨a, b, rfl, d⟩ | ⟨a, b, c⟩ | rfl
  · rw [if_pos (Or.inl ⟨a, rfl⟩)]
    go_enter Try.func131, Try.ntmps131
    go_wp2_with fail
    go_ret
    exact ⟨rfl, rfl⟩
  · rw [if_pos (Or.inr ⟨rfl, d⟩)]
    have e1 : ((x : Int) == 0) = false := by simp; omega
    go_enter Try.func131, Try.ntmps131
    go_wp2_with fail
    go_ret
    exact ⟨rfl, rfl⟩
  · rw [if_neg (by omega)]
    have e1 : ((x : Int) == 0) = false := by simp; omega
    go_enter Try.func131, Try.ntmps131
    go_wp2_with fail
    go_ret
    exact ⟨rfl, rfl⟩
  · rw [if_neg (by omega)]
    have e1 : ((x : Int) == 0) = false := by simp; omega
    have e2 : ((i : Int) == 9) = false := by simp; omega
    go_enter Try.func131, Try.ntmps131
    go_wp2_with fail
    go_ret
    exact ⟨rfl, rfl⟩
  · rw [if_neg (by omega)]
    go_enter Try.func131, Try.ntmps131
    go_wp2_with fail
    go_ret
    exact ⟨rfl, rfl⟩

theorem getElem_list (s : ByteArray) (k : Nat) (h : k < s.size) : s.data.toList.getD k 0 = s[k] := by
  have hd : k < s.data.size := h
  simp [List.getD, Array.getElem?_eq_getElem hd]
  rfl

theorem andNot_mod (c : UInt8) : bits .andNot .u8 (c.toNat : Int) 128 = ((c.toNat % 128 : Nat) : Int) := by
  have hc : c.toNat < 256 := c.toNat_lt
  have := u8_andNot_nat c.toNat 128 hc (by omega)
  have e2 : (128 : Int) = ((128 : Nat) : Int) := rfl
  rw [e2, this]
  have key : ∀ i : Fin 256, i.val &&& (255 - 128) = i.val % 128 := by decide +kernel
  have h := key ⟨c.toNat, hc⟩
  simp only at h
  rw [h]

theorem addB_V (acc : Nat) (c : UInt8) (k : Nat) (h : acc < 2 ^ 64) :
    bits .or .u64 (acc : Int) (IntKind.u64.wrap ((c.toNat : Int) % 128 * 2 ^ (7 * k))) = ((addB acc c k : Nat) : Int) := by
  have e1 : IntKind.u64.wrap ((c.toNat : Int) % 128 * 2 ^ (7 * k)) = ((c.toNat % 128 * 128 ^ k % 2 ^ 64 : Nat) : Int) := by
    have e128 : (128 : Nat) ^ k = 2 ^ (7 * k) := by rw [Nat.pow_mul]
    rw [IntKind.wrap_u64, e128]
    simp
  rw [e1, u64_or_nat _ _ (by omega) (Nat.mod_lt _ (by omega))]
  rfl

theorem ret3_eq {a b c a' b' c' : Value} (h1 : a = a') (h2 : b = b') (h3 : c = c') : Ending.returned (.tuple #[a, b, c]) = .returned (.tuple #[a', b', c']) := by rw [h1, h2, h3]

set_option maxRecDepth 100000 in
theorem decodeCount_any (s : ByteArray) (hs : s.size ≤ maxLen) (w : World) :
    Calls Try.prog 123 #[.string s] w fun e w' =>
      e = .returned (.tuple #[.int .u64 ((decC s.data.toList).1 : Nat), .int .i64 ((decC s.data.toList).2.1 : Nat), .int .i64 ((decC s.data.toList).2.2 : Nat)]) ∧ w = w' := by
  unfold maxLen at hs
  have hlen : s.data.toList.length = s.size := by simp
  have HL := Lib.hid hlen
  clear hlen
  obtain ⟨r, hr⟩ : ∃ r, decC s.data.toList = r := ⟨_, rfl⟩
  rw [hr]
  have HR := Lib.hid hr
  clear hr
  go_enter Try.func123, Try.ntmps123
  go_wp2_with fail
  go_loop [5, 6, 7] (fun n z i => ∃ k acc : Nat, k ≤ 10 ∧ k ≤ s.size ∧ i = .int .i64 k ∧ n = .int .u64 (acc : Int) ∧ Hid (acc < 2 ^ 64 ∧ dec s.data.toList (10 - k) k acc = r)) (fun _ _ i => 10 - (intOf i).toNat)
  case atStart => exact ⟨0, 0, by omega, by omega, rfl, rfl, ⟨by omega, HR.out⟩⟩
  case round =>
    obtain ⟨k, acc, hk, hks, rfl, rfl, HD⟩ := hrel
    by_cases hlt : k < 10
    · have hf : 10 - k = (9 - k) + 1 := by omega
      by_cases he : k = s.size
      · have hd := HD.out.2
        rw [hf, dec_short _ _ _ _ (by rw [HL.out]; omega)] at hd
        subst hd
        clear HR HD hf
        have e1 : ((k : Int) == (s.size : Int)) = true := by simp [he]
        clear he
        go_wp2_with fail
        go_ret3
        exact ⟨rfl, rfl⟩
      · have hks2 : k < s.size := by omega
        have e1 : ((k : Int) == (s.size : Int)) = false := by simp; omega
        clear he
        have hget := getElem_list s k hks2
        have han := andNot_mod s[k]
        by_cases hb : s[k].toNat < 128
        · have hd := HD.out.2
          rw [hf, dec_end _ _ _ _ (by rw [HL.out]; omega) (by rw [hget]; exact hb), hget] at hd
          subst hd
          clear HR hf hget
          go_wp2_with fail
          refine (lastByte_any k hlt s[k] _).mono ?_
          rintro e w' ⟨rfl, rfl⟩
          go_wp2_with fail
          go_ret3
          exact ⟨ret3_eq (congrArg (Value.int .u64) (addB_V acc s[k] k HD.out.1)) rfl rfl, rfl⟩
        · have hd := HD.out.2
          rw [hf, dec_more _ _ _ _ (by rw [HL.out]; omega) (by rw [hget]; exact hb), hget] at hd
          have hd2 : addB acc s[k] k < 2 ^ 64 ∧ dec s.data.toList (10 - (k + 1)) (k + 1) (addB acc s[k] k) = r := ⟨addB_lt _ _ _ HD.out.1, by rw [show 10 - (k + 1) = 9 - k by omega]; exact hd⟩
          have HD2 := Lib.hid hd2
          clear hd hd2 hf hget
          go_wp2_with fail
          go_round
          case rel => exact ⟨k + 1, addB acc s[k] k, by omega, by omega, by go_num, congrArg (Value.int .u64) (addB_V acc s[k] k HD.out.1), HD2⟩
          case measure => simp [intOf]; omega
    · obtain rfl : k = 10 := by omega
      have hd := HD.out.2
      simp only [Nat.sub_self, dec] at hd
      subst hd
      clear HR HD
      go_wp2_with fail
      go_ret3
      exact ⟨rfl, rfl⟩

theorem half_and (v : Nat) (h : v < 18446744073709551616) : (bits .and .u64 (v : Int) 1 == 1) = decide (v % 2 = 1) := by
  have := u64_and_nat v 1 h (by omega)
  have e2 : (1 : Int) = ((1 : Nat) : Int) := rfl
  rw [e2, this, Nat.and_one_is_mod, Bool.eq_iff_iff]
  simp
  omega

set_option maxRecDepth 100000 in
theorem decodeNumber_any (s : ByteArray) (hs : s.size ≤ maxLen) (w : World) :
    Calls Try.prog 106 #[.string s] w fun e w' =>
      e = .returned (.tuple #[.int .i64 (decN s.data.toList).1, .int .i64 ((decN s.data.toList).2.1 : Nat), .int .i64 ((decN s.data.toList).2.2 : Nat)]) ∧ w = w' := by
  have HC := decodeCount_any s hs w
  have hb := (decC_size s.data.toList).2.1
  simp only [decN]
  obtain ⟨r, hr⟩ : ∃ r, decC s.data.toList = r := ⟨_, rfl⟩
  rw [hr] at hb HC ⊢
  obtain ⟨v, size, err⟩ := r
  simp only at hb HC ⊢
  have HC := Lib.hid HC
  clear hr
  have hand := half_and v (by omega)
  by_cases ho : v % 2 = 1
  · have hu : unz v = -1 - ((v : Int) / 2) := by unfold unz; rw [if_pos ho]; omega
    have HU := Lib.hid hu
    have ht : (bits .and .u64 (v : Int) 1 == 1) = true := by rw [hand]; simp [ho]
    have hn := not_i64 ((v : Int) / 2) (by omega) (by omega)
    clear hand hu ho
    go_enter Try.func106, Try.ntmps106
    go_wp2_with fail
    refine HC.out.mono ?_
    rintro e w' ⟨rfl, rfl⟩
    go_wp2_with fail
    go_ret3
    exact ⟨ret3_eq (congrArg (Value.int .i64) (by rw [HU.out])) rfl rfl, rfl⟩
  · have hu : unz v = ((v : Int) / 2) := by unfold unz; rw [if_neg ho]; omega
    have HU := Lib.hid hu
    have ht : (bits .and .u64 (v : Int) 1 == 1) = false := by rw [hand]; simp [ho]
    clear hand hu ho
    go_enter Try.func106, Try.ntmps106
    go_wp2_with fail
    refine HC.out.mono ?_
    rintro e w' ⟨rfl, rfl⟩
    go_wp2_with fail
    go_ret3
    exact ⟨ret3_eq (congrArg (Value.int .i64) (by rw [HU.out])) rfl rfl, rfl⟩

set_option maxRecDepth 100000 in
theorem decodeByte_any (s : ByteArray) (w : World) :
    Calls Try.prog 104 #[.string s] w fun e w' =>
      e = .returned (.tuple #[.int .i64 ((decB s.data.toList).1 : Nat), .int .i64 ((decB s.data.toList).2.1 : Nat), .int .i64 ((decB s.data.toList).2.2 : Nat)]) ∧ w = w' := by
  by_cases hz : s.size = 0
  · have he : s = ByteArray.empty := by
      have : s.data.size = 0 := hz
      simpa using this
    subst he
    clear hz
    go_enter Try.func104, Try.ntmps104
    go_wp2_with fail
    go_ret3
    exact ⟨rfl, rfl⟩
  · have hpos : 0 < s.size := by omega
    have hlen : s.data.toList.length = s.size := by simp
    have hd : decB s.data.toList = (s[0].toNat, 1, 0) := by
      have hg := getElem_list s 0 hpos
      cases hl : s.data.toList with
      | nil => rw [hl] at hlen; simp at hlen; omega
      | cons b l => rw [hl] at hg; simp [List.getD] at hg; rw [← hg]; rfl
    rw [hd]
    have h1 : s.toList.isEmpty = false := by
      cases h : s.toList with
      | nil => rw [toList_nil_iff_emptyBytes] at h; rw [h] at hz; exact absurd rfl hz
      | cons _ _ => rfl
    have hb : ((s[0].toNat : Nat) : Int) < 256 := byte_lt s[0]
    clear hd hlen hz
    go_enter Try.func104, Try.ntmps104
    go_wp2_with fail
    go_ret3
    exact ⟨rfl, rfl⟩

set_option maxRecDepth 100000 in
theorem decodeTruth_any (s : ByteArray) (w : World) :
    Calls Try.prog 108 #[.string s] w fun e w' =>
      e = .returned (.tuple #[.bool (decT s.data.toList).1, .int .i64 ((decT s.data.toList).2.1 : Nat), .int .i64 ((decT s.data.toList).2.2 : Nat)]) ∧ w = w' := by
  have HC := decodeByte_any s w
  simp only [decT]
  obtain ⟨r, hr⟩ : ∃ r, decB s.data.toList = r := ⟨_, rfl⟩
  rw [hr] at HC ⊢
  obtain ⟨v, size, err⟩ := r
  simp only at HC ⊢
  have HC := Lib.hid HC
  clear hr
  by_cases ho : 1 < v
  · rw [if_pos ho]
    go_enter Try.func108, Try.ntmps108
    go_wp2_with fail
    refine HC.out.mono ?_
    rintro e w' ⟨rfl, rfl⟩
    go_wp2_with fail
    go_ret3
    exact ⟨rfl, rfl⟩
  · rw [if_neg ho]
    by_cases h1 : v = 1
    · subst h1
      go_enter Try.func108, Try.ntmps108
      go_wp2_with fail
      refine HC.out.mono ?_
      rintro e w' ⟨rfl, rfl⟩
      go_wp2_with fail
      go_ret3
      exact ⟨rfl, rfl⟩
    · obtain rfl : v = 0 := by omega
      go_enter Try.func108, Try.ntmps108
      go_wp2_with fail
      refine HC.out.mono ?_
      rintro e w' ⟨rfl, rfl⟩
      go_wp2_with fail
      go_ret3
      exact ⟨rfl, rfl⟩

theorem err_ne (err : Nat) (h : err ≠ 0) : ((err : Int) != 0) = true ∧ ((err : Int) == 0) = false := by
  constructor
  · simp; omega
  · simp; omega

set_option maxRecDepth 100000 in
theorem decodeSmall_any (s : ByteArray) (hs : s.size ≤ maxLen) (most : Int) (_hm0 : -9223372036854775808 ≤ most) (_hm1 : most < 9223372036854775808) (w : World) :
    Calls Try.prog 116 #[.string s, .int .i64 most] w fun e w' =>
      e = .returned (.tuple #[.int .i64 ((decS s.data.toList most).1 : Nat), .int .i64 ((decS s.data.toList most).2.1 : Nat), .int .i64 ((decS s.data.toList most).2.2 : Nat)]) ∧ w = w' := by
  have HC := decodeCount_any s hs w
  have hb := (decC_size s.data.toList).2.1
  simp only [decS]
  obtain ⟨r, hr⟩ : ∃ r, decC s.data.toList = r := ⟨_, rfl⟩
  rw [hr] at HC hb ⊢
  obtain ⟨v, size, err⟩ := r
  simp only at HC hb ⊢
  have HC := Lib.hid HC
  clear hr
  by_cases he : err = 0
  · subst he
    rw [if_neg (by omega)]
    by_cases hneg : most < 0
    · rw [if_pos (Or.inl hneg)]
      go_enter Try.func116, Try.ntmps116
      go_wp2_with fail
      refine HC.out.mono ?_
      rintro e w' ⟨rfl, rfl⟩
      go_wp2_with fail
      go_ret3
      exact ⟨rfl, rfl⟩
    · by_cases hgt : most < (v : Int)
      · rw [if_pos (Or.inr hgt)]
        go_enter Try.func116, Try.ntmps116
        go_wp2_with fail
        refine HC.out.mono ?_
        rintro e w' ⟨rfl, rfl⟩
        go_wp2_with fail
        go_ret3
        exact ⟨rfl, rfl⟩
      · rw [if_neg (by omega)]
        go_enter Try.func116, Try.ntmps116
        go_wp2_with fail
        refine HC.out.mono ?_
        rintro e w' ⟨rfl, rfl⟩
        go_wp2_with fail
        go_ret3
        exact ⟨rfl, rfl⟩
  · rw [if_pos he]
    have h1 := (err_ne err he).1
    go_enter Try.func116, Try.ntmps116
    go_wp2_with fail
    refine HC.out.mono ?_
    rintro e w' ⟨rfl, rfl⟩
    go_wp2_with fail
    go_ret3
    exact ⟨rfl, rfl⟩

theorem clone_any (s : ByteArray) (hs : s.size ≤ 281474976710656) (w : World) :
    Calls Try.prog 124 #[.string s] w fun e w' => e = .returned (.string s) ∧ Below w.heap.size w w' := by
  go_enter Try.func124, Try.ntmps124
  go_wp2_with fail
  refine (Try.stringslite_Clone s _ hs).mono ?_
  rintro e w' ⟨rfl, hb⟩
  have HB := Lib.hid hb
  clear hb
  go_wp2_with fail
  go_ret
  exact ⟨rfl, HB.out⟩

theorem S_extract (s : ByteArray) (a b : Nat) : s.extract a b = S ((s.data.toList.drop a).take (b - a)) := by
  apply ByteArray.ext
  rw [ByteArray.data_extract]
  apply Array.toList_inj.1
  rw [Array.toList_extract]
  simp [S, List.extract]

set_option maxRecDepth 100000 in
theorem decodeText_any (s : ByteArray) (hs : s.size ≤ 2000000) (most : Int) (hm0 : -9223372036854775808 ≤ most) (hm1 : most < 9223372036854775808) (w : World) :
    Calls Try.prog 111 #[.string s, .int .i64 most] w fun e w' =>
      e = .returned (.tuple #[.string (S (decX s.data.toList most).1), .int .i64 ((decX s.data.toList most).2.1 : Nat), .int .i64 ((decX s.data.toList most).2.2 : Nat)]) ∧ Below w.heap.size w w' := by
  have HC := decodeSmall_any s (by unfold maxLen; omega) most hm0 hm1 w
  have hsz : (decS s.data.toList most).2.1 ≤ s.data.toList.length := by
    have := (decC_size s.data.toList).1
    unfold decS
    split
    · simp
    · split
      · simp
      · exact this
  have hlen : s.data.toList.length = s.size := by simp
  simp only [decX]
  obtain ⟨r, hr⟩ : ∃ r, decS s.data.toList most = r := ⟨_, rfl⟩
  rw [hlen] at hsz ⊢
  rw [hr] at HC hsz ⊢
  obtain ⟨v, size, err⟩ := r
  simp only at HC hsz ⊢
  have HC := Lib.hid HC
  clear hr hlen
  by_cases he : err = 0
  · subst he
    rw [if_neg (by omega)]
    by_cases hgt : s.size - size < v
    · rw [if_pos hgt]
      have hgt2 : (s.size : Int) - (size : Int) < (v : Int) := by omega
      go_enter Try.func111, Try.ntmps111
      go_wp2_with fail
      refine HC.out.mono ?_
      rintro e w' ⟨rfl, rfl⟩
      go_wp2_with fail
      go_ret3
      exact ⟨rfl, Below.refl _ _⟩
    · rw [if_neg hgt]
      have hle2 : (v : Int) ≤ (s.size : Int) - (size : Int) := by omega
      have hex := S_extract s size (size + v)
      rw [Nat.add_sub_cancel_left] at hex
      have HX := Lib.hid hex
      have hes : (s.extract size (size + v)).size ≤ 281474976710656 := by
        rw [hex, S_size]; simp; omega
      have HES := Lib.hid hes
      clear hex hes
      go_enter Try.func111, Try.ntmps111
      go_wp2_with fail
      refine HC.out.mono ?_
      rintro e w' ⟨rfl, rfl⟩
      go_wp2_with fail
      refine (clone_any _ HES.out _).mono ?_
      rintro e w1 ⟨rfl, b1⟩
      have B1 := Lib.hid b1
      clear b1
      go_wp2_with fail
      go_ret3
      exact ⟨ret3_eq (congrArg Value.string HX.out) rfl rfl, B1.out⟩
  · rw [if_pos he]
    have h1 := (err_ne err he).1
    go_enter Try.func111, Try.ntmps111
    go_wp2_with fail
    refine HC.out.mono ?_
    rintro e w' ⟨rfl, rfl⟩
    go_wp2_with fail
    go_ret3
    exact ⟨rfl, Below.refl _ _⟩

end Go.Proofs.Ytkdhchdhgmaolaa.Pk
