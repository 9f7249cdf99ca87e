/-
  The walk over the law that bytes are read as what they are written in, and that a beginning is too short.
-/
import Derived.Test.YtjakahpjdjebkabPkLaws
import Derived.Test.YtjakahpjdjebkabPkBack
namespace Go.Proofs.Ytjakahpjdjebkab.Pk
open Go.RowKit

theorem zz_unz (v : Nat) (h : v < 2 ^ 64) : zz (unz v) = v := by
  unfold zz unz
  split <;> split <;> omega
theorem unz_range (v : Nat) (h : v < 2 ^ 64) : -9223372036854775808 ≤ unz v ∧ unz v < 9223372036854775808 := by
  unfold unz
  split <;> omega
theorem unz_zz (n : Int) : unz (zz n) = n := by
  unfold zz unz
  split <;> split <;> omega

theorem rCount_ok (b : Nat) (l : List UInt8) (hl : l.length ≤ 1000000) (v : Nat) (sz : Nat) (hd : decC l = (v, sz, 0)) (w : World) (h : RdAt w b l 0) :
    Calls Try.prog 21 #[.pointer (some ⟨b, 0, none⟩)] w fun e w' =>
      e = .returned (.int .u64 (v : Int)) ∧ RdAt w' b (l.drop sz) 0 ∧ Only b w w' := by
  refine (rCount_any b l hl 0 w h).mono ?_
  rintro e w' ⟨rfl, h1, h2⟩
  simp only [rdG, hd, ne_eq, not_true_eq_false, if_false] at h1 ⊢
  first | exact ⟨rfl, h1, h2⟩ | exact ⟨trivial, h1, h2⟩
theorem rCount_err (b : Nat) (l : List UInt8) (hl : l.length ≤ 1000000) (v : Nat) (sz err : Nat) (he : err ≠ 0) (hd : decC l = (v, sz, err)) (w : World) (h : RdAt w b l 0) :
    Calls Try.prog 21 #[.pointer (some ⟨b, 0, none⟩)] w fun e w' =>
      e = .returned (.int .u64 0) ∧ RdAt w' b l err ∧ Only b w w' := by
  refine (rCount_any b l hl 0 w h).mono ?_
  rintro e w' ⟨rfl, h1, h2⟩
  simp only [rdG, hd, ne_eq, not_true_eq_false, if_false, he, not_false_eq_true, if_true] at h1 ⊢
  first | exact ⟨rfl, h1, h2⟩ | exact ⟨trivial, h1, h2⟩

theorem rNumber_ok (b : Nat) (l : List UInt8) (hl : l.length ≤ 1000000) (v : Int) (sz : Nat) (hd : decN l = (v, sz, 0)) (w : World) (h : RdAt w b l 0) :
    Calls Try.prog 18 #[.pointer (some ⟨b, 0, none⟩)] w fun e w' =>
      e = .returned (.int .i64 v) ∧ RdAt w' b (l.drop sz) 0 ∧ Only b w w' := by
  refine (rNumber_any b l hl 0 w h).mono ?_
  rintro e w' ⟨rfl, h1, h2⟩
  simp only [rdG, hd, ne_eq, not_true_eq_false, if_false] at h1 ⊢
  first | exact ⟨rfl, h1, h2⟩ | exact ⟨trivial, h1, h2⟩
theorem rNumber_err (b : Nat) (l : List UInt8) (hl : l.length ≤ 1000000) (v : Int) (sz err : Nat) (he : err ≠ 0) (hd : decN l = (v, sz, err)) (w : World) (h : RdAt w b l 0) :
    Calls Try.prog 18 #[.pointer (some ⟨b, 0, none⟩)] w fun e w' =>
      e = .returned (.int .i64 0) ∧ RdAt w' b l err ∧ Only b w w' := by
  refine (rNumber_any b l hl 0 w h).mono ?_
  rintro e w' ⟨rfl, h1, h2⟩
  simp only [rdG, hd, ne_eq, not_true_eq_false, if_false, he, not_false_eq_true, if_true] at h1 ⊢
  first | exact ⟨rfl, h1, h2⟩ | exact ⟨trivial, h1, h2⟩

theorem rTruth_ok (b : Nat) (l : List UInt8) (hl : l.length ≤ 1000000) (v : Bool) (sz : Nat) (hd : decT l = (v, sz, 0)) (w : World) (h : RdAt w b l 0) :
    Calls Try.prog 19 #[.pointer (some ⟨b, 0, none⟩)] w fun e w' =>
      e = .returned (.bool v) ∧ RdAt w' b (l.drop sz) 0 ∧ Only b w w' := by
  refine (rTruth_any b l hl 0 w h).mono ?_
  rintro e w' ⟨rfl, h1, h2⟩
  simp only [rdG, hd, ne_eq, not_true_eq_false, if_false] at h1 ⊢
  first | exact ⟨rfl, h1, h2⟩ | exact ⟨trivial, h1, h2⟩
theorem rTruth_err (b : Nat) (l : List UInt8) (hl : l.length ≤ 1000000) (v : Bool) (sz err : Nat) (he : err ≠ 0) (hd : decT l = (v, sz, err)) (w : World) (h : RdAt w b l 0) :
    Calls Try.prog 19 #[.pointer (some ⟨b, 0, none⟩)] w fun e w' =>
      e = .returned (.bool false) ∧ RdAt w' b l err ∧ Only b w w' := by
  refine (rTruth_any b l hl 0 w h).mono ?_
  rintro e w' ⟨rfl, h1, h2⟩
  simp only [rdG, hd, ne_eq, not_true_eq_false, if_false, he, not_false_eq_true, if_true] at h1 ⊢
  first | exact ⟨rfl, h1, h2⟩ | exact ⟨trivial, h1, h2⟩

theorem rText_ok (b : Nat) (l : List UInt8) (hl : l.length ≤ 1000000) (most : Int) (hm0 : -9223372036854775808 ≤ most) (hm1 : most < 9223372036854775808) (v : List UInt8) (sz : Nat) (hd : decX l most = (v, sz, 0)) (w : World) (h : RdAt w b l 0) :
    Calls Try.prog 20 #[.pointer (some ⟨b, 0, none⟩), .int .i64 most] w fun e w' =>
      e = .returned (.string (S v)) ∧ RdAt w' b (l.drop sz) 0 ∧ Only b w w' := by
  refine (rText_any b l hl 0 most hm0 hm1 w h).mono ?_
  rintro e w' ⟨rfl, h1, h2⟩
  simp only [rdG, hd, ne_eq, not_true_eq_false, if_false] at h1 ⊢
  first | exact ⟨rfl, h1, h2⟩ | exact ⟨trivial, h1, h2⟩
theorem rText_err (b : Nat) (l : List UInt8) (hl : l.length ≤ 1000000) (most : Int) (hm0 : -9223372036854775808 ≤ most) (hm1 : most < 9223372036854775808) (v : List UInt8) (sz err : Nat) (he : err ≠ 0) (hd : decX l most = (v, sz, err)) (w : World) (h : RdAt w b l 0) :
    Calls Try.prog 20 #[.pointer (some ⟨b, 0, none⟩), .int .i64 most] w fun e w' =>
      e = .returned (.string (S [])) ∧ RdAt w' b l err ∧ Only b w w' := by
  refine (rText_any b l hl 0 most hm0 hm1 w h).mono ?_
  rintro e w' ⟨rfl, h1, h2⟩
  simp only [rdG, hd, ne_eq, not_true_eq_false, if_false, he, not_false_eq_true, if_true] at h1 ⊢
  first | exact ⟨rfl, h1, h2⟩ | exact ⟨trivial, h1, h2⟩

theorem left_ok (b : Nat) (l : List UInt8) (w : World) (h : RdAt w b l 0) :
    Calls Try.prog 23 #[.pointer (some ⟨b, 0, none⟩)] w fun e w' => e = .returned (.int .i64 (l.length : Int)) ∧ w = w' := by
  refine (left_any b l 0 w h).mono ?_
  rintro e w' ⟨rfl, rfl⟩
  exact ⟨by simp, rfl⟩

/-- The bytes that were read, as the walk cuts and holds them against what is written. -/
theorem prefix_eq (s : ByteArray) (sz : Nat) (l : List UInt8) (h : sz ≤ s.size) (he : l = s.data.toList.take sz) : ((S l).toList == (s.extract 0 (s.size - (s.size - sz))).toList) = true := by
  have : s.extract 0 (s.size - (s.size - sz)) = S l := by
    rw [S_extract, he, show s.size - (s.size - sz) - 0 = sz by omega, List.drop_zero]
  rw [this]
  simp

theorem enc_len_pos (n : Nat) : 0 < (enc n).length := by
  unfold enc
  simp only [encF]
  split <;> simp
theorem place_lt (a : Int) (n : Nat) (h : 0 < n) (h2 : n ≤ 20000) : ∃ K : Nat, wrap64 ((IntKind.u64.wrap a).tmod (n : Int)) = (K : Int) ∧ K < n := by
  rw [IntKind.wrap_u64]
  have h0 : 0 ≤ a % 18446744073709551616 := by omega
  rw [Int.tmod_eq_emod_of_nonneg h0]
  generalize a % 18446744073709551616 = x at *
  have h3 : 0 ≤ x % (n : Int) := Int.emod_nonneg _ (by omega)
  have h4 : x % (n : Int) < (n : Int) := Int.emod_lt_of_pos _ (by omega)
  generalize x % (n : Int) = y at *
  obtain ⟨K, rfl⟩ := Int.eq_ofNat_of_zero_le h3
  exact ⟨K, by unfold wrap64; omega, by omega⟩

/-- Three readers, at unlike places. -/
structure Three (w : World) (a b c : Nat) (la : List UInt8) (ea : Nat) (lb : List UInt8) (eb : Nat) (lc : List UInt8) (ec : Nat) : Prop where
  ra : RdAt w a la ea
  rb : RdAt w b lb eb
  rc : RdAt w c lc ec
  ab : a < b
  bc : b < c
theorem Three.below {w w' : World} {a b c : Nat} {la lb lc : List UInt8} {ea eb ec : Nat} (h : Three w a b c la ea lb eb lc ec) (k : Below w.heap.size w w') : Three w' a b c la ea lb eb lc ec :=
  ⟨h.ra.below k, h.rb.below k, h.rc.below k, h.ab, h.bc⟩
theorem Three.onA {w w' : World} {a b c : Nat} {la lb lc : List UInt8} {ea eb ec : Nat} (h : Three w a b c la ea lb eb lc ec) {l : List UInt8} {e : Nat} (r : RdAt w' a l e) (k : Only a w w') : Three w' a b c l e lb eb lc ec :=
  ⟨r, h.rb.only k (by have := h.ab; omega), h.rc.only k (by have := h.ab; have := h.bc; omega), h.ab, h.bc⟩
theorem Three.onB {w w' : World} {a b c : Nat} {la lb lc : List UInt8} {ea eb ec : Nat} (h : Three w a b c la ea lb eb lc ec) {l : List UInt8} {e : Nat} (r : RdAt w' b l e) (k : Only b w w') : Three w' a b c la ea l e lc ec :=
  ⟨h.ra.only k (by have := h.ab; omega), r, h.rc.only k (by have := h.bc; omega), h.ab, h.bc⟩
theorem Three.onC {w w' : World} {a b c : Nat} {la lb lc : List UInt8} {ea eb ec : Nat} (h : Three w a b c la ea lb eb lc ec) {l : List UInt8} {e : Nat} (r : RdAt w' c l e) (k : Only c w w') : Three w' a b c la ea lb eb l e :=
  ⟨h.ra.only k (by have := h.ab; have := h.bc; omega), h.rb.only k (by have := h.bc; omega), r, h.ab, h.bc⟩
/-- What was there before, and three readers behind it. -/
structure Beh (w0 w : World) (a b c : Nat) (la : List UInt8) (ea : Nat) (lb : List UInt8) (eb : Nat) (lc : List UInt8) (ec : Nat) : Prop where
  t : Three w a b c la ea lb eb lc ec
  bel : Below w0.heap.size w0 w
  lo : w0.heap.size ≤ a
theorem Beh.below {w0 w w' : World} {a b c : Nat} {la lb lc : List UInt8} {ea eb ec : Nat} (h : Beh w0 w a b c la ea lb eb lc ec) (k : Below w.heap.size w w') : Beh w0 w' a b c la ea lb eb lc ec :=
  ⟨h.t.below k, two h.bel k, h.lo⟩
theorem Beh.onA {w0 w w' : World} {a b c : Nat} {la lb lc : List UInt8} {ea eb ec : Nat} (h : Beh w0 w a b c la ea lb eb lc ec) {l : List UInt8} {e : Nat} (r : RdAt w' a l e) (k : Only a w w') : Beh w0 w' a b c l e lb eb lc ec :=
  ⟨h.t.onA r k, Only.below h.bel k h.bel.size h.lo, h.lo⟩
theorem Beh.onB {w0 w w' : World} {a b c : Nat} {la lb lc : List UInt8} {ea eb ec : Nat} (h : Beh w0 w a b c la ea lb eb lc ec) {l : List UInt8} {e : Nat} (r : RdAt w' b l e) (k : Only b w w') : Beh w0 w' a b c la ea l e lc ec :=
  ⟨h.t.onB r k, Only.below h.bel k h.bel.size (by have := h.lo; have := h.t.ab; omega), h.lo⟩
theorem Beh.onC {w0 w w' : World} {a b c : Nat} {la lb lc : List UInt8} {ea eb ec : Nat} (h : Beh w0 w a b c la ea lb eb lc ec) {l : List UInt8} {e : Nat} (r : RdAt w' c l e) (k : Only c w w') : Beh w0 w' a b c la ea lb eb l e :=
  ⟨h.t.onC r k, Only.below h.bel k h.bel.size (by have := h.lo; have := h.t.ab; have := h.t.bc; omega), h.lo⟩

theorem decX_of_err (l : List UInt8) (most : Int) (v sz err : Nat) (he : err ≠ 0) (h : decC l = (v, sz, err)) : decX l most = ([], 0, err) := by
  have hS : decS l most = (0, 0, err) := by
    unfold decS
    rw [h]
    simp [he]
  unfold decX
  rw [hS]
  simp [he]
theorem decN_of (l : List UInt8) (v sz err : Nat) (h : decC l = (v, sz, err)) : decN l = (unz v, sz, err) := by
  unfold decN; rw [h]

set_option maxRecDepth 100000 in
theorem PackOne_walk (s : ByteArray) (at_ : Int) (_hs : s.size ≤ maxLen) (_ha : (Lit.int .i64 at_).wf = true) (w : World) :
    Calls Try.prog 5 #[.string s, .int .i64 at_] w fun e w' => e = .returned (.bool true) ∧ Below w.heap.size w w' := by
  skip
  by_cases hlen : 20000 < s.size
  · go_enter Try.func5, Try.ntmps5
    go_wp2_with fail
    refine (awake_any _).mono ?_
    rintro e w1 ⟨rfl, b1⟩
    have B1 := Lib.hid b1
    clear b1
    go_wp2_with fail
    refine (awake_any _).mono ?_
    rintro e w2 ⟨rfl, b2⟩
    have B2 := Lib.hid b2
    clear b2
    go_wp2_with fail
    go_ret
    exact ⟨rfl, two B1.out B2.out⟩
  have hle : s.size ≤ 20000 := by omega
  clear hlen
  have hll : s.data.toList.length = s.size := by simp
  have HL := Lib.hid hll
  clear hll
  obtain ⟨d, hd⟩ : ∃ d, decC s.data.toList = d := ⟨_, rfl⟩
  obtain ⟨v, sz, err⟩ := d
  have hN := decN_of _ _ _ _ hd
  have HD := Lib.hid hd
  have HN := Lib.hid hN
  clear hd hN
  by_cases he : err = 0
  · subst he
    obtain ⟨hv, hsz, henc⟩ := enc_dec _ _ _ HD.out
    rw [HL.out] at hsz
    have hR : (s.data.toList.drop sz).length = s.size - sz := by rw [List.length_drop, HL.out]
    have hex := prefix_eq s sz (enc v) hsz henc
    have hzz := zz_unz v hv
    have hur := unz_range v hv
    have HZZ := Lib.hid hzz
    have HUR := Lib.hid hur
    have HV : U64 v := ⟨hv⟩
    have HENC := Lib.hid henc
    have HR := Lib.hid hR
    have HEX := Lib.hid hex
    obtain ⟨d, hd⟩ : ∃ d, decX s.data.toList (s.size : Int) = d := ⟨_, rfl⟩
    obtain ⟨t, sx, ex⟩ := d
    have HX := Lib.hid hd
    clear hd hv henc hR hex hzz hur
    go_enter Try.func5, Try.ntmps5
    go_wp2_with fail
    refine (awake_any _).mono ?_
    rintro e w1 ⟨rfl, b1⟩
    have B1 := Lib.hid b1
    clear b1
    go_wp2_with fail
    refine (new_any _ _).mono ?_
    rintro e w2 ⟨rfl, r2, b2, s2⟩
    have R2 := Lib.hid (And.intro r2 (And.intro b2 s2))
    clear r2 b2 s2
    go_wp2_with fail
    refine (new_any _ _).mono ?_
    rintro e w3 ⟨rfl, r3, b3, s3⟩
    have R3 := Lib.hid (And.intro r3 (And.intro b3 s3))
    clear r3 b3 s3
    go_wp2_with fail
    refine (new_any _ _).mono ?_
    rintro e w4 ⟨rfl, r4, b4, s4⟩
    have Q4 : Hid (Beh w w4 w1.heap.size w2.heap.size w3.heap.size s.data.toList 0 s.data.toList 0 s.data.toList 0) := by
      obtain ⟨r2, b2, s2⟩ := R2.out
      obtain ⟨r3, b3, s3⟩ := R3.out
      exact ⟨⟨(r2.below b3).below b4, r3.below b4, r4, by omega, by omega⟩, two (two (two B1.out b2) b3) b4, B1.out.size⟩
    clear r4 b4 s4
    generalize w1.heap.size = A at *
    generalize w2.heap.size = B at *
    generalize w3.heap.size = C at *
    go_wp2_with fail
    refine (rCount_ok A _ (by rw [HL.out]; omega) v sz HD.out _ Q4.out.t.ra).mono ?_
    rintro e w5 ⟨rfl, r5, o5⟩
    have Q5 := Lib.hid (Q4.out.onA r5 o5)
    clear r5 o5
    go_wp2_with fail
    refine (rNumber_ok B _ (by rw [HL.out]; omega) (unz v) sz HN.out _ Q5.out.t.rb).mono ?_
    rintro e w6 ⟨rfl, r6, o6⟩
    have Q6 := Lib.hid (Q5.out.onB r6 o6)
    clear r6 o6
    by_cases hex : ex = 0
    · subst hex
      obtain ⟨htl, hsx, htx⟩ := encX_dec _ _ _ _ HX.out
      rw [HL.out] at hsx
      have hRX : (s.data.toList.drop sx).length = s.size - sx := by rw [List.length_drop, HL.out]
      have HRX := Lib.hid hRX
      have HEXX := Lib.hid (prefix_eq s sx (encX t) hsx htx)
      have hxl : (encX t).length = sx := by rw [htx, List.length_take, HL.out]; omega
      have htl2 : t.length ≤ (encX t).length := by simp [encX]
      have HTL : Hid (t.length ≤ 1000000) := by show t.length ≤ 1000000; omega
      have htx2 : enc (S t).size ++ (S t).data.toList = encX t := by rw [S_size, S_toList]; rfl
      have HTX := Lib.hid htx2
      have HXL := Lib.hid hxl
      have hpx : 0 < sx := by
        rw [← hxl]
        have := enc_len_pos t.length
        simp [encX]
        omega
      have HPOS := Lib.hid hpx
      have HTL2 := Lib.hid htl2
      have HTX1 := Lib.hid htx
      clear hRX hxl htl2 htx htx2 htl hpx
      go_wp2_with fail
      refine (rText_ok C _ (by rw [HL.out]; omega) _ (by omega) (by omega) t sx HX.out _ Q6.out.t.rc).mono ?_
      rintro e w7 ⟨rfl, r7, o7⟩
      have Q7 := Lib.hid (Q6.out.onC r7 o7)
      clear r7 o7
      go_wp2_with fail
      refine (bad_any A _ 0 _ Q7.out.t.ra).mono ?_
      rintro e w8 ⟨rfl, rfl⟩
      go_wp2_with fail
      refine (count_int (v : Int) (by omega) (by have := HV.lt; omega) _).mono ?_
      rintro e w8 ⟨rfl, b8⟩
      have Q8 := Lib.hid (Q7.out.below b8)
      clear b8
      go_wp2_with fail
      refine (left_ok A _ _ Q8.out.t.ra).mono ?_
      rintro e w9 ⟨rfl, rfl⟩
      rw [HR.out]
      have t1 := HEX.out
      go_wp2_with fail
      refine (bad_any B _ 0 _ Q8.out.t.rb).mono ?_
      rintro e w9 ⟨rfl, rfl⟩
      clear t1
      go_wp2_with fail
      refine (number_any _ HUR.out.1 HUR.out.2 _).mono ?_
      rintro e w9 ⟨rfl, b9⟩
      have Q9 := Lib.hid (Q8.out.below b9)
      clear b9
      rw [HZZ.out]
      go_wp2_with fail
      refine (left_ok B _ _ Q9.out.t.rb).mono ?_
      rintro e w10 ⟨rfl, rfl⟩
      rw [HR.out]
      have t1 := HEX.out
      go_wp2_with fail
      refine (bad_any C _ 0 _ Q9.out.t.rc).mono ?_
      rintro e w10 ⟨rfl, rfl⟩
      clear t1
      go_wp2_with fail
      refine (text_any (S t) (by rw [S_size]; exact HTL.out) _).mono ?_
      rintro e w10 ⟨rfl, b10⟩
      have Q10 := Lib.hid (Q9.out.below b10)
      clear b10
      rw [HTX.out]
      go_wp2_with fail
      refine (left_ok C _ _ Q10.out.t.rc).mono ?_
      rintro e w11 ⟨rfl, rfl⟩
      rw [HRX.out]
      have t1 := HEXX.out
      go_wp2_with fail
      refine (bad_any C _ 0 _ Q10.out.t.rc).mono ?_
      rintro e w11 ⟨rfl, rfl⟩
      clear t1
      go_wp2_with fail
      refine (text_any (S t) (by rw [S_size]; exact HTL.out) _).mono ?_
      rintro e w11 ⟨rfl, b11⟩
      have B11 := Lib.hid (two Q10.out.bel b11)
      clear b11
      rw [HTX.out]
      have hwl := S_size (encX t)
      have hpos : 0 < (encX t).length := by rw [HXL.out]; exact HPOS.out
      have hsm : (encX t).length ≤ 20000 := by rw [HXL.out]; omega
      obtain ⟨J, hJ, hJ2⟩ := place_lt at_ (encX t).length hpos hsm
      have h0 : 0 ≤ wrap64 ((IntKind.u64.wrap at_).tmod ((encX t).length : Int)) := by rw [hJ]; omega
      have h1 : wrap64 ((IntKind.u64.wrap at_).tmod ((encX t).length : Int)) ≤ ((encX t).length : Int) := by rw [hJ]; omega
      have HJ := Lib.hid hJ
      have hcut : (S (encX t)).extract 0 J = S ((encX t).take J) := by rw [S_extract, S_toList]; rfl
      have HCUT := Lib.hid hcut
      have hshort := decX_cut t (by have := HTL.out; omega) J hJ2 ((encX t).length : Int) (by have := HTL2.out; omega)
      have HSH := Lib.hid hshort
      clear hJ hcut hshort
      go_wp2_with fail
      rw [HJ.out, Int.toNat_natCast, HCUT.out]
      refine (new_any _ _).mono ?_
      rintro e w12 ⟨rfl, r12, b12, s12⟩
      rw [S_toList] at r12
      have R12 := Lib.hid r12
      have B12 := Lib.hid b12
      clear r12 b12 s12 h0 h1
      go_wp2_with fail
      obtain ⟨u, hu⟩ : ∃ u, decX ((encX t).take J) ((encX t).length : Int) = u := ⟨_, rfl⟩
      obtain ⟨u1, u2, u3⟩ := u
      have hu3 : u3 = 3 := by
        have := HSH.out
        rw [hu] at this
        exact this
      subst hu3
      have HU := Lib.hid hu
      clear hu
      refine (rText_err w11.heap.size _ (by simp; omega) _ (by omega) (by omega) u1 u2 3 (by omega) HU.out _ R12.out).mono ?_
      rintro e w13 ⟨rfl, r13, o13⟩
      have R13 := Lib.hid r13
      have B13 : Hid (Below w.heap.size w w13) := Only.below (two B11.out B12.out) o13 (two B11.out B12.out).size B11.out.size
      clear r13 o13
      go_wp2_with fail
      refine (awake_any _).mono ?_
      rintro e w14 ⟨rfl, b14⟩
      have R14 := Lib.hid (R13.out.below b14)
      have B14 := Lib.hid (two B13.out b14)
      clear b14
      go_wp2_with fail
      refine (bad_any w11.heap.size _ 3 _ R14.out).mono ?_
      rintro e w15 ⟨rfl, rfl⟩
      go_wp2_with fail
      go_ret
      exact ⟨rfl, B14.out⟩
    · have hX0 := HX.out
      have HE := Lib.hid hex
      have e1 := (err_ne ex hex).1
      have e2 := (err_ne ex hex).2
      clear hex hX0
      go_wp2_with fail
      refine (rText_err C _ (by rw [HL.out]; omega) _ (by omega) (by omega) t sx ex HE.out HX.out _ Q6.out.t.rc).mono ?_
      rintro e w7 ⟨rfl, r7, o7⟩
      have Q7 := Lib.hid (Q6.out.onC r7 o7)
      clear r7 o7
      go_wp2_with fail
      refine (bad_any A _ 0 _ Q7.out.t.ra).mono ?_
      rintro e w8 ⟨rfl, rfl⟩
      go_wp2_with fail
      refine (count_int (v : Int) (by omega) (by have := HV.lt; omega) _).mono ?_
      rintro e w8 ⟨rfl, b8⟩
      have Q8 := Lib.hid (Q7.out.below b8)
      clear b8
      go_wp2_with fail
      refine (left_ok A _ _ Q8.out.t.ra).mono ?_
      rintro e w9 ⟨rfl, rfl⟩
      rw [HR.out]
      have t1 := HEX.out
      go_wp2_with fail
      refine (bad_any B _ 0 _ Q8.out.t.rb).mono ?_
      rintro e w9 ⟨rfl, rfl⟩
      clear t1
      go_wp2_with fail
      refine (number_any _ HUR.out.1 HUR.out.2 _).mono ?_
      rintro e w9 ⟨rfl, b9⟩
      have Q9 := Lib.hid (Q8.out.below b9)
      clear b9
      rw [HZZ.out]
      go_wp2_with fail
      refine (left_ok B _ _ Q9.out.t.rb).mono ?_
      rintro e w10 ⟨rfl, rfl⟩
      rw [HR.out]
      have t1 := HEX.out
      go_wp2_with fail
      refine (bad_any C _ ex _ Q9.out.t.rc).mono ?_
      rintro e w10 ⟨rfl, rfl⟩
      clear t1
      go_wp2_with fail
      refine (bad_any C _ ex _ Q9.out.t.rc).mono ?_
      rintro e w10 ⟨rfl, rfl⟩
      go_wp2_with fail
      refine (awake_any _).mono ?_
      rintro e w11 ⟨rfl, b11⟩
      have Q11 := Lib.hid (Q9.out.below b11)
      clear b11
      go_wp2_with fail
      go_ret
      exact ⟨rfl, Q11.out.bel⟩
  · have hX := decX_of_err _ (s.size : Int) _ _ _ he HD.out
    have HX := Lib.hid hX
    have HE := Lib.hid he
    have e1 := (err_ne err he).1
    have e2 := (err_ne err he).2
    clear hX he
    go_enter Try.func5, Try.ntmps5
    go_wp2_with fail
    refine (awake_any _).mono ?_
    rintro e w1 ⟨rfl, b1⟩
    have B1 := Lib.hid b1
    clear b1
    go_wp2_with fail
    refine (new_any _ _).mono ?_
    rintro e w2 ⟨rfl, r2, b2, s2⟩
    have R2 := Lib.hid (And.intro r2 (And.intro b2 s2))
    clear r2 b2 s2
    go_wp2_with fail
    refine (new_any _ _).mono ?_
    rintro e w3 ⟨rfl, r3, b3, s3⟩
    have R3 := Lib.hid (And.intro r3 (And.intro b3 s3))
    clear r3 b3 s3
    go_wp2_with fail
    refine (new_any _ _).mono ?_
    rintro e w4 ⟨rfl, r4, b4, s4⟩
    have Q4 : Hid (Beh w w4 w1.heap.size w2.heap.size w3.heap.size s.data.toList 0 s.data.toList 0 s.data.toList 0) := by
      obtain ⟨r2, b2, s2⟩ := R2.out
      obtain ⟨r3, b3, s3⟩ := R3.out
      exact ⟨⟨(r2.below b3).below b4, r3.below b4, r4, by omega, by omega⟩, two (two (two B1.out b2) b3) b4, B1.out.size⟩
    clear r4 b4 s4
    generalize w1.heap.size = A at *
    generalize w2.heap.size = B at *
    generalize w3.heap.size = C at *
    go_wp2_with fail
    refine (rCount_err A _ (by rw [HL.out]; omega) v sz err HE.out HD.out _ Q4.out.t.ra).mono ?_
    rintro e w5 ⟨rfl, r5, o5⟩
    have Q5 := Lib.hid (Q4.out.onA r5 o5)
    clear r5 o5
    go_wp2_with fail
    refine (rNumber_err B _ (by rw [HL.out]; omega) (unz v) sz err HE.out HN.out _ Q5.out.t.rb).mono ?_
    rintro e w6 ⟨rfl, r6, o6⟩
    have Q6 := Lib.hid (Q5.out.onB r6 o6)
    clear r6 o6
    go_wp2_with fail
    refine (rText_err C _ (by rw [HL.out]; omega) _ (by omega) (by omega) [] 0 err HE.out HX.out _ Q6.out.t.rc).mono ?_
    rintro e w7 ⟨rfl, r7, o7⟩
    have Q7 := Lib.hid (Q6.out.onC r7 o7)
    clear r7 o7
    go_wp2_with fail
    refine (bad_any A _ err _ Q7.out.t.ra).mono ?_
    rintro e w8 ⟨rfl, rfl⟩
    go_wp2_with fail
    refine (bad_any B _ err _ Q7.out.t.rb).mono ?_
    rintro e w8 ⟨rfl, rfl⟩
    go_wp2_with fail
    refine (bad_any C _ err _ Q7.out.t.rc).mono ?_
    rintro e w8 ⟨rfl, rfl⟩
    go_wp2_with fail
    refine (bad_any C _ err _ Q7.out.t.rc).mono ?_
    rintro e w8 ⟨rfl, rfl⟩
    go_wp2_with fail
    refine (awake_any _).mono ?_
    rintro e w9 ⟨rfl, b9⟩
    have Q9 := Lib.hid (Q7.out.below b9)
    clear b9
    go_wp2_with fail
    go_ret
    exact ⟨rfl, Q9.out.bel⟩

end Go.Proofs.Ytjakahpjdjebkab.Pk
