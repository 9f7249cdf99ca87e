/-
  LxRTokN, LxRDig, LxRDigW, LxRTokD.
-/
import Derived.Test.YtlmmfhbdebfgkaaGreatDoorVLxRefQ
import Derived.Test.YtlmmfhbdebfgkaaGreatDoorVEvCmpQ
import Derived.Test.YtlmmfhbdebfgkaaGreatDoorVLxTokQ
import GoSem.Claims
set_option linter.unusedVariables false
set_option linter.unusedSimpArgs false
set_option maxRecDepth 100000
set_option maxHeartbeats 6400000
namespace Go.Proofs.YtlmmfhbdebfgkaaGreatDoor.Lx
open Go.RowKit
open Va
theorem tok_letter (c : UInt8) (r : List UInt8) (h : letB c = true) : tokM (c :: r) = if nameB ((c :: r).takeWhile wordB) = true then some ⟨1, (c :: r).takeWhile wordB, 0, ((c :: r).takeWhile wordB).length⟩ else none := by
  have h39 : c ≠ 39 := by rintro rfl; exact absurd h (by decide)
  rw [tokM_cons, if_neg h39, if_pos h]
theorem tok_tick (r : List UInt8) : tokM (39 :: r) = if nameB (r.takeWhile wordB) = true then some ⟨4, r.takeWhile wordB, 0, (r.takeWhile wordB).length + 1⟩ else none := by
  rw [tokM_cons, if_pos rfl]
theorem let_facts (c : UInt8) (h : letB c = true) : wordB c = true ∧ 57 < c.toNat ∧ c ≠ 95 ∧ c ≠ 39 := by
  have : ∀ i : Fin 256, letB (UInt8.ofNat i.val) = true → wordB (UInt8.ofNat i.val) = true ∧ 57 < i.val ∧ UInt8.ofNat i.val ≠ 95 ∧ UInt8.ofNat i.val ≠ 39 := by decide +kernel
  have h1 := this ⟨c.toNat, c.toNat_lt⟩
  simp only [UInt8.ofNat_toNat] at h1
  exact h1 h
theorem refToken_let (s : ByteArray) (a : Nat) (ha : a < s.size) (hs : s.size ≤ 100000) (hdg : letB s[a] = true) (w : World) :
    Calls Tryz.prog 82 #[.string s, .int .i64 (a : Int)] w fun e w' => e = .returned (refAns (tokM (s.data.toList.drop a)) a) ∧ Below w.heap.size w w' := by
  have hls := list_size s
  obtain ⟨l, hl⟩ : ∃ l, s.data.toList = l := ⟨_, rfl⟩
  rw [hl] at hls ⊢
  have hal : a < l.length := by omega
  have hla := rget s l hl a ha hal
  obtain ⟨c, hc⟩ : ∃ c, s[a] = c := ⟨_, rfl⟩
  rw [hc] at hdg hla
  have hdr : l.drop a = c :: l.drop (a + 1) := by rw [rdrop_cons l a hal, ← hla]
  have htk := tok_letter c (l.drop (a + 1)) hdg
  rw [← hdr] at htk
  obtain ⟨f1, f2, f3, f4⟩ := let_facts c hdg
  have n39 : ((c.toNat : Int) == 39) = false := rbyte_ne c 39 f4
  have n95 : ((c.toNat : Int) == 95) = false := rbyte_ne c 95 f3
  have n95b : ((c.toNat : Int) != 95) = true := by simp only [bne, n95, Bool.not_false]
  have k1 : (57 : Int) < (c.toNat : Int) := by omega
  have k3 : ¬ (c.toNat : Int) < 48 := by omega
  have HW := Lib.hid (fun (wr : World) => show Calls Tryz.prog 133 #[.int .u8 (c.toNat : Int)] wr fun e w' => e = .returned (.bool true) ∧ wr = w' from by
    have := word_any c c.toNat rfl wr
    rw [f1] at this
    exact this)
  have HBX := Lib.hid (rbox w)
  have HTK := Lib.hid htk
  have HLS := Lib.hid hls
  have HT0 := Lib.hid (tw_start wordB l a)
  have HGT := Lib.hid (fun (k : Nat) (hk : k < s.size) (hk2 : k < l.length) => rget s l hl k hk hk2)
  have hai : (a : Int) < (s.size : Int) := by omega
  have hsj : (s.size : Int) ≤ 100000 := by omega
  have HEX := Lib.hid (fun (n : Nat) => show s.extract a n = S ((l.drop a).take (n - a)) from by rw [S_extract, hl])
  clear hl hls htk hal hla hdr hdg f1 f2 f3 f4
  go_enter Tryz.func82, Tryz.ntmps82
  go_wp2_with (refine (HW.out _).mono ?_; rintro e w' ⟨rfl, rfl⟩)
  go_loop [9] (fun v => ∃ n : Nat, v = .int .i64 n ∧ n ≤ s.size ∧ TwSt wordB l a n) (fun v => s.size - (intOf v).toNat)
  case atStart => exact ⟨a, by first | rfl | go_num, by omega, HT0.out⟩
  case round =>
    obtain ⟨n, rfl, hn, hst⟩ := hrel
    have HST := Lib.hid hst
    have hle := hst.le
    clear hst
    by_cases hin : ∃ (h : n < s.size), wordB s[n] = true
    · obtain ⟨hlt, hd2⟩ := hin
      have hni : (n : Int) < (s.size : Int) := by omega
      have hnl : n < l.length := by have := HLS.out; omega
      have hg := HGT.out n hlt hnl
      have HN := Lib.hid (tw_step wordB l a n HST.out hnl (by rw [← hg]; exact hd2))
      have hw2 := fun (wr : World) => word_any s[n] s[n].toNat rfl wr
      rw [hd2] at hw2
      have HW2 := Lib.hid hw2
      clear hg hd2 hw2
      go_wp2_with (refine (HW2.out _).mono ?_; rintro e w' ⟨rfl, rfl⟩)
      go_round
      case rel => exact ⟨n + 1, by go_num, by omega, HN.out⟩
      case measure => simp [intOf]; omega
    · have hstop := tw_stop wordB l a n HST.out (by
        by_cases h : n < s.size
        · have hnl : n < l.length := by have := HLS.out; omega
          refine .inr ⟨hnl, ?_⟩
          rw [← HGT.out n h hnl]
          cases hb : wordB s[n] with
          | false => rfl
          | true => exact absurd ⟨h, hb⟩ hin
        · exact .inl (by have := HLS.out; omega))
      have hex := HEX.out n
      have htk := HTK.out
      rw [hstop] at htk
      have hdl : ((l.drop a).take (n - a)).length = n - a := by rw [List.length_take, List.length_drop]; have := HLS.out; omega
      generalize (l.drop a).take (n - a) = d at *
      have hlen : (n : Int) - (a : Int) = ((d.length : Nat) : Int) := by omega
      have hnai : (a : Int) ≤ (n : Int) := by omega
      have hnsi : (n : Int) ≤ (s.size : Int) := by omega
      have hNM := refName_any (S d) (by rw [S_size]; omega)
      rw [S_toList] at hNM
      have HNM := Lib.hid hNM
      have hcase : ¬ (n : Int) < (s.size : Int) ∨ (∃ h : n < s.size, (n : Int) < (s.size : Int) ∧ wordB s[n] = false) := by
        by_cases h : n < s.size
        · refine .inr ⟨h, by omega, ?_⟩
          cases hb : wordB s[n] with
          | false => rfl
          | true => exact absurd ⟨h, hb⟩ hin
        · exact .inl (by omega)
      clear hin hstop hdl hNM
      cases hok : nameB d with
      | true =>
        rw [if_pos hok] at htk
        rw [hok] at HNM
        have HR := Lib.hid htk
        clear htk hok
        rcases hcase with hni | ⟨hlt, hni, hwf⟩
        · go_wp2_with (refine (HNM.out _).mono ?_; rintro e w' ⟨rfl, rfl⟩)
          rw [HR.out]
          exact bodyPost_ret (v := refAns (some ⟨1, d, 0, d.length⟩) a) (by simp [results, Tryz.results82, go_sem, refAns]) rfl ⟨rfl, (Below.refl _ _).alloc (Nat.le_refl _) _⟩
        · have hw2 := fun (wr : World) => word_any s[n] s[n].toNat rfl wr
          rw [hwf] at hw2
          have HW2 := Lib.hid hw2
          clear hw2 hwf
          go_wp2_with (first | (go_at_call 133; refine (HW2.out _).mono ?_; rintro e w' ⟨rfl, rfl⟩) | (go_at_call 98; refine (HNM.out _).mono ?_; rintro e w' ⟨rfl, rfl⟩))
          rw [HR.out]
          exact bodyPost_ret (v := refAns (some ⟨1, d, 0, d.length⟩) a) (by simp [results, Tryz.results82, go_sem, refAns]) rfl ⟨rfl, (Below.refl _ _).alloc (Nat.le_refl _) _⟩
      | false =>
        rw [if_neg (by rw [hok]; decide)] at htk
        rw [hok] at HNM
        have HR := Lib.hid htk
        clear htk hok
        rcases hcase with hni | ⟨hlt, hni, hwf⟩
        · go_wp2_with (refine (HNM.out _).mono ?_; rintro e w' ⟨rfl, rfl⟩)
          rw [HR.out]
          exact bodyPost_ret (v := refAns none a) (by simp [results, Tryz.results82, go_sem, refAns]) rfl ⟨rfl, (Below.refl _ _).alloc (Nat.le_refl _) _⟩
        · have hw2 := fun (wr : World) => word_any s[n] s[n].toNat rfl wr
          rw [hwf] at hw2
          have HW2 := Lib.hid hw2
          clear hw2 hwf
          go_wp2_with (first | (go_at_call 133; refine (HW2.out _).mono ?_; rintro e w' ⟨rfl, rfl⟩) | (go_at_call 98; refine (HNM.out _).mono ?_; rintro e w' ⟨rfl, rfl⟩))
          rw [HR.out]
          exact bodyPost_ret (v := refAns none a) (by simp [results, Tryz.results82, go_sem, refAns]) rfl ⟨rfl, (Below.refl _ _).alloc (Nat.le_refl _) _⟩
theorem refToken_tick (s : ByteArray) (a : Nat) (ha : a < s.size) (hs : s.size ≤ 100000) (h39 : s[a] = 39) (w : World) :
    Calls Tryz.prog 82 #[.string s, .int .i64 (a : Int)] w fun e w' => e = .returned (refAns (tokM (s.data.toList.drop a)) a) ∧ Below w.heap.size w w' := by
  have hls := list_size s
  obtain ⟨l, hl⟩ : ∃ l, s.data.toList = l := ⟨_, rfl⟩
  rw [hl] at hls ⊢
  have hal : a < l.length := by omega
  have hla := rget s l hl a ha hal
  rw [h39] at hla
  have hdr : l.drop a = 39 :: l.drop (a + 1) := by rw [rdrop_cons l a hal, ← hla]
  have htk := tok_tick (l.drop (a + 1))
  rw [← hdr] at htk
  have HBX := Lib.hid (rbox w)
  have HTK := Lib.hid htk
  have HLS := Lib.hid hls
  have HT0 := Lib.hid (tw_start wordB l (a + 1))
  have HGT := Lib.hid (fun (k : Nat) (hk : k < s.size) (hk2 : k < l.length) => rget s l hl k hk hk2)
  have hai : (a : Int) < (s.size : Int) := by omega
  have hsj : (s.size : Int) ≤ 100000 := by omega
  have HEX := Lib.hid (fun (n : Nat) => show s.extract (a + 1) n = S ((l.drop (a + 1)).take (n - (a + 1))) from by rw [S_extract, hl])
  clear hl hls htk hal hla hdr
  go_enter Tryz.func82, Tryz.ntmps82
  go_wp2_with fail
  go_loop [9] (fun v => ∃ n : Nat, v = .int .i64 n ∧ n ≤ s.size ∧ TwSt wordB l (a + 1) n) (fun v => s.size - (intOf v).toNat)
  case atStart => exact ⟨(a + 1), by first | rfl | go_num, by omega, HT0.out⟩
  case round =>
    obtain ⟨n, rfl, hn, hst⟩ := hrel
    have HST := Lib.hid hst
    have hle := hst.le
    clear hst
    by_cases hin : ∃ (h : n < s.size), wordB s[n] = true
    · obtain ⟨hlt, hd2⟩ := hin
      have hni : (n : Int) < (s.size : Int) := by omega
      have hnl : n < l.length := by have := HLS.out; omega
      have hg := HGT.out n hlt hnl
      have HN := Lib.hid (tw_step wordB l (a + 1) n HST.out hnl (by rw [← hg]; exact hd2))
      have hw2 := fun (wr : World) => word_any s[n] s[n].toNat rfl wr
      rw [hd2] at hw2
      have HW2 := Lib.hid hw2
      clear hg hd2 hw2
      go_wp2_with (refine (HW2.out _).mono ?_; rintro e w' ⟨rfl, rfl⟩)
      go_round
      case rel => exact ⟨n + 1, by go_num, by omega, HN.out⟩
      case measure => simp [intOf]; omega
    · have hstop := tw_stop wordB l (a + 1) n HST.out (by
        by_cases h : n < s.size
        · have hnl : n < l.length := by have := HLS.out; omega
          refine .inr ⟨hnl, ?_⟩
          rw [← HGT.out n h hnl]
          cases hb : wordB s[n] with
          | false => rfl
          | true => exact absurd ⟨h, hb⟩ hin
        · exact .inl (by have := HLS.out; omega))
      have hex := HEX.out n
      have htk := HTK.out
      rw [hstop] at htk
      have hdl : ((l.drop (a + 1)).take (n - (a + 1))).length = n - (a + 1) := by rw [List.length_take, List.length_drop]; have := HLS.out; omega
      generalize (l.drop (a + 1)).take (n - (a + 1)) = d at *
      have hlen : (n : Int) - (a : Int) = ((d.length + 1 : Nat) : Int) := by omega
      have hnai : (a : Int) + 1 ≤ (n : Int) := by omega
      have hnsi : (n : Int) ≤ (s.size : Int) := by omega
      have hNM := refName_any (S d) (by rw [S_size]; omega)
      rw [S_toList] at hNM
      have HNM := Lib.hid hNM
      have hcase : ¬ (n : Int) < (s.size : Int) ∨ (∃ h : n < s.size, (n : Int) < (s.size : Int) ∧ wordB s[n] = false) := by
        by_cases h : n < s.size
        · refine .inr ⟨h, by omega, ?_⟩
          cases hb : wordB s[n] with
          | false => rfl
          | true => exact absurd ⟨h, hb⟩ hin
        · exact .inl (by omega)
      clear hin hstop hdl hNM
      cases hok : nameB d with
      | true =>
        rw [if_pos hok] at htk
        rw [hok] at HNM
        have HR := Lib.hid htk
        clear htk hok
        rcases hcase with hni | ⟨hlt, hni, hwf⟩
        · go_wp2_with (refine (HNM.out _).mono ?_; rintro e w' ⟨rfl, rfl⟩)
          rw [HR.out]
          exact bodyPost_ret (v := refAns (some ⟨4, d, 0, d.length + 1⟩) a) (by simp [results, Tryz.results82, go_sem, refAns]) rfl ⟨rfl, (Below.refl _ _).alloc (Nat.le_refl _) _⟩
        · have hw2 := fun (wr : World) => word_any s[n] s[n].toNat rfl wr
          rw [hwf] at hw2
          have HW2 := Lib.hid hw2
          clear hw2 hwf
          go_wp2_with (first | (go_at_call 133; refine (HW2.out _).mono ?_; rintro e w' ⟨rfl, rfl⟩) | (go_at_call 98; refine (HNM.out _).mono ?_; rintro e w' ⟨rfl, rfl⟩))
          rw [HR.out]
          exact bodyPost_ret (v := refAns (some ⟨4, d, 0, d.length + 1⟩) a) (by simp [results, Tryz.results82, go_sem, refAns]) rfl ⟨rfl, (Below.refl _ _).alloc (Nat.le_refl _) _⟩
      | false =>
        rw [if_neg (by rw [hok]; decide)] at htk
        rw [hok] at HNM
        have HR := Lib.hid htk
        clear htk hok
        rcases hcase with hni | ⟨hlt, hni, hwf⟩
        · go_wp2_with (refine (HNM.out _).mono ?_; rintro e w' ⟨rfl, rfl⟩)
          rw [HR.out]
          exact bodyPost_ret (v := refAns none a) (by simp [results, Tryz.results82, go_sem, refAns]) rfl ⟨rfl, (Below.refl _ _).alloc (Nat.le_refl _) _⟩
        · have hw2 := fun (wr : World) => word_any s[n] s[n].toNat rfl wr
          rw [hwf] at hw2
          have HW2 := Lib.hid hw2
          clear hw2 hwf
          go_wp2_with (first | (go_at_call 133; refine (HW2.out _).mono ?_; rintro e w' ⟨rfl, rfl⟩) | (go_at_call 98; refine (HNM.out _).mono ?_; rintro e w' ⟨rfl, rfl⟩))
          rw [HR.out]
          exact bodyPost_ret (v := refAns none a) (by simp [results, Tryz.results82, go_sem, refAns]) rfl ⟨rfl, (Below.refl _ _).alloc (Nat.le_refl _) _⟩
end Go.Proofs.YtlmmfhbdebfgkaaGreatDoor.Lx
namespace Go.Proofs.YtlmmfhbdebfgkaaGreatDoor.Lx
open Va
theorem undig_dfold (d : List UInt8) : undig d = dfold 0 d := rfl
theorem dfold_acc (d : List UInt8) : ∀ acc, dfold acc d = acc * 10 ^ d.length + dfold 0 d := by
  induction d with
  | nil => intro acc; simp [dfold]
  | cons c d ih =>
    intro acc
    have e : ∀ x B : Nat, (10 * acc + x) * B = acc * (B * 10) + x * B := fun x B => by rw [Nat.add_mul, Nat.mul_comm 10 acc, Nat.mul_assoc, Nat.mul_comm 10 B]
    rw [dfold_cons, dfold_cons, ih, ih (10 * 0 + (c.toNat - 48)), List.length_cons, Nat.pow_succ, e, Nat.mul_zero, Nat.zero_add, Nat.add_assoc]
theorem undig_cons (c : UInt8) (d : List UInt8) : undig (c :: d) = (c.toNat - 48) * 10 ^ d.length + undig d := by
  rw [undig_dfold, dfold_cons, dfold_acc, undig_dfold]
  simp
theorem undig_lt (d : List UInt8) (h : ∀ c ∈ d, digB c = true) : undig d < 10 ^ d.length := by
  induction d with
  | nil => decide
  | cons c d ih =>
    have hc := (digB_iff c).1 (h c (by simp))
    have := ih (fun x hx => h x (by simp [hx]))
    rw [undig_cons, List.length_cons, Nat.pow_succ]
    have h9 : (c.toNat - 48) * 10 ^ d.length ≤ 9 * 10 ^ d.length := Nat.mul_le_mul_right _ (by omega)
    omega
theorem undig_ge (c : UInt8) (d : List UInt8) (h : digB c = true) (h0 : c ≠ 48) : 10 ^ d.length ≤ undig (c :: d) := by
  have hc := (digB_iff c).1 h
  have hn : c.toNat ≠ 48 := fun e => h0 (UInt8.toNat_inj.1 e)
  rw [undig_cons]
  have h1 : 1 * 10 ^ d.length ≤ (c.toNat - 48) * 10 ^ d.length := Nat.mul_le_mul_right _ (by omega)
  omega
theorem less_undig : ∀ (a b : List UInt8), a.length = b.length → (∀ c ∈ a, digB c = true) → (∀ c ∈ b, digB c = true) → Op.bytesLess a b = decide (undig a < undig b)
  | [], [], _, _, _ => by simp [Op.bytesLess]
  | [], _ :: _, h, _, _ => by simp at h
  | _ :: _, [], h, _, _ => by simp at h
  | x :: a, y :: b, h, ha, hb => by
    have hl : a.length = b.length := by simpa using h
    have ih := less_undig a b hl (fun c hc => ha c (by simp [hc])) (fun c hc => hb c (by simp [hc]))
    have hx := (digB_iff x).1 (ha x (by simp))
    have hy := (digB_iff y).1 (hb y (by simp))
    have la := undig_lt a (fun c hc => ha c (by simp [hc]))
    have lb := undig_lt b (fun c hc => hb c (by simp [hc]))
    rw [undig_cons, undig_cons, hl]
    rw [hl] at la
    show (decide (x < y) || (x == y && Op.bytesLess a b)) = _
    rw [ih]
    have e1 : decide (x < y) = decide (x.toNat < y.toNat) := by simp [UInt8.lt_iff_toNat_lt]
    rw [e1]
    generalize 10 ^ b.length = B at *
    generalize undig a = p at *
    generalize undig b = q at *
    rcases Nat.lt_trichotomy x.toNat y.toNat with h1 | h1 | h1
    · have h2 : ((x.toNat - 48) + 1) * B ≤ (y.toNat - 48) * B := Nat.mul_le_mul_right _ (by omega)
      rw [Nat.add_mul, Nat.one_mul] at h2
      rw [decide_eq_true h1, Bool.true_or, eq_comm, decide_eq_true_eq]
      omega
    · obtain rfl : x = y := UInt8.toNat_inj.1 h1
      rw [decide_eq_false (by omega), Bool.false_or, beq_self_eq_true, Bool.true_and]
      exact decide_eq_decide.2 (by omega)
    · have h2 : ((y.toNat - 48) + 1) * B ≤ (x.toNat - 48) * B := Nat.mul_le_mul_right _ (by omega)
      rw [Nat.add_mul, Nat.one_mul] at h2
      have hne : (x == y) = false := by
        rw [beq_eq_false_iff_ne]
        rintro rfl
        omega
      rw [decide_eq_false (by omega), Bool.false_or, hne, Bool.false_and, eq_comm, decide_eq_false_iff_not]
      omega
theorem less_tri : ∀ a b : List UInt8, (!Op.bytesLess a b && !(a == b)) = Op.bytesLess b a
  | [], [] => rfl
  | [], y :: b => rfl
  | x :: a, [] => rfl
  | x :: a, y :: b => by
    have ih := less_tri a b
    show (!(decide (x < y) || (x == y && Op.bytesLess a b)) && !((x == y) && (a == b))) = (decide (y < x) || (y == x && Op.bytesLess b a))
    have e1 : decide (x < y) = decide (x.toNat < y.toNat) := by simp [UInt8.lt_iff_toNat_lt]
    have e2 : decide (y < x) = decide (y.toNat < x.toNat) := by simp [UInt8.lt_iff_toNat_lt]
    rw [e1, e2]
    rcases Nat.lt_trichotomy x.toNat y.toNat with h | h | h
    · have n1 : (x == y) = false := by rw [beq_eq_false_iff_ne]; rintro rfl; omega
      have n2 : (y == x) = false := by rw [beq_eq_false_iff_ne]; rintro rfl; omega
      rw [n1, n2, decide_eq_true h, decide_eq_false (show ¬ y.toNat < x.toNat by omega)]
      rfl
    · obtain rfl : x = y := UInt8.toNat_inj.1 h
      rw [decide_eq_false (show ¬ x.toNat < x.toNat by omega), beq_self_eq_true]
      simpa using ih
    · have n1 : (x == y) = false := by rw [beq_eq_false_iff_ne]; rintro rfl; omega
      have n2 : (y == x) = false := by rw [beq_eq_false_iff_ne]; rintro rfl; omega
      rw [n1, n2, decide_eq_true h, decide_eq_false (show ¬ x.toNat < y.toNat by omega)]
      rfl
def mostD : List UInt8 := [57, 50, 50, 51, 51, 55, 50, 48, 51, 54, 56, 53, 52, 55, 55, 53, 56, 48, 55]
theorem most_val : undig mostD = 9223372036854775807 := by decide
theorem most_dig : ∀ c ∈ mostD, digB c = true := by decide
theorem digsOk_zero (c e : UInt8) (r : List UInt8) (h : c = 48) : digsOk (c :: e :: r) = false := by subst h; rfl
theorem digsOk_long (c : UInt8) (r : List UInt8) (h : ∀ x ∈ c :: r, digB x = true) (h0 : c ≠ 48) (hl : 19 < (c :: r).length) : digsOk (c :: r) = false := by
  have := undig_ge c r (h c (by simp)) h0
  have h2 : 10 ^ 19 ≤ 10 ^ r.length := Nat.pow_le_pow_right (by decide) (by simp at hl; omega)
  have h3 : (10 : Nat) ^ 19 = 10000000000000000000 := by decide
  have : ¬ undig (c :: r) ≤ 9223372036854775807 := by omega
  unfold digsOk
  rw [decide_eq_false this, Bool.and_false]
theorem digsOk_19 (d : List UInt8) (h : ∀ x ∈ d, digB x = true) (h0 : d.head? ≠ some 48) (hl : d.length = 19) : digsOk d = !Op.bytesLess mostD d := by
  rw [less_undig mostD d (by rw [hl]; rfl) most_dig h, most_val]
  unfold digsOk
  have h1 : (d.head? != some 48) = true := by simpa using h0
  rw [h1, Bool.or_true, Bool.true_and, ← decide_not]
  exact decide_eq_decide.2 (by omega)
theorem digsOk_few (d : List UInt8) (h : ∀ x ∈ d, digB x = true) (h0 : d.length = 1 ∨ d.head? ≠ some 48) (hl : d.length < 19) : digsOk d = true := by
  have := undig_lt d h
  have h2 : 10 ^ d.length ≤ 10 ^ 18 := Nat.pow_le_pow_right (by decide) (by omega)
  have h3 : (10 : Nat) ^ 18 = 1000000000000000000 := by decide
  unfold digsOk
  rw [decide_eq_true (show undig d ≤ 9223372036854775807 by omega), Bool.and_true]
  rcases h0 with h0 | h0
  · simp [h0]
  · simp [h0]
theorem undig_take_le (d : List UInt8) (k : Nat) : undig (d.take k) ≤ undig d := by
  have h : undig d = dfold (undig (d.take k)) (d.drop k) := by
    unfold undig dfold
    rw [← List.foldl_append, List.take_append_drop]
  rw [h]
  exact dfold_ge _ _
theorem undig_snoc (d : List UInt8) (k : Nat) (h : k < d.length) : undig (d.take (k + 1)) = 10 * undig (d.take k) + (d[k].toNat - 48) := by
  unfold undig
  rw [List.take_succ_eq_append_getElem h, List.foldl_append]
  rfl
end Go.Proofs.YtlmmfhbdebfgkaaGreatDoor.Lx
namespace Go.Proofs.YtlmmfhbdebfgkaaGreatDoor.Lx
open Go.RowKit
open Va
def digR2 (d : List UInt8) : Value := if digsOk d = true then .tuple #[.int .i64 (undig d : Int), .bool true] else .tuple #[.int .i64 0, .bool false]
theorem gtr_most (s : ByteArray) (w : World) : (binOp .gtr 9 (.string s) (.string ⟨#[57, 50, 50, 51, 51, 55, 50, 48, 51, 54, 56, 53, 52, 55, 55, 53, 56, 48, 55]⟩)).run Tryz.prog w = .ok (.bool (Op.bytesLess mostD s.toList)) w := by
  simp [binOp, Op.stringOp]
  exact less_tri _ _
theorem refDigits_any (s : ByteArray) (d : List UInt8) (hd : s.data.toList = d) (hne : d ≠ []) (hall : ∀ c ∈ d, digB c = true) (hs : s.size ≤ 100000) (w : World) :
    Calls Tryz.prog 134 #[.string s] w fun e w' => e = .returned (digR2 d) ∧ w = w' := by
  have hls := list_size s
  rw [hd] at hls
  have hpos := List.length_pos_iff.2 hne
  have hsi : (1 : Int) ≤ (s.size : Int) := by omega
  have hsj : (s.size : Int) ≤ 100000 := by omega
  obtain ⟨c0, hc0⟩ : ∃ c0, d[0] = c0 := ⟨_, rfl⟩
  have h0 : s[0]'(by omega) = c0 := by rw [rget s d hd 0 (by omega) hpos, hc0]
  have hhd : d.head? = some c0 := by rw [List.head?_eq_getElem?, List.getElem?_eq_getElem hpos, hc0]
  have hgt := gtr_most s
  have no : digsOk d = false → Hid (digR2 d = .tuple #[.int .i64 0, .bool false]) := fun h => Lib.hid (by unfold digR2; rw [h]; rfl)
  by_cases hz : 1 < d.length ∧ c0 = 48
  · obtain ⟨hz1, rfl⟩ := hz
    have HR := no (by
      match d, hz1, hhd with
      | c :: e :: r, _, hh => exact digsOk_zero c e r (by simpa using hh))
    have hz1i : (1 : Int) < (s.size : Int) := by omega
    clear no hhd hc0 hall hd hgt
    go_enter Tryz.func134, Tryz.ntmps134
    go_wp2_with fail
    go_ret2
    exact ⟨by rw [HR.out]; rfl, rfl⟩
  · have hm : (48 : Int) ≤ (c0.toNat : Int) := by have := (digB_iff c0).1 (hall c0 (by rw [← hc0]; exact List.getElem_mem _)); omega
    have hnz : d.length = 1 ∨ d.head? ≠ some 48 := by
      by_cases h1 : d.length = 1
      · exact .inl h1
      · refine .inr ?_
        rw [hhd]
        intro e
        exact hz ⟨by omega, Option.some.inj e⟩
    have hfirst : ¬ (1 : Int) < (s.size : Int) ∨ ((1 : Int) < (s.size : Int) ∧ ((c0.toNat : Int) == 48) = false) := by
      by_cases h1 : 1 < d.length
      · exact .inr ⟨by omega, rbyte_ne c0 48 (fun e => hz ⟨h1, e⟩)⟩
      · exact .inl (by omega)
    have HGT := Lib.hid (fun (k : Nat) (hk : k < s.size) (hk2 : k < d.length) => rget s d hd k hk hk2)
    have HSN := Lib.hid (fun (k : Nat) (hk : k < d.length) => undig_snoc d k hk)
    have HAL := Lib.hid (fun (k : Nat) (hk : k < d.length) => (digB_iff d[k]).1 (hall _ (List.getElem_mem _)))
    have HLT := Lib.hid (fun (k : Nat) => undig_lt (d.take k) (fun c hc => hall c (List.mem_of_mem_take hc)))
    have HLS := Lib.hid hls
    have HD := Lib.hid (show s.toList = d by rw [ByteArray.toList_eq, hd])
    clear hz hc0 hd hgt
    by_cases hlong : 19 < d.length
    · have HR := no (by
        match d, hhd, hnz, hall, hlong with
        | c :: r, hh, hn, ha, hl => exact digsOk_long c r ha (by
            intro e
            rcases hn with hn | hn
            · omega
            · exact hn (by rw [e]; rfl)) hl)
      have hli : (19 : Int) < (s.size : Int) := by omega
      clear no hhd hnz hall
      rcases hfirst with hf | ⟨hf1, hf⟩
      · exact absurd (show (1 : Int) < (s.size : Int) by omega) hf
      · go_enter Tryz.func134, Tryz.ntmps134
        go_wp2_with fail
        go_ret2
        exact ⟨by rw [HR.out]; rfl, rfl⟩
    · have hli : ¬ (19 : Int) < (s.size : Int) := by omega
      by_cases h19 : d.length = 19 ∧ Op.bytesLess mostD d = true
      · have HR := no (by
          rw [digsOk_19 d hall (by rcases hnz with h | h; omega; exact h) h19.1, h19.2]; rfl)
        have hg2 := less_tri d mostD
        rw [h19.2, Bool.and_eq_true] at hg2
        have hb1 : Op.bytesLess s.toList [57, 50, 50, 51, 51, 55, 50, 48, 51, 54, 56, 53, 52, 55, 55, 53, 56, 48, 55] = false := by
          rw [HD.out]
          show Op.bytesLess d mostD = false
          simpa using hg2.1
        have hb2 : (s.toList == [57, 50, 50, 51, 51, 55, 50, 48, 51, 54, 56, 53, 52, 55, 55, 53, 56, 48, 55]) = false := by
          rw [HD.out]
          show (d == mostD) = false
          simpa using hg2.2
        have hsb : ((s.size : Int) == 19) = true := by simp; omega
        clear no hhd hnz hall h19 hg2
        rcases hfirst with hf | ⟨hf1, hf⟩
        · exact absurd (show (1 : Int) < (s.size : Int) by have : (s.size : Int) = 19 := by simpa using hsb
                                                           omega) hf
        · go_enter Tryz.func134, Tryz.ntmps134
          go_wp2_with fail
          go_ret2
          exact ⟨by rw [HR.out]; rfl, rfl⟩
      · have hok : digsOk d = true := by
          by_cases h : d.length = 19
          · rw [digsOk_19 d hall (by rcases hnz with h' | h'; omega; exact h') h]
            cases hb : Op.bytesLess mostD d with
            | false => rfl
            | true => exact absurd ⟨h, hb⟩ h19
          · exact digsOk_few d hall hnz (by omega)
        have HR := Lib.hid (show digR2 d = .tuple #[.int .i64 (undig d : Int), .bool true] by unfold digR2; rw [hok]; rfl)
        have hup : undig d ≤ 9223372036854775807 := by
          unfold digsOk at hok
          simp only [Bool.and_eq_true, decide_eq_true_eq] at hok
          exact hok.2
        have hcases : ((s.size : Int) == 19) = false ∨ (((s.size : Int) == 19) = true ∧ Op.bytesLess s.toList [57, 50, 50, 51, 51, 55, 50, 48, 51, 54, 56, 53, 52, 55, 55, 53, 56, 48, 55] = true) ∨
            (((s.size : Int) == 19) = true ∧ Op.bytesLess s.toList [57, 50, 50, 51, 51, 55, 50, 48, 51, 54, 56, 53, 52, 55, 55, 53, 56, 48, 55] = false ∧ (s.toList == [57, 50, 50, 51, 51, 55, 50, 48, 51, 54, 56, 53, 52, 55, 55, 53, 56, 48, 55]) = true) := by
          by_cases h : d.length = 19
          · have hsb : ((s.size : Int) == 19) = true := by simp; omega
            have hl := less_tri d mostD
            have hf : Op.bytesLess mostD d = false := by
              cases hb : Op.bytesLess mostD d with
              | false => rfl
              | true => exact absurd ⟨h, hb⟩ h19
            rw [hf] at hl
            rw [HD.out]
            cases h1 : Op.bytesLess d mostD with
            | true => exact .inr (.inl ⟨hsb, h1⟩)
            | false =>
              rw [h1] at hl
              exact .inr (.inr ⟨hsb, h1, by show (d == mostD) = true; simpa using hl⟩)
          · refine .inl ?_
            rw [beq_eq_false_iff_ne]
            omega
        have HTK := Lib.hid (fun k => undig_take_le d k)
        clear no hhd hnz hall h19 hok hm
        rcases hcases with hA | ⟨hA, hB⟩ | ⟨hA, hB, hC⟩ <;> rcases hfirst with hf | ⟨hf1, hf⟩
        all_goals
          go_enter Tryz.func134, Tryz.ntmps134
          go_wp2_with fail
          go_loop [5, 6] (fun vn vi => ∃ (k : Nat) (a : Int), vi = .int .i64 k ∧ k ≤ s.size ∧ vn = .int .i64 a ∧ 0 ≤ a ∧ Hid (a = (undig (d.take k) : Int))) (fun _ vi => s.size - (intOf vi).toNat)
          case atStart => exact ⟨0, 0, rfl, by omega, rfl, by omega, Lib.hid rfl⟩
          case round =>
            obtain ⟨k, a, rfl, hk, rfl, ha0, HA⟩ := hrel
            by_cases hlt : k < s.size
            · have hki : (k : Int) < (s.size : Int) := by omega
              have hkl : k < d.length := by have := HLS.out; omega
              have hg := HGT.out k hlt hkl
              have hal := HAL.out k hkl
              have hsn := HSN.out k hkl
              have htk := HTK.out (k + 1)
              obtain ⟨c, hc⟩ : ∃ c, d[k] = c := ⟨_, rfl⟩
              rw [hc] at hg hal hsn
              have c1 : (48 : Int) ≤ (c.toNat : Int) := by omega
              have c2 : (c.toNat : Int) ≤ 57 := by omega
              have hup2 : 10 * a + ((c.toNat : Int) - 48) ≤ 9223372036854775807 := by have := HA.out; omega
              have hup3 : 10 * a ≤ 9223372036854775807 := by omega
              have HN := Lib.hid (show 10 * a + ((c.toNat : Int) - 48) = (undig (d.take (k + 1)) : Int) by have := HA.out; omega)
              clear hal hsn htk hc
              go_wp2_with fail
              go_round
              case rel => exact ⟨k + 1, 10 * a + ((c.toNat : Int) - 48), by go_num, by omega, rfl, by omega, HN⟩
              case measure => simp [intOf]; omega
            · obtain rfl : k = s.size := by omega
              have HE := Lib.hid (show a = (undig d : Int) by
                have h1 := HA.out
                rw [List.take_of_length_le (by have := HLS.out; omega)] at h1
                exact h1)
              go_wp2_with fail
              go_ret2
              exact ⟨by rw [HR.out, ← HE.out]; rfl, rfl⟩
end Go.Proofs.YtlmmfhbdebfgkaaGreatDoor.Lx
namespace Go.Proofs.YtlmmfhbdebfgkaaGreatDoor.Lx
open Go.RowKit
open Va
theorem tok_digits (c : UInt8) (r : List UInt8) (h : digB c = true) : tokM (c :: r) = if digsOk ((c :: r).takeWhile digB) = true then some ⟨2, (c :: r).takeWhile digB, undig ((c :: r).takeWhile digB), ((c :: r).takeWhile digB).length⟩ else none := by
  have hc := (digB_iff c).1 h
  have h39 : c ≠ 39 := by rintro rfl; exact absurd h (by decide)
  have hl : letB c = false := by
    have : ∀ i : Fin 256, digB (UInt8.ofNat i.val) = true → letB (UInt8.ofNat i.val) = false := by decide +kernel
    have h1 := this ⟨c.toNat, c.toNat_lt⟩
    simp only [UInt8.ofNat_toNat] at h1
    exact h1 h
  rw [tokM_cons, if_neg h39, if_neg (by rw [hl]; decide), if_pos h]
theorem dig_word (c : UInt8) (h : digB c = true) : wordB c = true := by unfold wordB; rw [h]; simp
theorem refToken_dig (s : ByteArray) (a : Nat) (ha : a < s.size) (hs : s.size ≤ 100000) (hdg : digB s[a] = true) (w : World) :
    Calls Tryz.prog 82 #[.string s, .int .i64 (a : Int)] w fun e w' => e = .returned (refAns (tokM (s.data.toList.drop a)) a) ∧ Below w.heap.size w w' := by
  have hls := list_size s
  obtain ⟨l, hl⟩ : ∃ l, s.data.toList = l := ⟨_, rfl⟩
  rw [hl] at hls ⊢
  have hal : a < l.length := by omega
  have hla := rget s l hl a ha hal
  obtain ⟨c, hc⟩ : ∃ c, s[a] = c := ⟨_, rfl⟩
  rw [hc] at hdg hla
  have hdr : l.drop a = c :: l.drop (a + 1) := by rw [rdrop_cons l a hal, ← hla]
  have htk := tok_digits c (l.drop (a + 1)) hdg
  rw [← hdr] at htk
  have hcb := (digB_iff c).1 hdg
  have n39 : ((c.toNat : Int) == 39) = false := rbyte_ne c 39 (by rintro rfl; exact absurd hdg (by decide))
  have k1 : (48 : Int) ≤ (c.toNat : Int) := by omega
  have k2 : (c.toNat : Int) ≤ 57 := by omega
  have k3 : ¬ (c.toNat : Int) < 48 := by omega
  have k4 : ¬ (57 : Int) < (c.toNat : Int) := by omega
  have HW := Lib.hid (fun (wr : World) => show Calls Tryz.prog 133 #[.int .u8 (c.toNat : Int)] wr fun e w' => e = .returned (.bool true) ∧ wr = w' from by
    have := word_any c c.toNat rfl wr
    rw [dig_word c hdg] at this
    exact this)
  have HG0 := Lib.hid (Below.refl (w.heap.size + 1) (w.alloc zeroT))
  have HBX := Lib.hid (rbox w)
  have HFN := Lib.hid (rfin w)
  have HTK := Lib.hid htk
  have HLS := Lib.hid hls
  have HT0 := Lib.hid (tw_start digB l a)
  have HGT := Lib.hid (fun (k : Nat) (hk : k < s.size) (hk2 : k < l.length) => rget s l hl k hk hk2)
  have hai : (a : Int) < (s.size : Int) := by omega
  have hsj : (s.size : Int) ≤ 100000 := by omega
  have HEX := Lib.hid (fun (n : Nat) => show s.extract a n = S ((l.drop a).take (n - a)) from by rw [S_extract, hl])
  have HCH := Lib.hid (show (l.drop a).takeWhile digB ≠ [] ∧ ∀ x ∈ (l.drop a).takeWhile digB, digB x = true from ⟨by rw [hdr, List.takeWhile_cons, if_pos hdg]; simp, mem_takeWhile digB _⟩)
  clear hl hls hdr htk hcb hla hdg hal
  go_enter Tryz.func82, Tryz.ntmps82
  go_wp2_with (refine (HW.out _).mono ?_; rintro e w' ⟨rfl, rfl⟩)
  go_loop [10] (fun v => ∃ n : Nat, v = .int .i64 n ∧ n ≤ s.size ∧ TwSt digB l a n) (fun v => s.size - (intOf v).toNat)
  case atStart => exact ⟨a, rfl, by omega, HT0.out⟩
  case round =>
    obtain ⟨n, rfl, hn, hst⟩ := hrel
    have HST := Lib.hid hst
    have hle := hst.le
    clear hst
    by_cases hin : ∃ (h : n < s.size), digB s[n] = true
    · obtain ⟨hlt, hd2⟩ := hin
      have hni : (n : Int) < (s.size : Int) := by omega
      have hnl : n < l.length := by have := HLS.out; omega
      have hg := HGT.out n hlt hnl
      have HN := Lib.hid (tw_step digB l a n HST.out hnl (by rw [← hg]; exact hd2))
      obtain ⟨c2, hc2⟩ : ∃ c2, s[n] = c2 := ⟨_, rfl⟩
      rw [hc2] at hd2
      have hb2 := (digB_iff c2).1 hd2
      have q1 : (48 : Int) ≤ (c2.toNat : Int) := by omega
      have q2 : (c2.toNat : Int) ≤ 57 := by omega
      clear hg hd2 hb2
      go_wp2_with fail
      go_round
      case rel => exact ⟨n + 1, by go_num, by omega, HN.out⟩
      case measure => simp [intOf]; omega
    · have hstop := tw_stop digB l a n HST.out (by
        by_cases h : n < s.size
        · have hnl : n < l.length := by have := HLS.out; omega
          refine .inr ⟨hnl, ?_⟩
          rw [← HGT.out n h hnl]
          cases hb : digB s[n] with
          | false => rfl
          | true => exact absurd ⟨h, hb⟩ hin
        · exact .inl (by have := HLS.out; omega))
      have hex := HEX.out n
      have hch := HCH.out
      have htk := HTK.out
      rw [hstop] at hch htk
      have hdl : ((l.drop a).take (n - a)).length = n - a := by rw [List.length_take, List.length_drop]; have := HLS.out; omega
      generalize (l.drop a).take (n - a) = d at *
      have hlen : (n : Int) - (a : Int) = (d.length : Int) := by omega
      have hnai : (a : Int) ≤ (n : Int) := by omega
      have hnsi : (n : Int) ≤ (s.size : Int) := by omega
      have hcase : ¬ n < s.size ∨ (∃ h : n < s.size, (s[n].toNat : Int) < 48) ∨ (∃ h : n < s.size, (57 : Int) < (s[n].toNat : Int)) := by
        by_cases h : n < s.size
        · by_cases h2 : s[n].toNat < 48
          · exact .inr (.inl ⟨h, by omega⟩)
          · by_cases h3 : 57 < s[n].toNat
            · exact .inr (.inr ⟨h, by omega⟩)
            · exact absurd ⟨h, (digB_iff _).2 ⟨by omega, by omega⟩⟩ hin
        · exact .inl h
      have HDG := Lib.hid (fun (wr : World) => refDigits_any (S d) d (S_toList d) hch.1 hch.2 (by rw [S_size]; omega) wr)
      clear hin hstop hch hdl
      cases hok : digsOk d with
      | true =>
        rw [if_pos hok] at htk
        have HR := Lib.hid htk
        have hD : digR2 d = .tuple #[.int .i64 (undig d : Int), .bool true] := by unfold digR2; rw [hok]; rfl
        rw [hD] at HDG
        clear htk hok hD
        have hcases : (¬ (n : Int) < (s.size : Int)) ∨ (∃ h : n < s.size, (n : Int) < (s.size : Int) ∧ ¬ (48 : Int) ≤ (s[n].toNat : Int)) ∨ (∃ h : n < s.size, (n : Int) < (s.size : Int) ∧ (48 : Int) ≤ (s[n].toNat : Int) ∧ ¬ (s[n].toNat : Int) ≤ 57) := by
          rcases hcase with h | ⟨h, h2⟩ | ⟨h, h2⟩
          · exact .inl (by omega)
          · exact .inr (.inl ⟨h, by omega, by omega⟩)
          · exact .inr (.inr ⟨h, by omega, by omega, by omega⟩)
        clear hcase
        rcases hcases with hni | ⟨hlt, hni, h2⟩ | ⟨hlt, hni, h1, h2⟩
        all_goals
          go_wp2_with (refine (HDG.out _).mono ?_; rintro e w' ⟨rfl, rfl⟩)
          rw [HR.out]
          exact bodyPost_ret (v := refAns (some ⟨2, d, undig d, d.length⟩) a) (by simp [results, Tryz.results82, go_sem, refAns]) rfl ⟨rfl, (Below.refl _ _).alloc (Nat.le_refl _) _⟩
      | false =>
        rw [if_neg (by rw [hok]; decide)] at htk
        have HR := Lib.hid htk
        have hD : digR2 d = .tuple #[.int .i64 0, .bool false] := by unfold digR2; rw [hok]; rfl
        rw [hD] at HDG
        clear htk hok hD
        have hcases : (¬ (n : Int) < (s.size : Int)) ∨ (∃ h : n < s.size, (n : Int) < (s.size : Int) ∧ ¬ (48 : Int) ≤ (s[n].toNat : Int)) ∨ (∃ h : n < s.size, (n : Int) < (s.size : Int) ∧ (48 : Int) ≤ (s[n].toNat : Int) ∧ ¬ (s[n].toNat : Int) ≤ 57) := by
          rcases hcase with h | ⟨h, h2⟩ | ⟨h, h2⟩
          · exact .inl (by omega)
          · exact .inr (.inl ⟨h, by omega, by omega⟩)
          · exact .inr (.inr ⟨h, by omega, by omega, by omega⟩)
        clear hcase
        rcases hcases with hni | ⟨hlt, hni, h2⟩ | ⟨hlt, hni, h1, h2⟩
        all_goals
          go_wp2_with (refine (HDG.out _).mono ?_; rintro e w' ⟨rfl, rfl⟩)
          rw [HR.out]
          exact bodyPost_ret (v := refAns none a) (by simp [results, Tryz.results82, go_sem, refAns]) rfl ⟨rfl, (Below.refl _ _).alloc (Nat.le_refl _) _⟩
end Go.Proofs.YtlmmfhbdebfgkaaGreatDoor.Lx
