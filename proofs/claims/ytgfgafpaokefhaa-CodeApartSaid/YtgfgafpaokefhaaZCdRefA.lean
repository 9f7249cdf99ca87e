/-
  The document's own bytes: of a text, a value, a row of values.
-/
import Derived.Test.YtgfgafpaokefhaaZCdVal
import Derived.Deep.RegionWith
import Derived.Deep.RegionHeld3
namespace Go.Proofs.Ytgfgafpaokefhaa.Cd
open Go.RowKit
open Pk Va
set_option linter.unusedVariables false
set_option linter.unusedSimpArgs false


theorem one_byte (w : World) (c : UInt8) (v : Int) (hv : v = (c.toNat : Int)) :
    (convert 106 9 (.slice (some ⟨w.heap.size, 0, none⟩) 1 1)).run Try.prog (w.alloc (.cells #[.int .u8 v] 5)) = .ok (.string (S [c])) (w.alloc (.cells #[.int .u8 v] 5)) := by
  subst hv
  have hrow : Row8 (w.alloc (.cells #[.int .u8 (c.toNat : Int)] 5)) w.heap.size [c] := by
    intro j hj
    obtain rfl : j = 0 := by simpa using hj
    constructor
    · simp
    · simp
  exact hrow.back (P := Try.prog) 106 9 5 1 Try.underlying106 Try.underlying5 Try.underlying9 1 rfl
/-- A value no piece of which is greater than any machine bears. -/
structure VBig (v : V) : Prop where
  in_ : VIn64 v
  text : v.text.length ≤ 140737488355328
  list : v.list.length ≤ 17592186044416
theorem valB_len (v : V) (h : VBig v) : (valB v).length ≤ 180000000000000 := by
  have h1 := h.text
  have h2 := h.list
  have h3 := numB_len v.num
  have h4 := txtB_len v.text
  have h5 := numsB_len v.list
  have h6 := cntB_len v.list.length
  unfold valB tailB
  split
  · simp; omega
  · split
    · simp
    · split
      · simp; omega
      · split
        · simp; omega
        · simp
theorem add_S (a b : List UInt8) (h : a.length + b.length ≤ 9223372036854775807) (w : World) : (Op.stringOp .add (S a) (S b)).run Try.prog w = .ok (.string (S (a ++ b))) w := by
  rw [run_string_add_sum w _ _ (by rw [S_size, S_size]; exact h), S_append]
theorem byteB_eq (k : Int) : k % 256 = ((byteB k).toNat : Int) := by
  unfold byteB
  simp
  omega

set_option maxRecDepth 100000 in
theorem rtext_big (t : List UInt8) (ht : t.length ≤ 140737488355328) (w : World) :
    Calls Try.prog 56 #[.string (S t)] w fun e w' => e = .returned (.string (S (txtB t))) ∧ Below w.heap.size w w' := by
  have hsz : (S t).size = t.length := S_size t
  have HN := Lib.hid (refCount_int (t.length : Int) (by omega) (by omega) w)
  have HADD := Lib.hid (fun w => add_S (enc t.length) t (by have := enc_len t.length; omega) w)
  rw [Int.toNat_natCast] at HN
  have hti : (t.length : Int) ≤ 140737488355328 := by omega
  have hwr : IntKind.u64.wrap (t.length : Int) = (t.length : Int) := by simp only [IntKind.wrap_u64]; omega
  clear ht
  go_enter Try.func56, Try.ntmps56
  go_wp2_with fail
  refine HN.out.mono ?_
  rintro e w1 ⟨rfl, b1⟩
  have B1 := Lib.hid b1
  have hadd := HADD.out
  clear b1 HADD
  generalize S (enc t.length) = s1 at *
  generalize S t = s2 at *
  go_wp2_with fail
  go_ret
  exact ⟨rfl, B1.out⟩

set_option maxRecDepth 100000 in
set_option maxHeartbeats 2000000 in
theorem rval_1 (k n : Int) (t : List UInt8) (li : List Int) (hk : k = 1) (ok : VBig ⟨k, n, t, li⟩) (a : Option Addr) (cap : Nat) (w : World) (hx : NumsAt w a li) :
    Calls Try.prog 16 #[valC ⟨k, n, t, li⟩ a cap] w fun e w' => e = .returned (.string (S (valB ⟨k, n, t, li⟩))) ∧ Below w.heap.size w w' := by
  subst hk
  have hb1 := (Below.refl w.heap.size w).alloc (Nat.le_refl _) (.cells #[.int .i64 1, .int .i64 n, .string (S t), .slice a li.length cap] 24)
  have hone := one_byte (w.alloc (.cells #[.int .i64 1, .int .i64 n, .string (S t), .slice a li.length cap] 24)) 1 1 rfl
  rw [show (w.alloc (.cells #[.int .i64 1, .int .i64 n, .string (S t), .slice a li.length cap] 24)).heap.size = w.heap.size + 1 by simp] at hone
  have hb2 := hb1.alloc hb1.size (.cells #[.int .u8 1] 5)
  have HB := Lib.hid hb2
  have HN := Lib.hid (fun w => refNumber_any n ok.in_.num.lo (by have := ok.in_.num.hi; simp only at this; omega) w)
  have HADD := Lib.hid (fun w => add_S [1] (numB n) (by have := numB_len n; simp; omega) w)
  have HV := Lib.hid (show valB ⟨1, n, t, li⟩ = [1] ++ numB n by simp [valB, tailB, byteB])
  clear hb1 hb2 hx ok
  unfold valC
  simp only
  go_enter Try.func16, Try.ntmps16
  go_wp2_with fail
  refine (HN.out _).mono ?_
  rintro e w1 ⟨rfl, b1⟩
  have B1 := Lib.hid (HB.out.trans (b1.mono HB.out.size))
  clear b1
  have hadd := HADD.out
  unfold numB at hadd
  clear HADD hone
  generalize S (enc (zz n)) = s1 at *
  generalize S [1] = s2 at *
  go_wp2_with fail
  go_ret
  exact ⟨by rw [HV.out]; rfl, B1.out⟩

set_option maxRecDepth 100000 in
set_option maxHeartbeats 2000000 in
theorem rval_2 (k n : Int) (t : List UInt8) (li : List Int) (hk : k = 2) (ok : VBig ⟨k, n, t, li⟩) (a : Option Addr) (cap : Nat) (w : World) (hx : NumsAt w a li) :
    Calls Try.prog 16 #[valC ⟨k, n, t, li⟩ a cap] w fun e w' => e = .returned (.string (S (valB ⟨k, n, t, li⟩))) ∧ Below w.heap.size w w' := by
  subst hk
  have hb1 := (Below.refl w.heap.size w).alloc (Nat.le_refl _) (.cells #[.int .i64 2, .int .i64 n, .string (S t), .slice a li.length cap] 24)
  have hone := one_byte (w.alloc (.cells #[.int .i64 2, .int .i64 n, .string (S t), .slice a li.length cap] 24)) 2 2 rfl
  rw [show (w.alloc (.cells #[.int .i64 2, .int .i64 n, .string (S t), .slice a li.length cap] 24)).heap.size = w.heap.size + 1 by simp] at hone
  have hb2 := hb1.alloc hb1.size (.cells #[.int .u8 2] 5)
  have HB := Lib.hid hb2
  have htwo := one_byte ((w.alloc (.cells #[.int .i64 2, .int .i64 n, .string (S t), .slice a li.length cap] 24)).alloc (.cells #[.int .u8 2] 5)) (byteB n) (n % 256) (byteB_eq n)
  rw [show ((w.alloc (.cells #[.int .i64 2, .int .i64 n, .string (S t), .slice a li.length cap] 24)).alloc (.cells #[.int .u8 2] 5)).heap.size = w.heap.size + 1 + 1 by simp] at htwo
  have HB3 := Lib.hid (hb2.alloc hb2.size (.cells #[.int .u8 (n % 256)] 5))
  have hadd := fun w => add_S [2] [byteB n] (by simp) w
  have HV := Lib.hid (show valB ⟨2, n, t, li⟩ = [2] ++ [byteB n] by simp [valB, tailB, byteB])
  clear hb1 hb2 hx ok
  unfold valC
  simp only
  generalize S [byteB n] = s1 at *
  generalize S [2] = s2 at *
  go_enter Try.func16, Try.ntmps16
  go_wp2_with fail
  go_ret
  exact ⟨by rw [HV.out]; rfl, HB3.out⟩

set_option maxRecDepth 100000 in
set_option maxHeartbeats 2000000 in
theorem rval_3 (k n : Int) (t : List UInt8) (li : List Int) (hk : k = 3) (ok : VBig ⟨k, n, t, li⟩) (a : Option Addr) (cap : Nat) (w : World) (hx : NumsAt w a li) :
    Calls Try.prog 16 #[valC ⟨k, n, t, li⟩ a cap] w fun e w' => e = .returned (.string (S (valB ⟨k, n, t, li⟩))) ∧ Below w.heap.size w w' := by
  subst hk
  have hb1 := (Below.refl w.heap.size w).alloc (Nat.le_refl _) (.cells #[.int .i64 3, .int .i64 n, .string (S t), .slice a li.length cap] 24)
  have hone := one_byte (w.alloc (.cells #[.int .i64 3, .int .i64 n, .string (S t), .slice a li.length cap] 24)) 3 3 rfl
  rw [show (w.alloc (.cells #[.int .i64 3, .int .i64 n, .string (S t), .slice a li.length cap] 24)).heap.size = w.heap.size + 1 by simp] at hone
  have hb2 := hb1.alloc hb1.size (.cells #[.int .u8 3] 5)
  have HB := Lib.hid hb2
  have HN := Lib.hid (fun w => rtext_big t ok.text w)
  have HADD := Lib.hid (fun w => add_S [3] (txtB t) (by have := txtB_len t; have := ok.text; simp only at this; simp; omega) w)
  have HV := Lib.hid (show valB ⟨3, n, t, li⟩ = [3] ++ txtB t by simp [valB, tailB, byteB])
  clear hb1 hb2 hx ok
  unfold valC
  simp only
  go_enter Try.func16, Try.ntmps16
  go_wp2_with fail
  refine (HN.out _).mono ?_
  rintro e w1 ⟨rfl, b1⟩
  have B1 := Lib.hid (HB.out.trans (b1.mono HB.out.size))
  clear b1
  have hadd := HADD.out
  clear HADD hone
  generalize S (txtB t) = s1 at *
  generalize S [3] = s2 at *
  go_wp2_with fail
  go_ret
  exact ⟨by rw [HV.out]; rfl, B1.out⟩

set_option maxRecDepth 100000 in
set_option maxHeartbeats 2000000 in
theorem rval_4 (k n : Int) (t : List UInt8) (li : List Int) (hk : k = 4) (ok : VBig ⟨k, n, t, li⟩) (a : Option Addr) (cap : Nat) (w : World) (hx : NumsAt w a li) :
    Calls Try.prog 16 #[valC ⟨k, n, t, li⟩ a cap] w fun e w' => e = .returned (.string (S (valB ⟨k, n, t, li⟩))) ∧ Below w.heap.size w w' := by
  subst hk
  have hb1 := (Below.refl w.heap.size w).alloc (Nat.le_refl _) (.cells #[.int .i64 4, .int .i64 n, .string (S t), .slice a li.length cap] 24)
  have hone := one_byte (w.alloc (.cells #[.int .i64 4, .int .i64 n, .string (S t), .slice a li.length cap] 24)) 4 4 rfl
  rw [show (w.alloc (.cells #[.int .i64 4, .int .i64 n, .string (S t), .slice a li.length cap] 24)).heap.size = w.heap.size + 1 by simp] at hone
  have hb2 := hb1.alloc hb1.size (.cells #[.int .u8 4] 5)
  have HB := Lib.hid hb2
  have HN := Lib.hid (fun w => rtext_big t ok.text w)
  have HADD := Lib.hid (fun w => add_S [4] (txtB t) (by have := txtB_len t; have := ok.text; simp only at this; simp; omega) w)
  have HV := Lib.hid (show valB ⟨4, n, t, li⟩ = [4] ++ txtB t by simp [valB, tailB, byteB])
  clear hb1 hb2 hx ok
  unfold valC
  simp only
  go_enter Try.func16, Try.ntmps16
  go_wp2_with fail
  refine (HN.out _).mono ?_
  rintro e w1 ⟨rfl, b1⟩
  have B1 := Lib.hid (HB.out.trans (b1.mono HB.out.size))
  clear b1
  have hadd := HADD.out
  clear HADD hone
  generalize S (txtB t) = s1 at *
  generalize S [4] = s2 at *
  go_wp2_with fail
  go_ret
  exact ⟨by rw [HV.out]; rfl, B1.out⟩

set_option maxRecDepth 100000 in
set_option maxHeartbeats 2000000 in
theorem rval_5 (k n : Int) (t : List UInt8) (li : List Int) (hk : k = 5) (ok : VBig ⟨k, n, t, li⟩) (a : Option Addr) (cap : Nat) (w : World) (hx : NumsAt w a li) :
    Calls Try.prog 16 #[valC ⟨k, n, t, li⟩ a cap] w fun e w' => e = .returned (.string (S (valB ⟨k, n, t, li⟩))) ∧ Below w.heap.size w w' := by
  subst hk
  have hb1 := (Below.refl w.heap.size w).alloc (Nat.le_refl _) (.cells #[.int .i64 5, .int .i64 n, .string (S t), .slice a li.length cap] 24)
  have hone := one_byte (w.alloc (.cells #[.int .i64 5, .int .i64 n, .string (S t), .slice a li.length cap] 24)) 5 5 rfl
  rw [show (w.alloc (.cells #[.int .i64 5, .int .i64 n, .string (S t), .slice a li.length cap] 24)).heap.size = w.heap.size + 1 by simp] at hone
  have hb2 := hb1.alloc hb1.size (.cells #[.int .u8 5] 5)
  have HB := Lib.hid hb2
  have hll := ok.list
  simp only at hll
  have hli : (li.length : Int) ≤ 17592186044416 := by omega
  have HN := Lib.hid (fun w => refCount_int (li.length : Int) (by omega) (by omega) w)
  rw [Int.toNat_natCast] at HN
  have hwr : IntKind.u64.wrap (li.length : Int) = (li.length : Int) := by simp only [IntKind.wrap_u64]; omega
  have HADD := Lib.hid (fun w => add_S [5] (enc li.length) (by have := enc_len li.length; simp; omega) w)
  have HNS := Lib.hid (fun (i : Nat) (hi : i < li.length) w => show Calls Try.prog 55 #[.int .i64 li[i]] w fun e w' => e = .returned (.string (S (numB li[i]))) ∧ Below w.heap.size w w' from refNumber_any li[i] (ok.in_.nums _ (List.getElem_mem _)).lo (by have := (ok.in_.nums _ (List.getElem_mem hi)).hi; omega) w)
  have HAS := Lib.hid (fun (i : Nat) (hi : i < li.length) w => add_S ([5] ++ enc li.length ++ numsB (li.take i)) (numB li[i]) (by
    have h1 := enc_len li.length
    have h2 := numsB_len (li.take i)
    have h3 := numB_len li[i]
    have h4 : (li.take i).length ≤ li.length := by rw [List.length_take]; omega
    simp only [List.length_append, List.length_cons, List.length_nil]
    omega) w)
  have HST := Lib.hid (fun (i : Nat) (hi : i < li.length) => show [5] ++ enc li.length ++ numsB (li.take i) ++ numB li[i] = [5] ++ enc li.length ++ numsB (li.take (i + 1)) from by rw [List.take_succ_eq_append_getElem hi, numsB_append]; simp [numsB])
  have HV := Lib.hid (show valB ⟨5, n, t, li⟩ = [5] ++ enc li.length ++ numsB (li.take li.length) by rw [List.take_length]; simp [valB, tailB, byteB, cntB])
  have HX := Lib.hid (hx.below hb2)
  have HBX := Lib.hid ((((Below.refl _ _).alloc (Nat.le_refl _) (.cells #[.int .u8 5] 5)).block w.heap.size (by simp)).trans (heap_alloc_new w (.cells #[.int .i64 5, .int .i64 n, .string (S t), .slice a li.length cap] 24)))
  clear hb1 hb2 hx ok hll
  unfold valC
  simp only
  go_enter Try.func16, Try.ntmps16
  go_wp2_with fail
  refine (HN.out _).mono ?_
  rintro e w1 ⟨rfl, b1⟩
  have p3 : w1.cell? ⟨w.heap.size, 3, none⟩ = some (.slice a li.length cap) := cell_of_row w1 w.heap.size 3 _ _ (0, 0) ((b1.block _ (by simp <;> omega)).trans HBX.out)
  have B1 := Lib.hid (HB.out.trans (b1.mono HB.out.size))
  have HX1 := Lib.hid (HX.out.below b1)
  have hadd := HADD.out
  have HE := Lib.hid (show S ([5] ++ enc li.length) = S ([5] ++ enc li.length ++ numsB (li.take 0)) by simp [numsB])
  clear b1 HADD hone HX HBX
  generalize S (enc li.length) = s1 at *
  generalize S [5] = s2 at *
  go_wp2_with fail
  go_loopw [3, 49] (fun s i wr => ∃ k : Nat, k ≤ li.length ∧ i = .int .i64 k ∧ s = .string (S ([5] ++ enc li.length ++ numsB (li.take k))) ∧ Below w1.heap.size w1 wr) (fun _ i _ => li.length - (intOf i).toNat)
  case atStart => exact ⟨0, by omega, rfl, by rw [← HE.out]; rfl, Below.refl _ _⟩
  case round =>
    obtain ⟨k, hk, rfl, rfl, hb⟩ := hrel
    by_cases hlt : k < li.length
    · obtain ⟨g, o, rfl, p0, hg⟩ := (HX1.out.below hb) k hlt
      rw [show li.getD k 0 = li[k] by simp [List.getD, hlt]] at p0
      have hki : (k : Int) < (li.length : Int) := by omega
      have HNk := Lib.hid (HNS.out k hlt)
      have hadd2 := HAS.out k hlt
      rw [HST.out k hlt] at hadd2
      have HBE := Lib.hid hb
      clear hb hadd
      generalize li[k] = x at *
      generalize S (numB x) = d at *
      generalize S ([5] ++ enc li.length ++ numsB (li.take k)) = s0 at *
      go_wp2_with fail
      refine (HNk.out _).mono ?_
      rintro e w3 ⟨rfl, b3⟩
      have HB3 := Lib.hid (HBE.out.trans (b3.mono HBE.out.size))
      clear b3
      go_wp2_with fail
      go_roundw
      case rel => exact ⟨k + 1, by omega, by go_num, rfl, HB3.out⟩
      case measure => simp [intOf]; omega
    · have hke : k = li.length := by omega
      have hki : ¬ (k : Int) < (li.length : Int) := by omega
      subst hke
      have HBE := Lib.hid (B1.out.trans (hb.mono B1.out.size))
      clear hb hadd
      generalize hs0 : S ([5] ++ enc li.length ++ numsB (li.take li.length)) = s0 at *
      have HS0 := Lib.hid hs0
      clear hs0
      go_wp2_with fail
      go_ret
      exact ⟨by rw [HV.out, HS0.out]; rfl, HBE.out⟩

set_option maxRecDepth 100000 in
set_option maxHeartbeats 2000000 in
theorem rval_x (k n : Int) (t : List UInt8) (li : List Int) (hk : k ≠ 1 ∧ k ≠ 2 ∧ k ≠ 3 ∧ k ≠ 4 ∧ k ≠ 5) (ok : VBig ⟨k, n, t, li⟩) (a : Option Addr) (cap : Nat) (w : World) (hx : NumsAt w a li) :
    Calls Try.prog 16 #[valC ⟨k, n, t, li⟩ a cap] w fun e w' => e = .returned (.string (S (valB ⟨k, n, t, li⟩))) ∧ Below w.heap.size w w' := by
  have hb1 := (Below.refl w.heap.size w).alloc (Nat.le_refl _) (.cells #[.int .i64 k, .int .i64 n, .string (S t), .slice a li.length cap] 24)
  have hone := one_byte (w.alloc (.cells #[.int .i64 k, .int .i64 n, .string (S t), .slice a li.length cap] 24)) (byteB k) (k % 256) (byteB_eq k)
  rw [show (w.alloc (.cells #[.int .i64 k, .int .i64 n, .string (S t), .slice a li.length cap] 24)).heap.size = w.heap.size + 1 by simp] at hone
  have hb2 := hb1.alloc hb1.size (.cells #[.int .u8 (k % 256)] 5)
  have HB := Lib.hid hb2
  obtain ⟨h1, h2, h3, h4, h5⟩ := hk
  have e1 : (k == 1) = false := by simpa using h1
  have e2 : (k == 2) = false := by simpa using h2
  have e3 : (k == 3) = false := by simpa using h3
  have e4 : (k == 4) = false := by simpa using h4
  have e5 : (k == 5) = false := by simpa using h5
  have HV := Lib.hid (show valB ⟨k, n, t, li⟩ = [byteB k] by simp [valB, tailB, h1, h2, h3, h4, h5])
  clear hb1 hb2 hx ok h1 h2 h3 h4 h5
  unfold valC
  simp only
  generalize hs2 : S [byteB k] = s2 at *
  have HS2 := Lib.hid hs2
  clear hs2
  go_enter Try.func16, Try.ntmps16
  go_wp2_with fail
  go_ret
  exact ⟨by rw [HV.out, HS2.out]; rfl, HB.out⟩

theorem rval_any (v : V) (ok : VBig v) (a : Option Addr) (cap : Nat) (w : World) (hx : NumsAt w a v.list) :
    Calls Try.prog 16 #[valC v a cap] w fun e w' => e = .returned (.string (S (valB v))) ∧ Below w.heap.size w w' := by
  obtain ⟨k, n, t, li⟩ := v
  by_cases h1 : k = 1
  · exact rval_1 k n t li h1 ok a cap w hx
  by_cases h2 : k = 2
  · exact rval_2 k n t li h2 ok a cap w hx
  by_cases h3 : k = 3
  · exact rval_3 k n t li h3 ok a cap w hx
  by_cases h4 : k = 4
  · exact rval_4 k n t li h4 ok a cap w hx
  by_cases h5 : k = 5
  · exact rval_5 k n t li h5 ok a cap w hx
  exact rval_x k n t li ⟨h1, h2, h3, h4, h5⟩ ok a cap w hx

end Go.Proofs.Ytgfgafpaokefhaa.Cd
