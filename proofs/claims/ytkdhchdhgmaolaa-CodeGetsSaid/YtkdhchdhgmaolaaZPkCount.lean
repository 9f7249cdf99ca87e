/-
  The walks over pack's functions that write: Count, Number, Truth, Text, and the document's own; each by its contract.
-/
import Derived.Test.YtkdhchdhgmaolaaZMem
import Derived.Test.YtkdhchdhgmaolaaZTzP
import Derived.Test.YtkdhchdhgmaolaaShelf
namespace Go.Proofs.Ytkdhchdhgmaolaa.Pk
open Go.RowKit

theorem or1_u64 (n : Nat) (h : n < 18446744073709551616) : bits .or .u64 (n : Int) 1 = ((n ||| 1 : Nat) : Int) := by
  have := u64_or_nat n 1 h (by omega)
  simpa using this

set_option maxRecDepth 100000 in
/-- pack.countSize. -/
theorem countSize_any (n : Nat) (h : n < 2 ^ 64) (w : World) :
    Calls Try.prog 130 #[.int .u64 (n : Int)] w fun e w' => e = .returned (.int .i64 (csz n : Nat)) ∧ w = w' := by
  have h1 := or1_u64 n (by omega)
  have hm : n ||| 1 < 2 ^ 64 := by rw [or_one]; split <;> omega
  have hd : ((csz n : Nat) : Int) = (((Lib.bitLen (n ||| 1) : Nat) : Int) + 6) / 7 := by
    unfold csz
    omega
  obtain ⟨L, hL⟩ : ∃ L, Lib.bitLen (n ||| 1) = L := ⟨_, rfl⟩
  have hb : L ≤ 64 := by
    have := (bitLenAux_spec 64 (n ||| 1) hm).2 (by rw [or_one]; split <;> omega)
    rw [← hL]
    exact this.2.2.2
  rw [hL] at hd
  have HD := Lib.hid hd
  have HL := Lib.hid hL
  clear hd hL
  generalize n ||| 1 = m at *
  go_enter Try.func130, Try.ntmps130
  go_wp2_with fail
  refine (Try.bits_Len64 (m : Int) _ (by omega) (by omega)).mono ?_
  rintro e w' ⟨rfl, rfl⟩
  rw [Int.toNat_natCast, HL.out]
  go_wp2_with fail
  go_ret
  rw [HD.out]
  exact ⟨rfl, rfl⟩

theorem or128 (n : Nat) : bits .or .u8 ((n : Int) % 256) 128 = ((UInt8.ofNat (n % 128 + 128)).toNat : Int) := by
  have e1 : ((n : Int) % 256) = ((n % 256 : Nat) : Int) := by simp
  rw [e1]
  have := u8_or_nat (n % 256) 128 (by omega) (by omega)
  have e2 : (128 : Int) = ((128 : Nat) : Int) := rfl
  rw [e2, this]
  have key : ∀ i : Fin 256, i.val ||| 128 = i.val % 128 + 128 := by decide +kernel
  have h := key ⟨n % 256, by omega⟩
  simp only at h
  rw [h]
  simp
  omega

theorem andNot128 (n : Nat) : bits .andNot .u8 ((UInt8.ofNat (n % 128 + 128)).toNat : Int) 128 = ((UInt8.ofNat (n % 128)).toNat : Int) := by
  have e1 : (UInt8.ofNat (n % 128 + 128)).toNat = n % 128 + 128 := by simp; omega
  rw [e1]
  have := u8_andNot_nat (n % 128 + 128) 128 (by omega) (by omega)
  have e2 : (128 : Int) = ((128 : Nat) : Int) := rfl
  rw [e2, this]
  have key : ∀ i : Fin 128, (i.val + 128) &&& (255 - 128) = i.val := by decide +kernel
  have h := key ⟨n % 128, by omega⟩
  simp only at h
  rw [h]
  simp
  omega

set_option maxRecDepth 100000 in
/-- pack.Count: the varint. -/
theorem count_any (n : Nat) (h : n < 2 ^ 64) (w : World) :
    Calls Try.prog 121 #[.int .u64 (n : Int)] w fun e w' => e = .returned (.string ⟨(enc n).toArray⟩) ∧ Below w.heap.size w w' := by
  obtain ⟨c1, c2, _, _⟩ := csz_spec n h
  have henc := enc_eq n h
  obtain ⟨s, hs⟩ : ∃ s, csz n = s := ⟨_, rfl⟩
  have hcs := countSize_any n h w
  rw [hs] at c1 c2 henc hcs
  have HE := Lib.hid henc
  have HCS := Lib.hid hcs
  clear henc hs hcs
  obtain ⟨w2, hmk, hrow, hbel⟩ := make_row w s (by omega)
  have HR := Lib.hid hrow
  have HB := Lib.hid hbel
  clear hrow hbel
  have hn0 : (n : Int) = ((n / 128 ^ 0 : Nat) : Int) := by simp
  have HN := Lib.hid hn0
  clear hn0
  go_enter Try.func121, Try.ntmps121
  go_wp2_with fail
  refine HCS.out.mono ?_
  rintro e w' ⟨rfl, rfl⟩
  go_wp2_with fail
  clear hmk
  go_loopw [0, 5, 11] (fun x z i wr => ∃ k : Nat, k ≤ s ∧ i = .int .i64 k ∧ x = .int .u64 ((n / 128 ^ k : Nat) : Int) ∧ Row8 wr w.heap.size (row n s k) ∧ Below w.heap.size w wr) (fun _ _ i _ => s - (intOf i).toNat)
  case atStart => exact ⟨0, by omega, rfl, by rw [← HN.out], by rw [row_zero]; exact HR.out, HB.out⟩
  case round =>
    obtain ⟨k, hk, rfl, rfl, hr, hb⟩ := hrel
    have HR2 := Lib.hid hr
    have HB2 := Lib.hid hb
    clear hr hb
    by_cases hlt : k < s
    · obtain ⟨hc, hf⟩ := HR2.out k (by simp [row]; exact hlt)
      have hq : n / 128 ^ k ≤ n := Nat.div_le_self _ _
      generalize hm : n / 128 ^ k = m at *
      have HM := Lib.hid hm
      clear hm
      go_wp2_with fail
      go_roundw
      case rel =>
        refine ⟨k + 1, by omega, by go_num, ?_, ?_, ?_⟩
        · rw [Nat.pow_succ, ← Nat.div_div_eq_div_mul, HM.out]; rfl
        · rw [← row_set]
          refine HR2.out.set k _ (by simp [row]; exact hlt) _ ?_
          rw [HM.out]
          exact or128 m
        · exact HB2.out.setCell (by simp) _
      case measure => simp [intOf]; omega
    · obtain rfl : k = s := by omega
      obtain ⟨t, rfl⟩ : ∃ t, k = t + 1 := ⟨k - 1, by omega⟩
      have hlen : (row n (t + 1) (t + 1)).length = t + 1 := by simp [row]
      obtain ⟨hc, hf⟩ := HR2.out t (by rw [hlen]; omega)
      have hget : (row n (t + 1) (t + 1)).getD t 0 = UInt8.ofNat (n / 128 ^ t % 128 + 128) := by
        simp [row, List.getD]
      rw [hget] at hc
      have han := andNot128 (n / 128 ^ t)
      have hrow := HR2.out.set t (UInt8.ofNat (n / 128 ^ t % 128)) (by rw [hlen]; omega) _ han
      have hlast := row_last n (t + 1) (by omega)
      simp only [Nat.add_sub_cancel] at hlast
      rw [hlast, ← HE.out] at hrow
      have hback := hrow.back (P := Try.prog) 148 9 5 (t + 1) Try.underlying148 Try.underlying5 Try.underlying9 (t + 1) (by rw [HE.out]; simp)
      generalize UInt8.ofNat (n / 128 ^ t % 128 + 128) = c at *
      clear han hrow hlast hget hlen
      go_wp2_with fail
      go_ret
      exact ⟨rfl, HB2.out.setCell (by simp) _⟩

theorem encF_long (f m : Nat) (h : 128 ≤ m) : encF (f + 1) m = UInt8.ofNat (128 + m % 128) :: encF f (m / 128) := by
  simp [encF, show ¬ m < 128 by omega]
theorem encF_short (f m : Nat) (h : m < 128) : encF (f + 1) m = [UInt8.ofNat m] := by
  simp [encF, h]

set_option maxRecDepth 100000 in
/-- The document's Count. -/
theorem refCount_any (n : Nat) (h : n < 2 ^ 64) (w : World) :
    Calls Try.prog 117 #[.int .u64 (n : Int)] w fun e w' => e = .returned (.string ⟨(enc n).toArray⟩) ∧ Below w.heap.size w w' := by
  obtain ⟨i0, hi, hz0, hz1, hz2⟩ := info_parts info8
  go_enter Try.func117, Try.ntmps117
  go_wp2_with fail
  go_loopw [0, 3] (fun x v wr => ∃ (l : List UInt8) (m f : Nat), x = .int .u64 (m : Int) ∧ m < 18446744073709551616 ∧ Hid (enc n = l ++ encF (f + 1) m ∧ m < 128 ^ (f + 1)) ∧ l.length + f ≤ 9 ∧ wr.ownsRow w.heap.size 5 1 v l.length (l.map fun c => .int .u8 (c.toNat : Int)) ∧ Below w.heap.size w wr) (fun x _ _ => (intOf x).toNat)
  case atStart => exact ⟨[], n, 9, rfl, by omega, ⟨rfl, by omega⟩, by simp, World.ownsRow_nil _ _ _ _, Below.refl _ _⟩
  case round =>
    obtain ⟨l, m, f, rfl, hm, HE, hl, hown, hb⟩ := hrel
    have HB := Lib.hid hb
    have hsz : w.heap.size ≤ wr.heap.size := hb.size
    clear hb
    by_cases hlt : 128 ≤ m
    · go_wp2_with (at_builtin; refine wpList_append_own _ rfl _ _ 148 rfl w.heap.size 5 i0 (.int .u8 0) 1 1 Try.underlying148 hi hz0 hz1 hz2 rfl (by decide) _ _ _ rfl (hown.alloc _) ⟨wr.heap.size, 0, none⟩ 1 1 [.int .u8 (128 + (m : Int) % 128)] rfl rfl (cell_one_new _ _ _) (fun x hx => by simp at hx; subst hx; rfl) (by unfold maxLen; omega) (by omega) (by simp; omega) ?_; intro v' w1 hown' hgrow _)
      go_roundw
      case rel =>
        obtain ⟨h1, h2⟩ := HE.out
        obtain ⟨f, rfl⟩ : ∃ g, f = g + 1 := by
          cases f with
          | zero => simp at h2; omega
          | succ g => exact ⟨g, rfl⟩
        refine ⟨l ++ [UInt8.ofNat (128 + m % 128)], m / 128, f, by go_num, by omega, ⟨?_, ?_⟩, by simp; omega, ?_, ?_⟩
        · rw [h1, encF_long _ _ hlt]; simp
        · rw [Nat.pow_succ] at h2; omega
        · have e : ((UInt8.ofNat (128 + m % 128)).toNat : Int) = 128 + (m : Int) % 128 := by simp; omega
          have e2 : (l ++ [UInt8.ofNat (128 + m % 128)]).map (fun c => Value.int .u8 (c.toNat : Int)) = l.map (fun c => Value.int .u8 (c.toNat : Int)) ++ [.int .u8 (128 + (m : Int) % 128)] := by
            rw [List.map_append, List.map_cons, List.map_nil, e]
          rw [e2]
          simpa using hown'
        · exact (HB.out.alloc hsz _).grown hgrow (by simp; omega) (own_block hown)
      case measure => simp [intOf]; omega
    · obtain ⟨h1, _⟩ := HE.out
      rw [encF_short _ _ (by omega)] at h1
      have HE1 := Lib.hid h1
      have e : ((UInt8.ofNat m).toNat : Int) = (m : Int) := by simp; omega
      have e2 : l.map (fun c => Value.int .u8 (c.toNat : Int)) ++ [.int .u8 (m : Int)] = (l ++ [UInt8.ofNat m]).map (fun c => Value.int .u8 (c.toNat : Int)) := by
        rw [List.map_append, List.map_cons, List.map_nil, e]
      have HE2 := Lib.hid e2
      clear h1 e e2
      go_wp2_with (at_builtin; refine wpList_append_own _ rfl _ _ 148 rfl w.heap.size 5 i0 (.int .u8 0) 1 1 Try.underlying148 hi hz0 hz1 hz2 rfl (by decide) _ _ _ rfl (hown.alloc _) ⟨wr.heap.size, 0, none⟩ 1 1 [.int .u8 (m : Int)] rfl rfl (cell_one_new _ _ _) (fun x hx => by simp at hx; subst hx; rfl) (by unfold maxLen; omega) (by omega) (by simp; omega) ?_; intro v' w1 hown' hgrow _; obtain ⟨g, cap, rfl, hg⟩ := owned_shape hown' (by omega); rw [HE2.out] at hown'; have hback := (Row8.of_owns hown').back (P := Try.prog) 148 9 5 cap Try.underlying148 Try.underlying5 Try.underlying9 (l.length + 1) (by simp))
      go_ret
      refine ⟨?_, (HB.out.alloc hsz _).grown (by assumption) (by simp; omega) (own_block hown)⟩
      rw [HE1.out]
      rfl

end Go.Proofs.Ytkdhchdhgmaolaa.Pk
