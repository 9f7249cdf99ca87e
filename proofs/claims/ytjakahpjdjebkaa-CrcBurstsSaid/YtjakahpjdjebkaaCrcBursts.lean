/-
  The walk over the law on bursts: whatever is turned within four bytes in a row is seen.
-/
import Derived.Test.YtjakahpjdjebkaaCrcLaws
import Derived.RegionTactic
import Derived.BigRegion
namespace Go.Proofs.Ytjakahpjdjebkaa.Crc
open Go.RowKit

/-- A row of bytes in memory. -/
def Row8 (w : World) (b : Nat) (l : List UInt8) : Prop :=
  ∀ j, j < l.length → w.cell? ⟨b, j, none⟩ = some (.int .u8 ((l.getD j 0).toNat : Int)) ∧ w.frozen? ⟨b, j, none⟩ = false

theorem conv_row (w : World) (s : ByteArray) : ∃ (cap : Nat) (w2 : World),
    (convert 9 30 (.string s)).run Try.prog w = .ok (.slice (some ⟨w.heap.size, 0, none⟩) s.size cap) w2 ∧
    Row8 w2 w.heap.size s.data.toList ∧ Below w.heap.size w w2 := by
  refine ⟨_, _, run_bytes_of_string w 9 30 5 s Try.underlying9 Try.underlying30 Try.underlying5, ?_, ((Below.refl _ _).drew).alloc (Nat.le_refl _) _⟩
  intro j hj
  have hjd : j < s.data.size := by simpa using hj
  generalize grownCap w s.size 0 5 = cap
  have h := bytesRow_at s cap j hjd
  have e : (w.drew.alloc (.cells (bytesRow s cap) 5 ((bytesRow s cap).size, (bytesRow s cap).size + 1))).heap[w.heap.size]? = some (.cells (bytesRow s cap) 5 ((bytesRow s cap).size, (bytesRow s cap).size + 1)) := by
    show (w.heap.push _)[w.heap.size]? = _
    simp
  refine ⟨?_, ?_⟩
  · simp only [World.cell?, e]
    rw [h]
    simp [List.getD, Array.getElem?_eq_getElem hjd]
  · refine (World.frozen?_alloc_mark w.drew (bytesRow s cap) 5 _ _ j).trans ?_
    have hlt : j < (bytesRow s cap).size := (Array.getElem?_eq_some_iff.1 h).1
    simp
    omega

theorem Row8_set (w : World) (b : Nat) (l : List UInt8) (k : Nat) (t : BitVec 32) (n : Nat) (h : k + (n + 1) ≤ l.length) (hr : Row8 w b (burst l k t n)) (v : Int)
    (hv : v = ((l.getD (k + n) 0 ^^^ tb t n).toNat : Int)) : Row8 (w.setCell ⟨b, k + n, none⟩ (.int .u8 v)) b (burst l k t (n + 1)) := by
  intro j hj
  rw [burst_length _ _ _ _ h] at hj
  have hj0 := hr j (by rw [burst_length _ _ _ _ (by omega)]; exact hj)
  rw [burst_get _ _ _ _ (by omega)] at hj0
  rw [burst_get _ _ _ _ h]
  refine ⟨?_, by rw [World.frozen?_setCell]; exact hj0.2⟩
  by_cases e : j = k + n
  · subst e
    rw [World.cell?_setCell_same (w := w) (a := ⟨b, k + n, none⟩) (v := .int .u8 v) (h := hj0.1), hv, if_pos ⟨by omega, by omega⟩]
    rw [show k + n - k = n by omega]
  · rw [World.cell?_setCell_other (w := w) (a := ⟨b, k + n, none⟩) (b := ⟨b, j, none⟩) (v := .int .u8 v) (h := by intro h; injection h with _ h2 _; exact e h2.symm), hj0.1]
    by_cases h1 : k ≤ j ∧ j < k + n
    · rw [if_pos h1, if_pos ⟨h1.1, by omega⟩]
    · rw [if_neg h1, if_neg (by omega)]

theorem Row8_later {w w' : World} {b : Nat} {l : List UInt8} (h : Row8 w b l) (hb : Below w.heap.size w w') : Row8 w' b l := by
  intro j hj
  have h1 := h j hj
  have hlt := World.block_lt_of_cell? w _ h1.1
  exact ⟨(hb.cell (p := ⟨b, j, none⟩) hlt).trans h1.1, (hb.frozen (p := ⟨b, j, none⟩) hlt).trans h1.2⟩

theorem turned (c : UInt8) (turn : Int) (wt : W32 turn) (k : Nat) (_hk : k < 4) :
    bits .xor .u8 (c.toNat : Int) (turn / 2 ^ (8 * k) % 256) = ((c ^^^ tb (B turn) k).toNat : Int) := by
  obtain ⟨h0, h1⟩ := wt
  have hb := B_nat turn h0 h1
  obtain ⟨n, rfl⟩ := Int.eq_ofNat_of_zero_le h0
  have hc : c.toNat < 256 := c.toNat_lt
  have e1 : ((n : Int) / 2 ^ (8 * k) % 256) = ((n / 2 ^ (8 * k) % 256 : Nat) : Int) := by simp
  rw [e1, u8_xor_nat _ _ hc (by omega)]
  unfold tb
  rw [hb, UInt8.toNat_xor]
  simp

theorem place_of (a : Int) (n : Nat) (h : 4 ≤ n) (h2 : n ≤ 20000) : ∃ K : Nat, wrap64 ((IntKind.u64.wrap a).tmod ((n : Int) - 3)) = (K : Int) ∧ K + 4 ≤ n := by
  rw [IntKind.wrap_u64]
  have h0 : 0 ≤ a % 18446744073709551616 := by omega
  rw [Int.tmod_eq_emod_of_nonneg h0]
  generalize a % 18446744073709551616 = x at *
  have h3 : 0 ≤ x % ((n : Int) - 3) := Int.emod_nonneg _ (by omega)
  have h4 : x % ((n : Int) - 3) < (n : Int) - 3 := Int.emod_lt_of_pos _ (by omega)
  generalize x % ((n : Int) - 3) = y at *
  obtain ⟨K, rfl⟩ := Int.eq_ofNat_of_zero_le h3
  exact ⟨K, by unfold wrap64; omega, by omega⟩

set_option maxRecDepth 100000 in
theorem CrcBursts_walk (s : ByteArray) (at_ turn : Int) (hs : s.size ≤ maxLen) (_ha : (Lit.int .i64 at_).wf = true) (ht : (Lit.int .u32 turn).wf = true) (w : World) :
    Calls Try.prog 7 #[.string s, .int .i64 at_, .int .u32 turn] w fun e w' => e = .returned (.bool true) ∧ Below w.heap.size w w' := by
  have wt : W32 turn := by
    simp [Lit.wf, IntKind.min, IntKind.max, IntKind.signed, IntKind.bits] at ht
    exact ⟨by omega, by omega⟩
  have HS := Lib.hid hs
  clear ht hs
  by_cases hout : 20000 < s.size ∨ s.size < 4 ∨ turn = 0
  · rcases (show 20000 < s.size ∨ (s.size ≤ 20000 ∧ s.size < 4) ∨ (s.size ≤ 20000 ∧ 4 ≤ s.size ∧ turn = 0) by omega) with h1 | ⟨h1, h2⟩ | ⟨h1, h2, h3⟩
    all_goals
      clear hout
      try (have h4 : (turn == 0) = true := by simpa using h3)
      try (clear h3)
      go_enter Try.func7, Try.ntmps7
      go_wp2_with fail
      refine (awake_any _).mono ?_
      rintro e w1 ⟨rfl, b1⟩
      have B1 := Lib.hid b1
      clear b1
      go_wp2_with fail
      refine (awake_any _).mono ?_
      rintro e w2 ⟨rfl, b2⟩
      have B2 := Lib.hid b2
      clear b2
      go_wp2_with fail
      go_ret
      exact ⟨rfl, two B1.out B2.out⟩
  · have h1 : s.size ≤ 20000 := by omega
    have h2 : 4 ≤ s.size := by omega
    have h3 : turn ≠ 0 := by omega
    clear hout
    have h4 : (turn == 0) = false := by simpa using h3
    have h5 := wt.1
    have H3 := Lib.hid h3
    clear h3
    obtain ⟨K, hK, hK2⟩ := place_of at_ s.size h2 h1
    go_enter Try.func7, Try.ntmps7
    go_wp2_with fail
    refine (awake_any _).mono ?_
    rintro e w1 ⟨rfl, b1⟩
    have B1 := Lib.hid b1
    clear b1
    obtain ⟨cap, w2, hconv, hrow, hbel⟩ := conv_row w1 s
    have HR := Lib.hid hrow
    have B2 := Lib.hid hbel
    clear hrow hbel
    go_wp2_with fail
    rw [hK]
    have hlen : s.data.toList.length = s.size := by simp
    have HL := Lib.hid hlen
    clear hK hconv hlen
    have h6 := burst_zero s.data.toList K (B turn)
    go_loopw [9, 35] (fun z i wr => ∃ k : Nat, k ≤ 4 ∧ i = .int .i64 k ∧ Row8 wr w1.heap.size (burst s.data.toList K (B turn) k) ∧ Below w1.heap.size w1 wr) (fun _ i _ => 4 - (intOf i).toNat)
    case atStart => exact ⟨0, by omega, rfl, by rw [h6]; exact HR.out, B2.out⟩
    case round =>
      obtain ⟨k, hk, rfl, hr, hb⟩ := hrel
      have HR2 := Lib.hid hr
      have HB2 := Lib.hid hb
      clear hr hb h6
      by_cases hlt : k < 4
      · have hcf := HR2.out (K + k) (by rw [burst_length _ _ _ _ (by rw [HL.out]; omega), HL.out]; omega)
        rw [burst_get _ _ _ _ (by rw [HL.out]; omega), if_neg (by omega)] at hcf
        obtain ⟨hc, hf⟩ := hcf
        generalize hcv : s.data.toList.getD (K + k) 0 = c at *
        have HCV := Lib.hid hcv
        clear hcv
        have hb := byte_lt c
        go_wp2_with fail
        go_region
        go_wp2
        go_roundw
        case rel =>
          refine ⟨k + 1, by omega, by go_num, ?_, ?_⟩
          · refine Row8_set _ _ _ _ _ _ (by rw [HL.out]; omega) HR2.out _ ?_
            rw [HCV.out]
            exact turned c turn wt k (by omega)
          · exact ((HB2.out.drew).setCell (by simp) _)
        case measure => simp [intOf]; omega
      · obtain rfl : k = 4 := by omega
        go_wp2_with fail
        refine (awake_any _).mono ?_
        rintro e w3 ⟨rfl, b3⟩
        have B3 := Lib.hid b3
        clear b3
        have hrow3 : Row8 w3 w1.heap.size (burst s.data.toList K (B turn) 4) := Row8_later HR2.out B3.out
        have hlen4 := burst_length s.data.toList K (B turn) 4 (by rw [HL.out]; omega)
        rw [HL.out] at hlen4
        have hback := run_convert_bytes_back (P := Try.prog) w3 30 9 5 ⟨w1.heap.size, 0, none⟩ cap (burst s.data.toList K (B turn) 4) Try.underlying30 Try.underlying5 Try.underlying9 (by
          intro j hj
          have := (hrow3 j hj).1
          have hplain : (⟨w1.heap.size, 0, none⟩ : Addr).add j = ⟨w1.heap.size, j, none⟩ := by unfold Addr.add; split <;> simp_all
          rw [hplain]
          simpa [List.getD, List.getElem?_eq_getElem hj] using this)
        rw [hlen4] at hback
        have HL4 := Lib.hid hlen4
        clear hlen4 hrow3
        have hne : (V (sum (burst s.data.toList K (B turn) 4)) != V (sum s.data.toList)) = true := by
          rw [bne, beq_V]
          simp only [Bool.not_eq_true', beq_eq_false_iff_ne]
          refine sum_burst _ _ _ (by rw [HL.out]; omega) ?_
          intro e
          apply H3.out
          have := V_B turn wt.1 wt.2
          rw [e] at this
          rw [← this]
          rfl
        go_wp2_with fail
        refine (sum_any _ (by unfold maxLen; show (burst s.data.toList K (B turn) 4).toArray.size ≤ _; simp [HL4.out]; omega) _).mono ?_
        rintro e w4 ⟨rfl, b4⟩
        have B4 := Lib.hid b4
        clear b4 hback
        go_wp2_with fail
        refine (sum_any _ HS.out _).mono ?_
        rintro e w5 ⟨rfl, b5⟩
        have B5 := Lib.hid b5
        clear b5
        go_wp2_with fail
        go_ret
        exact ⟨rfl, two (two (two (two B1.out HB2.out) B3.out) B4.out) B5.out⟩

end Go.Proofs.Ytjakahpjdjebkaa.Crc
