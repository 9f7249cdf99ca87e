/-
  The walk over the law FrameTurns.
-/
import Derived.Test.YtndnfalkpkbpjabDoorFrBack
namespace Go.Proofs.YtndnfalkpkbpjabDoor.Fr
open Go.RowKit
open Crc (burst tb B W32)

theorem conv_row (w : World) (s : ByteArray) : ∃ (cap : Nat) (w2 : World),
    (convert 9 49 (.string s)).run Tryd.prog w = .ok (.slice (some ⟨w.heap.size, 0, none⟩) s.size cap) w2 ∧
    Row8 w2 w.heap.size s.data.toList ∧ Below w.heap.size w w2 := by
  refine ⟨_, _, run_bytes_of_string w 9 49 5 s Tryd.underlying9 Tryd.underlying49 Tryd.underlying5, ?_, ((Below.refl _ _).drew).alloc (Nat.le_refl _) _⟩
  intro j hj
  have hjd : j < s.data.size := by simpa using hj
  generalize grownCap w s.size 0 5 = cap
  have h := bytesRow_at s cap j hjd
  have e : (w.drew.alloc (.cells (bytesRow s cap) 5 ((bytesRow s cap).size, (bytesRow s cap).size + 1))).heap[w.heap.size]? = some (.cells (bytesRow s cap) 5 ((bytesRow s cap).size, (bytesRow s cap).size + 1)) := by
    show (w.heap.push _)[w.heap.size]? = _
    simp
  refine ⟨?_, ?_⟩
  · simp only [World.cell?, e]
    rw [h]
    simp [List.getD, Array.getElem?_eq_getElem hjd]
  · refine (World.frozen?_alloc_mark w.drew (bytesRow s cap) 5 _ _ j).trans ?_
    have hlt : j < (bytesRow s cap).size := (Array.getElem?_eq_some_iff.1 h).1
    simp
    omega

theorem Row8_burst (w : World) (b : Nat) (l : List UInt8) (k : Nat) (t : BitVec 32) (n : Nat) (h : k + (n + 1) ≤ l.length) (hr : Row8 w b (burst l k t n)) (v : Int)
    (hv : v = ((l.getD (k + n) 0 ^^^ tb t n).toNat : Int)) : Row8 (w.setCell ⟨b, k + n, none⟩ (.int .u8 v)) b (burst l k t (n + 1)) := by
  intro j hj
  rw [Crc.burst_length _ _ _ _ h] at hj
  have hj0 := hr j (by rw [Crc.burst_length _ _ _ _ (by omega)]; exact hj)
  rw [Crc.burst_get _ _ _ _ (by omega)] at hj0
  rw [Crc.burst_get _ _ _ _ h]
  refine ⟨?_, by rw [World.frozen?_setCell]; exact hj0.2⟩
  by_cases e : j = k + n
  · subst e
    rw [World.cell?_setCell_same (w := w) (a := ⟨b, k + n, none⟩) (v := .int .u8 v) (h := hj0.1), hv, if_pos ⟨by omega, by omega⟩]
    rw [show k + n - k = n by omega]
  · rw [World.cell?_setCell_other (w := w) (a := ⟨b, k + n, none⟩) (b := ⟨b, j, none⟩) (v := .int .u8 v) (h := by intro h; injection h with _ h2 _; exact e h2.symm), hj0.1]
    by_cases h1 : k ≤ j ∧ j < k + n
    · rw [if_pos h1, if_pos ⟨h1.1, by omega⟩]
    · rw [if_neg h1, if_neg (by omega)]

theorem turned_byte (c : UInt8) (turn : Nat) (ht : turn < 4294967296) (k : Nat) :
    bits .xor .u8 (c.toNat : Int) ((turn : Int) / 2 ^ (8 * k) % 256) = ((c ^^^ tb (B turn) k).toNat : Int) := by
  have hb := Crc.B_nat (turn : Int) (by omega) (by omega)
  have hc : c.toNat < 256 := c.toNat_lt
  have e1 : ((turn : Int) / 2 ^ (8 * k) % 256) = ((turn / 2 ^ (8 * k) % 256 : Nat) : Int) := by simp
  rw [e1, u8_xor_nat _ _ hc (by omega)]
  unfold tb
  rw [hb, UInt8.toNat_xor]
  simp

theorem B_ne (turn : Nat) (ht : turn < 4294967296) (h : turn ≠ 0) : B turn ≠ 0#32 := by
  intro e
  have := Crc.V_B (turn : Int) (by omega) (by omega)
  rw [e] at this
  apply h
  have h0 : Crc.V 0#32 = 0 := rfl
  rw [h0] at this
  omega

set_option maxRecDepth 100000 in
set_option maxHeartbeats 3200000 in
/-- FrameTurns, of what plays no part. -/
theorem FrameTurns_out (serial seq : Nat) (kind : Int) (b : ByteArray) (at_ : Int) (turn : Nat) (h1 : serial < 4294967296) (h2 : seq < 18446744073709551616) (hout : 20000 < b.size ∨ putE kind b.size ≠ 0 ∨ turn = 0) (w : World) :
    Calls Tryd.prog 6 #[.agg #[.int .u32 (serial : Int), .int .u64 (seq : Int), .int .i64 kind, .string b], .int .i64 at_, .int .u32 (turn : Int)] w fun e w' => e = .returned (.bool true) ∧ Below w.heap.size w w' := by
  have HB0 := Lib.hid (alloc1 w (.cells #[.int .u32 (serial : Int), .int .u64 (seq : Int), .int .i64 kind, .string b] 26))
  have HU0 := Lib.hid (Fr4.alloc (c0 := .int .u32 (serial : Int)) (c1 := .int .u64 (seq : Int)) (c2 := .int .i64 kind) (c3 := .string b) (T := 26) w)
  have hput := put_any serial seq kind b h1 h2
  generalize S (putS serial seq kind b.data.toList) = sp at *
  generalize putE kind b.size = pe at *
  have HP := Lib.hid hput
  have HO := Lib.hid hout
  clear hput hout h1 h2
  by_cases hc1 : 20000 < b.size
  · go_enter Tryd.func6, Tryd.ntmps6
    go_wp2_with fail
    refine (awake_any _).mono ?_
    rintro e w1 ⟨rfl, b1⟩
    have hU1 := later4 b1 HU0.out
    have B1 := Lib.hid (two HB0.out b1)
    clear b1
    go_wp2_with fail
    refine (HP.out _).mono ?_
    rintro e w2 ⟨rfl, b2⟩
    have hU2 := later4 b2 hU1
    have B2 := Lib.hid (two B1.out b2)
    clear b2 hU1
    go_wp2_with fail
    refine (awake_any _).mono ?_
    rintro e w3 ⟨rfl, b3⟩
    have B3 := Lib.hid (two B2.out b3)
    clear b3
    go_wp2_with fail
    go_ret
    exact ⟨rfl, B3.out⟩
  · have hc1' : decide (20000 < b.size) = false := by simpa using hc1
    have hc1i : decide ((20000 : Int) < (b.size : Int)) = false := by simp; omega
    by_cases hc2 : pe = 0
    · subst hc2
      have h3 : turn = 0 := by have := HO.out; omega
      subst h3
      clear hc1
      go_enter Tryd.func6, Tryd.ntmps6
      go_wp2_with fail
      refine (awake_any _).mono ?_
      rintro e w1 ⟨rfl, b1⟩
      have hU1 := later4 b1 HU0.out
      have B1 := Lib.hid (two HB0.out b1)
      clear b1
      go_wp2_with fail
      refine (HP.out _).mono ?_
      rintro e w2 ⟨rfl, b2⟩
      have hU2 := later4 b2 hU1
      have B2 := Lib.hid (two B1.out b2)
      clear b2 hU1
      go_wp2_with fail
      refine (awake_any _).mono ?_
      rintro e w3 ⟨rfl, b3⟩
      have B3 := Lib.hid (two B2.out b3)
      clear b3
      go_wp2_with fail
      go_ret
      exact ⟨rfl, B3.out⟩
    · have hne : ((pe : Int) == 0) = false := by simp; omega
      have hne2 : ((pe : Int) != 0) = true := by simp; omega
      have hne3 : (pe == 0) = false := by simpa using hc2
      clear hc1 hc2
      go_enter Tryd.func6, Tryd.ntmps6
      go_wp2_with fail
      refine (awake_any _).mono ?_
      rintro e w1 ⟨rfl, b1⟩
      have hU1 := later4 b1 HU0.out
      have B1 := Lib.hid (two HB0.out b1)
      clear b1
      go_wp2_with fail
      refine (HP.out _).mono ?_
      rintro e w2 ⟨rfl, b2⟩
      have hU2 := later4 b2 hU1
      have B2 := Lib.hid (two B1.out b2)
      clear b2 hU1
      go_wp2_with fail
      refine (awake_any _).mono ?_
      rintro e w3 ⟨rfl, b3⟩
      have B3 := Lib.hid (two B2.out b3)
      clear b3
      go_wp2_with fail
      go_ret
      exact ⟨rfl, B3.out⟩

end Go.Proofs.YtndnfalkpkbpjabDoor.Fr
