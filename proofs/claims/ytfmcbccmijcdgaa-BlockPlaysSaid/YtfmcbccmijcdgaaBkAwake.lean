/-
  awake: the chapter's examples, as the laws ask them first.
-/
import Derived.Test.YtfmcbccmijcdgaaBkPair
namespace Go.Proofs.Ytfmcbccmijcdgaa.Bk
open Go.RowKit

def LX : List UInt8 := secT [120, 120, 120, 120, 120]
def LY : List UInt8 := secT [121, 121, 121, 121, 121]
def LZ : List UInt8 := secT [121, 121, 121]
def aw0 : Dev := newD 2
def aw1 : Dev := { newD 2 with pend := [(0, LX)] }
def aw2 : Dev := { newD 2 with pend := [(0, LX), (0, LY)] }
def awA : Dev := killD aw2 1 (-1) 0
def awB : Dev := killD aw2 0 1 3
theorem awA_0 : awA.dur.getD 0 [] = LX := by decide +kernel
theorem awB_0 : awB.dur.getD 0 [] = LZ := by decide +kernel
theorem awA_len : awA.dur.length = 2 := by decide +kernel
theorem awB_len : awB.dur.length = 2 := by decide +kernel
theorem awA_ref : refE awA 0 = 0 := by decide +kernel
theorem awB_ref : refE awB 0 = 0 := by decide +kernel
theorem aw_w1 : writeD aw0 0 LX = aw1 ∧ writeE aw0 0 64 = 0 := ⟨by unfold writeD; rw [if_neg (by decide +kernel), if_neg (by decide +kernel)]; rfl, by decide +kernel⟩
theorem aw_w2 : writeD aw1 0 LY = aw2 ∧ writeE aw1 0 64 = 0 := ⟨by unfold writeD; rw [if_neg (by decide +kernel), if_neg (by decide +kernel)]; rfl, by decide +kernel⟩
theorem LX_len : LX.length = 64 := by decide +kernel
theorem LY_len : LY.length = 64 := by decide +kernel

/-- What the walk needs, of texts and devices that it need not know. -/
structure AwF (SX SY SZ : ByteArray) (d0 d1 d2 dA dB : Dev) : Prop where
  sx : ∀ w, Calls Try.prog 20 #[.string ⟨#[120, 120, 120, 120, 120]⟩] w fun e w' => e = .returned (.string SX) ∧ Below w.heap.size w w'
  sy : ∀ w, Calls Try.prog 20 #[.string ⟨#[121, 121, 121, 121, 121]⟩] w fun e w' => e = .returned (.string SY) ∧ Below w.heap.size w w'
  sz : ∀ w, Calls Try.prog 20 #[.string ⟨#[121, 121, 121]⟩] w fun e w' => e = .returned (.string SZ) ∧ Below w.heap.size w w'
  new : ∀ w, Calls Try.prog 5 #[.int .i64 2] w fun e w' => e = .returned (.pointer (some ⟨w.heap.size + 1, 0, none⟩)) ∧ DevAt w' (w.heap.size + 1) w.heap.size (.slice none 0 0) d0 ∧ Below w.heap.size w w'
  w1 : ∀ w D R pv, DevAt w D R pv d0 → Calls Try.prog 19 #[.pointer (some ⟨D, 0, none⟩), .int .i64 0, .string SX] w fun e w' =>
      e = .returned (.int .i64 0) ∧ (∃ pv', DevAt w' D R pv' d1 ∧ Fresh w pv pv') ∧ Onl (blocks D R pv) w w'
  w2 : ∀ w D R pv, DevAt w D R pv d1 → Calls Try.prog 19 #[.pointer (some ⟨D, 0, none⟩), .int .i64 0, .string SY] w fun e w' =>
      e = .returned (.int .i64 0) ∧ (∃ pv', DevAt w' D R pv' d2 ∧ Fresh w pv pv') ∧ Onl (blocks D R pv) w w'
  kA : ∀ w D R pv, DevAt w D R pv d2 → Calls Try.prog 11 #[.pointer (some ⟨D, 0, none⟩), .agg #[.int .u64 1, .int .i64 (-1), .int .i64 0]] w fun e w' =>
      e = .returned (.tuple #[]) ∧ DevAt w' D R (.slice none 0 0) dA ∧ Onl [D, R] w w'
  kB : ∀ w D R pv, DevAt w D R pv d2 → Calls Try.prog 11 #[.pointer (some ⟨D, 0, none⟩), .agg #[.int .u64 0, .int .i64 1, .int .i64 3]] w fun e w' =>
      e = .returned (.tuple #[]) ∧ DevAt w' D R (.slice none 0 0) dB ∧ Onl [D, R] w w'
  rA : ∀ w D R, DevAt w D R (.slice none 0 0) dA → Calls Try.prog 7 #[.pointer (some ⟨D, 0, none⟩), .int .i64 0] w fun e w' => e = .returned (.tuple #[.string SX, .int .i64 0]) ∧ Below w.heap.size w w'
  rB : ∀ w D R, DevAt w D R (.slice none 0 0) dB → Calls Try.prog 7 #[.pointer (some ⟨D, 0, none⟩), .int .i64 0] w fun e w' => e = .returned (.tuple #[.string SZ, .int .i64 0]) ∧ Below w.heap.size w w'
  n : ∀ w D R, DevAt w D R (.slice none 0 0) dA → Calls Try.prog 26 #[.pointer (some ⟨D, 0, none⟩)] w fun e w' => e = .returned (.int .i64 2) ∧ w = w'

theorem awF : AwF (S LX) (S LY) (S LZ) aw0 aw1 aw2 awA awB where
  sx := fun w => sector_any ⟨#[120, 120, 120, 120, 120]⟩ (by decide +kernel) w
  sy := fun w => sector_any ⟨#[121, 121, 121, 121, 121]⟩ (by decide +kernel) w
  sz := fun w => sector_any ⟨#[121, 121, 121]⟩ (by decide +kernel) w
  new := fun w => new_any 2 w
  w1 := fun w D R pv h => by
    have := write_any h (by decide +kernel) 0 (S LX)
    rwa [S_toList, S_size, LX_len, aw_w1.1, aw_w1.2] at this
  w2 := fun w D R pv h => by
    have := write_any h (by decide +kernel) 0 (S LY)
    rwa [S_toList, S_size, LY_len, aw_w2.1, aw_w2.2] at this
  kA := fun w D R pv h => kill_any h (by decide +kernel) 1 (by omega) (-1) 0
  kB := fun w D R pv h => kill_any h (by decide +kernel) 0 (by omega) 1 3
  rA := fun w D R h => by
    have := read_now h 0 awA_ref (by rw [awA_len]; omega)
    rwa [awA_0] at this
  rB := fun w D R h => by
    have := read_now h 0 awB_ref (by rw [awB_len]; omega)
    rwa [awB_0] at this
  n := fun w D R h => by
    have := sectors_any h
    rwa [awA_len] at this

set_option maxRecDepth 100000 in
set_option maxHeartbeats 1600000 in
theorem awake_f {SX SY SZ : ByteArray} {d0 d1 d2 dA dB : Dev} (F : AwF SX SY SZ d0 d1 d2 dA dB) (hd0 : d0 = newD 2) (w : World) :
    Calls Try.prog 4 #[] w fun e w' => e = .returned (.bool true) ∧ Below w.heap.size w w' := by
  have HD0 := Lib.hid hd0
  clear hd0
  go_enter Try.func4, Try.ntmps4
  go_wp2_with fail
  refine (F.new _).mono ?_
  rintro e w1 ⟨rfl, k1, b1⟩
  have K1 := Lib.hid k1
  have B1 := Lib.hid b1
  clear k1 b1
  go_wp2_with fail
  refine (F.new _).mono ?_
  rintro e w2 ⟨rfl, k2, b2⟩
  have K2 := Lib.hid k2
  have B2 := Lib.hid b2
  clear k2 b2
  go_wp2_with fail
  have hst : Aw d0 d2 (w.heap.size + 1) w.heap.size (w1.heap.size + 1) w1.heap.size w2.heap.size w 0 (w2.alloc (.cells #[.pointer (some ⟨w.heap.size + 1, 0, none⟩), .pointer (some ⟨w1.heap.size + 1, 0, none⟩)] 24)) := by
    have hlt1 := K1.out.lt (w.heap.size + 1) (mem_blocks.2 (.inl rfl))
    have hlt2 := K2.out.lt (w1.heap.size + 1) (mem_blocks.2 (.inl rfl))
    have t := Two.new (HD0.out ▸ K1.out) B1.out (HD0.out ▸ K2.out) B2.out
    rw [← HD0.out] at t
    refine ⟨_, _, (by rw [if_neg (by omega), if_neg (by omega)]; exact t.later ((Onl.refl [] w2).alloc _)), ?_, ?_, heap_alloc_new w2 _, ?_⟩
    · simp only [mem_blocks, Value.ownBlock]; simp; omega
    · simp only [mem_blocks, Value.ownBlock]; simp; omega
    · exact (B1.out.trans (B2.out.mono B1.out.size)).alloc (by have := B1.out.size; have := B2.out.size; omega) _
  have HST := Lib.hid hst
  clear hst
  go_loopw [15] (fun i wr => ∃ k : Nat, k ≤ 2 ∧ i = .int .i64 k ∧ Aw d0 d2 (w.heap.size + 1) w.heap.size (w1.heap.size + 1) w1.heap.size w2.heap.size w k wr) (fun i _ => 2 - (intOf i).toNat)
  case atStart => exact ⟨0, by omega, rfl, HST.out⟩
  case round =>
    obtain ⟨k, hkm, rfl, haw⟩ := hrel
    by_cases hk : k < 2
    · obtain ⟨D, R, pv, hcell, hdev, hback⟩ := aw_round haw hk
      have HDEV := Lib.hid hdev
      have HBACK := Lib.hid hback
      clear haw hdev hback
      go_wp2_with fail
      refine (F.sx _).mono ?_
      rintro e w3 ⟨rfl, b3⟩
      have B3 := Lib.hid b3
      clear b3
      go_wp2_with fail
      refine (F.w1 _ _ _ _ (HDEV.out.later (Onl.of_below B3.out []) (by simp))).mono ?_
      rintro e w4 ⟨rfl, ⟨pv4, d4, f4⟩, o4⟩
      have D4 := Lib.hid d4
      have F4 := Lib.hid f4
      have O4 := Lib.hid o4
      clear d4 f4 o4
      go_wp2_with fail
      refine (F.sy _).mono ?_
      rintro e w5 ⟨rfl, b5⟩
      have B5 := Lib.hid b5
      clear b5
      go_wp2_with fail
      refine (F.w2 _ _ _ _ (D4.out.later (Onl.of_below B5.out []) (by simp))).mono ?_
      rintro e w6 ⟨rfl, ⟨pv6, d6, f6⟩, o6⟩
      have D6 := Lib.hid d6
      have F6 := Lib.hid f6
      have O6 := Lib.hid o6
      clear d6 f6 o6
      go_wp2_with fail
      go_roundw
      case rel =>
        refine ⟨k + 1, by omega, by go_num, HBACK.out w6 pv6 D6.out ?_ ?_⟩
        · exact (show Fresh wr pv pv4 from fun x hx => (F4.out x hx).imp id (fun h => Nat.le_trans B3.out.size h)).trans F6.out (by have := B3.out.size; have := O4.out.size; have := B5.out.size; omega)
        · have o1 : Onl (blocks D R pv) wr w5 := ((Onl.of_below B3.out _).trans O4.out).trans (Onl.of_below B5.out _)
          exact o1.chain (fun x hx => (F4.out x hx).imp id (fun h => Nat.le_trans B3.out.size h)) O6.out
      case measure => simp [intOf]; omega
    · obtain rfl : k = 2 := by omega
      obtain ⟨pv1, pv2, two, -, -, -, hb⟩ := haw
      rw [if_pos (by omega), if_pos (by omega)] at two
      have T := Lib.hid two
      have HB := Lib.hid hb
      clear two hb HST
      go_wp2_with fail
      refine (F.kA _ _ _ _ T.out.one).mono ?_
      rintro e w7 ⟨rfl, d7, o7⟩
      have o7' := o7.mono (B' := blocks (w.heap.size + 1) w.heap.size pv1) (by simp [blocks])
      have T7 := Lib.hid (T.out.first HB.out.size d7 (Fresh.nil _ _) o7')
      have HB7 := Lib.hid (HB.out.trans (T.out.below HB.out.size o7'))
      clear d7 o7 o7'
      go_wp2_with fail
      refine (F.kB _ _ _ _ T7.out.two).mono ?_
      rintro e w8 ⟨rfl, d8, o8⟩
      have o8' := o8.mono (B' := blocks (w1.heap.size + 1) w1.heap.size pv2) (by simp [blocks])
      have T8 := Lib.hid (T7.out.swap.first HB7.out.size d8 (Fresh.nil _ _) o8').swap
      have HB8 := Lib.hid (HB7.out.trans (T7.out.swap.below HB7.out.size o8'))
      clear d8 o8 o8' T T7 HB HB7
      go_wp2_with fail
      refine (F.rA _ _ _ T8.out.one).mono ?_
      rintro e w9 ⟨rfl, b9⟩
      have T9 := Lib.hid (T8.out.later (Onl.of_below b9 []))
      have HB9 := Lib.hid (HB8.out.trans (b9.mono HB8.out.size))
      clear b9 T8 HB8
      go_wp2_with fail
      refine (F.rB _ _ _ T9.out.two).mono ?_
      rintro e w10 ⟨rfl, b10⟩
      have T10 := Lib.hid (T9.out.later (Onl.of_below b10 []))
      have HB10 := Lib.hid (HB9.out.trans (b10.mono HB9.out.size))
      clear b10 T9 HB9
      go_wp2_with fail
      refine (F.sx _).mono ?_
      rintro e w11 ⟨rfl, b11⟩
      have T11 := Lib.hid (T10.out.later (Onl.of_below b11 []))
      have HB11 := Lib.hid (HB10.out.trans (b11.mono HB10.out.size))
      clear b11 T10 HB10
      go_wp2_with fail
      refine (F.sz _).mono ?_
      rintro e w12 ⟨rfl, b12⟩
      have T12 := Lib.hid (T11.out.later (Onl.of_below b12 []))
      have HB12 := Lib.hid (HB11.out.trans (b12.mono HB11.out.size))
      clear b12 T11 HB11
      go_wp2_with fail
      refine (F.n _ _ _ T12.out.one).mono ?_
      rintro e w13 ⟨rfl, rfl⟩
      go_wp2_with fail
      go_ret
      exact ⟨rfl, HB12.out⟩
theorem awake_any (w : World) :
    Calls Try.prog 4 #[] w fun e w' => e = .returned (.bool true) ∧ Below w.heap.size w w' := awake_f awF rfl w

end Go.Proofs.Ytfmcbccmijcdgaa.Bk
