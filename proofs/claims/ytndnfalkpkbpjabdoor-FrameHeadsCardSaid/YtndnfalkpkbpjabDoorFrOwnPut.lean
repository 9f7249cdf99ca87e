/-
  The walks over package frame's own Put and PutHead.
-/
import Derived.Test.YtndnfalkpkbpjabDoorFrOwn
namespace Go.Proofs.YtndnfalkpkbpjabDoor.Fr
open Go.RowKit

theorem checksumS (l : List UInt8) (h : l.length ≤ 9000000) (w : World) :
    Calls Tryd.prog 18 #[.string (S l)] w fun e w' => e = .returned (.string (S (sumB l))) ∧ Below w.heap.size w w' := by
  have := checksum_any (S l) (by unfold maxLen; rw [S_size]; omega) w
  rwa [S_toList] at this
theorem sectorsB (n : Nat) (h : n ≤ 1048576) (w : World) :
    Calls Tryd.prog 16 #[.int .i64 (n : Int)] w fun e w' => e = .returned (.int .i64 ((n + 84) / 64 : Nat)) ∧ Below w.heap.size w w' := by
  refine (sectors_any n w).mono ?_
  rintro e w' ⟨rfl, rfl⟩
  refine ⟨?_, Below.refl _ _⟩
  unfold secs
  rw [if_neg (by omega), Int.toNat_natCast]
theorem fillS (a b : List UInt8) (n : Nat) (h : a.length + b.length ≤ n) (hn : n ≤ 4000000) (w : World) :
    Calls Tryd.prog 25 #[.string (S a ++ S b), .int .i64 (n : Int)] w fun e w' => e = .returned (.string (S (a ++ (b ++ List.replicate (n - (a.length + b.length)) 0)))) ∧ Below w.heap.size w w' := by
  rw [S_append]
  have := fill_any (S (a ++ b)) n (by rw [S_size]; simpa using h) hn w
  rw [S_toList, S_size, List.length_append, List.append_assoc] at this
  exact this

set_option maxRecDepth 100000 in
set_option maxHeartbeats 1600000 in
/-- Put. -/
theorem put_any (serial seq : Nat) (kind : Int) (b : ByteArray) (h1 : serial < 4294967296) (h2 : seq < 18446744073709551616) (w : World) :
    Calls Tryd.prog 15 #[.agg #[.int .u32 (serial : Int), .int .u64 (seq : Int), .int .i64 kind, .string b]] w fun e w' =>
      e = .returned (.tuple #[.string (S (putS serial seq kind b.data.toList)), .int .i64 (putE kind b.size : Nat)]) ∧ Below w.heap.size w w' := by
  have HL := Lib.hid (list_size b)
  have hb0 := (Below.refl w.heap.size w).alloc (Nat.le_refl _) (.cells #[.int .u32 (serial : Int), .int .u64 (seq : Int), .int .i64 kind, .string b] 26)
  have HB0 := Lib.hid hb0
  clear hb0
  by_cases hc1 : 1048576 < b.size
  · have he : putE kind b.size = 5 := by simp [putE, hc1]
    have hs : putS serial seq kind b.data.toList = [] := by unfold putS; rw [HL.out, he]; rfl
    rw [he, hs]
    clear he hs
    go_enter Tryd.func15, Tryd.ntmps15
    go_wp2_with fail
    go_ret2
    exact ⟨rfl, HB0.out⟩
  · have hc1' : b.size ≤ 1048576 := by omega
    by_cases hc2 : kind < 0
    · have he : putE kind b.size = 2 := by simp [putE, hc1, hc2]
      have hs : putS serial seq kind b.data.toList = [] := by unfold putS; rw [HL.out, he]; rfl
      rw [he, hs]
      clear he hs
      go_enter Tryd.func15, Tryd.ntmps15
      go_wp2_with fail
      go_ret2
      exact ⟨rfl, HB0.out⟩
    · have hc2' : decide (kind < 0) = false := by simpa using hc2
      by_cases hc3 : 255 < kind
      · have he : putE kind b.size = 2 := by simp [putE, hc1, hc3]
        have hs : putS serial seq kind b.data.toList = [] := by unfold putS; rw [HL.out, he]; rfl
        rw [he, hs]
        clear he hs hc2
        go_enter Tryd.func15, Tryd.ntmps15
        go_wp2_with fail
        go_ret2
        exact ⟨rfl, HB0.out⟩
      · have he : putE kind b.size = 0 := by simp [putE, hc1]; omega
        have hs : putS serial seq kind b.data.toList = unitL serial seq kind.toNat b.data.toList := by unfold putS; rw [HL.out, he]; rfl
        obtain ⟨K, rfl⟩ := Int.eq_ofNat_of_zero_le (show 0 ≤ kind by omega)
        rw [he, hs]
        rw [Int.toNat_natCast]
        have hK : K ≤ 255 := by omega
        have u1 : U64 serial := ⟨by omega⟩
        have u2 : U64 seq := ⟨h2⟩
        have u3 : U64 K := ⟨by omega⟩
        have u4 : U64 b.size := ⟨by omega⟩
        have h17 : 17 + b.size ≤ 9223372036854775807 := by omega
        have h18 : b.size ≤ 9223372036854775790 := by omega
        have h19 : ¬ (9223372036854775807 < 17 + b.size) := by omega
        have h20 : ¬ (9223372036854775790 < b.size) := by omega
        have p1 : IntKind.u64.wrap (serial : Int) = serial := by rw [IntKind.wrap_u64]; omega
        have p3 : IntKind.u64.wrap (K : Int) = K := by rw [IntKind.wrap_u64]; omega
        have p4 : IntKind.u64.wrap (b.size : Int) = b.size := by rw [IntKind.wrap_u64]; omega
        obtain ⟨M, hM⟩ : ∃ M, (b.size + 84) / 64 = M := ⟨_, rfl⟩
        have hM2 : M ≤ 16385 := by omega
        have p5 : IntKind.i64.wrap ((M : Int) * 64) = (M : Int) * 64 := by rw [IntKind.wrap_i64]; omega
        have hroom : M * 64 = room b.size := by unfold room; rw [hM]
        clear he hs hc1 hc2 hc2' hc3 h1 h2
        have hbody : S (be 4 serial) ++ S (be 8 seq) ++ S (be 1 K) ++ S (be 4 b.size) ++ b = S (bodyL serial seq K b.data.toList) := by
          have e : S (bodyL serial seq K b.data.toList) = S (be 4 serial ++ be 8 seq ++ be 1 K ++ be 4 b.size ++ b.data.toList) := by
            unfold bodyL; rw [HL.out]; simp
          rw [e, ← S_append, ← S_append, ← S_append, ← S_append, S_list]
        have HBODY := Lib.hid hbody
        clear hbody
        have hbl : (bodyL serial seq K b.data.toList).length = 17 + b.size := by rw [bodyL_length, HL.out]
        have hr := room_ge b.size
        have hr2 : room b.size ≤ 2000000 := by unfold room; omega
        have hsec := sectorsB b.size hc1'
        rw [hM] at hsec
        have hck := checksumS (bodyL serial seq K b.data.toList) (by omega)
        have hfill := fillS (sumB (bodyL serial seq K b.data.toList)) (bodyL serial seq K b.data.toList) (M * 64) (by rw [sumB_length]; omega) (by omega)
        have hunit : sumB (bodyL serial seq K b.data.toList) ++ (bodyL serial seq K b.data.toList ++ List.replicate (M * 64 - ((sumB (bodyL serial seq K b.data.toList)).length + (bodyL serial seq K b.data.toList).length)) 0) = unitL serial seq K b.data.toList := by
          unfold unitL
          rw [sumB_length, hbl, hroom, HL.out]
          congr 4
          omega
        rw [hunit] at hfill
        rw [show ((M * 64 : Nat) : Int) = (M : Int) * 64 by omega] at hfill
        have hz1 : (S (sumB (bodyL serial seq K b.data.toList))).size = 4 := by rw [S_size, sumB_length]
        have hz2 : (S (bodyL serial seq K b.data.toList)).size ≤ 1048593 := by rw [S_size, hbl]; omega
        have HZ1 := Lib.hid hz1
        have HZ2 := Lib.hid hz2
        clear hunit hbl hroom hr hr2 hM hz1 hz2
        generalize unitL serial seq K b.data.toList = ul at *
        generalize bodyL serial seq K b.data.toList = bl at *
        have HSEC := Lib.hid hsec
        have HCK := Lib.hid hck
        have HFILL := Lib.hid hfill
        have P5 := Lib.hid p5
        clear hsec hck hfill p5
        have k4 := be_sz 4
        have k8 := be_sz 8
        have k1 := be_sz 1
        go_enter Tryd.func15, Tryd.ntmps15
        go_wp2_with fail
        go_region_held3 (fun w' => w'.cell? ⟨w.heap.size, 0, none⟩ = some (.int .u32 (serial : Int)) ∧ w'.cell? ⟨w.heap.size, 1, none⟩ = some (.int .u64 (seq : Int)) ∧ w'.cell? ⟨w.heap.size, 2, none⟩ = some (.int .i64 (K : Int)) ∧ w'.cell? ⟨w.heap.size, 3, none⟩ = some (.string b) ∧ Below w.heap.size w w' ∧ w.heap.size < w'.heap.size)
          (first | exact keep4 (by assumption) (by assumption) | (refine ⟨?_, ?_, ?_, ?_, HB0.out.drew, ?_⟩ <;> simp; done))
          (first
            | (go_at_call 24; (with_reducible refine (digits4 _ ?_ _).mono ?_); assumption; rintro e w' ⟨rfl, hq⟩)
            | (go_at_call 24; (with_reducible refine (digits8 _ ?_ _).mono ?_); assumption; rintro e w' ⟨rfl, hq⟩)
            | (go_at_call 24; (with_reducible refine (digits1 _ ?_ _).mono ?_); assumption; rintro e w' ⟨rfl, hq⟩))
        rename_i hst
        have HST := Lib.hid hst
        clear hst h17 h18 h19 h20 k4 k8 k1 p1 p3 p4
        go_wp2_with fail
        rw [HBODY.out]
        have hck := HCK.out
        have hsec := HSEC.out
        have hfill := HFILL.out
        have p5 := P5.out
        have hz1 := HZ1.out
        have hz2 := HZ2.out
        have q1 : 4 + (S bl).size ≤ 9223372036854775807 := by omega
        have q2 : (S bl).size ≤ 9223372036854775803 := by omega
        have q3 : ¬ (9223372036854775807 < 4 + (S bl).size) := by omega
        have q4 : ¬ (9223372036854775803 < (S bl).size) := by omega
        go_region_held3 (fun w' => w'.cell? ⟨w.heap.size, 0, none⟩ = some (.int .u32 (serial : Int)) ∧ w'.cell? ⟨w.heap.size, 1, none⟩ = some (.int .u64 (seq : Int)) ∧ w'.cell? ⟨w.heap.size, 2, none⟩ = some (.int .i64 (K : Int)) ∧ w'.cell? ⟨w.heap.size, 3, none⟩ = some (.string b) ∧ Below w.heap.size w w' ∧ w.heap.size < w'.heap.size)
          (first | exact keep4 (by assumption) (by assumption) | exact keep4 HST.out (Below.refl _ _).drew)
          (first
            | (go_at_call 18; (with_reducible refine (hck _).mono ?_); rintro e w' ⟨rfl, hq⟩)
            | (go_at_call 16; (with_reducible refine (hsec _).mono ?_); rintro e w' ⟨rfl, hq⟩)
            | (go_at_call 25; (with_reducible refine (hfill _).mono ?_); rintro e w' ⟨rfl, hq⟩))
        rename_i hst2
        go_wp2_with fail
        go_ret2
        exact ⟨rfl, hst2.2.2.2.2.1⟩

/-- What PutHead answers. -/
def headS (serial base prev seq : Nat) : List UInt8 := if isHead serial base prev = true then headL serial base prev seq else []
def headE (serial base prev : Nat) : Nat := if isHead serial base prev = true then 0 else 2

set_option maxRecDepth 100000 in
/-- sound. -/
theorem sound_any (serial base prev seq : Nat) (w : World) :
    Calls Tryd.prog 23 #[.agg #[.int .u32 (serial : Int), .int .u32 (base : Int), .int .u32 (prev : Int), .int .u64 (seq : Int)]] w fun e w' =>
      e = .returned (.bool (isHead serial base prev)) ∧ Below w.heap.size w w' := by
  have hb0 := (Below.refl w.heap.size w).alloc (Nat.le_refl _) (.cells #[.int .u32 (serial : Int), .int .u32 (base : Int), .int .u32 (prev : Int), .int .u64 (seq : Int)] 34)
  have HB0 := Lib.hid hb0
  clear hb0
  by_cases h1 : 1 ≤ base
  · by_cases h2 : base ≤ serial
    · by_cases h3 : prev < serial
      · have he : isHead serial base prev = true := by unfold isHead; simp; omega
        rw [he]
        go_enter Tryd.func23, Tryd.ntmps23
        go_wp2_with fail
        go_ret
        exact ⟨rfl, HB0.out⟩
      · have he : isHead serial base prev = false := by unfold isHead; simp; omega
        rw [he]
        have h3' : decide (prev < serial) = false := by simpa using h3
        clear h3
        go_enter Tryd.func23, Tryd.ntmps23
        go_wp2_with fail
        go_ret
        exact ⟨rfl, HB0.out⟩
    · have he : isHead serial base prev = false := by unfold isHead; simp; omega
      rw [he]
      have h2' : decide (base ≤ serial) = false := by simpa using h2
      clear h2
      go_enter Tryd.func23, Tryd.ntmps23
      go_wp2_with fail
      go_ret
      exact ⟨rfl, HB0.out⟩
  · have he : isHead serial base prev = false := by unfold isHead; simp; omega
    rw [he]
    have h1' : decide (1 ≤ base) = false := by simpa using h1
    have h1'' : decide ((1 : Int) ≤ (base : Int)) = false := by simp; omega
    clear h1
    go_enter Tryd.func23, Tryd.ntmps23
    go_wp2_with fail
    go_ret
    exact ⟨rfl, HB0.out⟩

set_option maxRecDepth 100000 in
set_option maxHeartbeats 1600000 in
/-- PutHead. -/
theorem putHead_any (serial base prev seq : Nat) (h1 : serial < 4294967296) (h2 : base < 4294967296) (h3 : prev < 4294967296) (h4 : seq < 18446744073709551616) (w : World) :
    Calls Tryd.prog 13 #[.agg #[.int .u32 (serial : Int), .int .u32 (base : Int), .int .u32 (prev : Int), .int .u64 (seq : Int)]] w fun e w' =>
      e = .returned (.tuple #[.string (S (headS serial base prev seq)), .int .i64 (headE serial base prev : Nat)]) ∧ Below w.heap.size w w' := by
  have hb0 := (Below.refl w.heap.size w).alloc (Nat.le_refl _) (.cells #[.int .u32 (serial : Int), .int .u32 (base : Int), .int .u32 (prev : Int), .int .u64 (seq : Int)] 34)
  have HB0 := Lib.hid hb0
  clear hb0
  have hso := sound_any serial base prev seq
  have HSO := Lib.hid hso
  clear hso
  cases hh : isHead serial base prev with
  | false =>
    rw [hh] at HSO
    have e1 : headS serial base prev seq = [] := by unfold headS; rw [hh]; rfl
    have e2 : headE serial base prev = 2 := by unfold headE; rw [hh]; rfl
    rw [e1, e2]
    clear e1 e2 hh
    go_enter Tryd.func13, Tryd.ntmps13
    go_wp2_with fail
    refine (HSO.out _).mono ?_
    rintro e w1 ⟨rfl, b1⟩
    have B1 := Lib.hid b1
    clear b1
    go_wp2_with fail
    go_ret2
    exact ⟨rfl, two HB0.out B1.out⟩
  | true =>
    rw [hh] at HSO
    have e1 : headS serial base prev seq = headL serial base prev seq := by unfold headS; rw [hh]; rfl
    have e2 : headE serial base prev = 0 := by unfold headE; rw [hh]; rfl
    rw [e1, e2]
    clear e1 e2 hh
    have u1 : U64 serial := ⟨by omega⟩
    have u2 : U64 base := ⟨by omega⟩
    have u3 : U64 prev := ⟨by omega⟩
    have u4 : U64 seq := ⟨h4⟩
    have p1 : IntKind.u64.wrap (serial : Int) = serial := by rw [IntKind.wrap_u64]; omega
    have p2 : IntKind.u64.wrap (base : Int) = base := by rw [IntKind.wrap_u64]; omega
    have p3 : IntKind.u64.wrap (prev : Int) = prev := by rw [IntKind.wrap_u64]; omega
    clear h1 h2 h3 h4
    obtain ⟨hb, hhb⟩ : ∃ hb, (72 : UInt8) :: (be 4 serial ++ (be 4 base ++ (be 4 prev ++ be 8 seq))) = hb := ⟨_, rfl⟩
    have hlen : hb.length = 21 := by rw [← hhb]; simp [be_length]
    have hfull : hb ++ List.replicate 39 0 = hbodyL serial base prev seq := by rw [← hhb]; unfold hbodyL; simp
    have hbody : (⟨#[72]⟩ : ByteArray) ++ S (be 4 serial) ++ S (be 4 base) ++ S (be 4 prev) ++ S (be 8 seq) = S hb := by
      rw [show (⟨#[72]⟩ : ByteArray) = S [72] from rfl, S_append, S_append, S_append, S_append, ← hhb]; simp
    have HBODY := Lib.hid hbody
    have hfill := fill_any (S hb) 60 (by rw [S_size, hlen]; omega) (by omega)
    rw [S_toList, S_size, hlen] at hfill
    rw [show (60 : Nat) - 21 = 39 from rfl, hfull] at hfill
    have hck := checksumS (hbodyL serial base prev seq) (by rw [hbodyL_length]; omega)
    have hz1 : (S (sumB (hbodyL serial base prev seq))).size = 4 := by rw [S_size, sumB_length]
    have hz2 : (S (hbodyL serial base prev seq)).size = 60 := by rw [S_size, hbodyL_length]
    have hall : S (sumB (hbodyL serial base prev seq)) ++ S (hbodyL serial base prev seq) = S (headL serial base prev seq) := by rw [S_append]; rfl
    have HALL := Lib.hid hall
    have HFILL := Lib.hid hfill
    have HCK := Lib.hid hck
    have HZ1 := Lib.hid hz1
    have HZ2 := Lib.hid hz2
    clear hbody hhb hlen hfull hfill hck hz1 hz2 hall
    generalize headL serial base prev seq = hl at *
    generalize hbodyL serial base prev seq = bl at *
    have k4 := be_sz 4
    have k8 := be_sz 8
    have k0 : (⟨#[72]⟩ : ByteArray).size = 1 := rfl
    go_enter Tryd.func13, Tryd.ntmps13
    go_wp2_with fail
    refine (HSO.out _).mono ?_
    rintro e w1 ⟨rfl, b1⟩
    have hst : w1.cell? ⟨w.heap.size, 0, none⟩ = some (.int .u32 (serial : Int)) ∧ w1.cell? ⟨w.heap.size, 1, none⟩ = some (.int .u32 (base : Int)) ∧ w1.cell? ⟨w.heap.size, 2, none⟩ = some (.int .u32 (prev : Int)) ∧ w1.cell? ⟨w.heap.size, 3, none⟩ = some (.int .u64 (seq : Int)) ∧ Below w.heap.size w w1 ∧ w.heap.size < w1.heap.size :=
      keep4 ⟨by simp, by simp, by simp, by simp, HB0.out, by simp⟩ b1
    have HST := Lib.hid hst
    clear hst b1
    go_wp2_with fail
    go_region_held3 (fun w' => w'.cell? ⟨w.heap.size, 0, none⟩ = some (.int .u32 (serial : Int)) ∧ w'.cell? ⟨w.heap.size, 1, none⟩ = some (.int .u32 (base : Int)) ∧ w'.cell? ⟨w.heap.size, 2, none⟩ = some (.int .u32 (prev : Int)) ∧ w'.cell? ⟨w.heap.size, 3, none⟩ = some (.int .u64 (seq : Int)) ∧ Below w.heap.size w w' ∧ w.heap.size < w'.heap.size)
      (first | exact keep4 (by assumption) (by assumption) | exact keep4 HST.out (Below.refl _ _).drew)
      (first
        | (go_at_call 24; (with_reducible refine (digits4 _ ?_ _).mono ?_); assumption; rintro e w' ⟨rfl, hq⟩)
        | (go_at_call 24; (with_reducible refine (digits8 _ ?_ _).mono ?_); assumption; rintro e w' ⟨rfl, hq⟩))
    rename_i hst
    have HBEL := Lib.hid hst.2.2.2.2.1
    clear hst k4 k8 k0 p1 p2 p3
    go_wp2_with fail
    rw [HBODY.out]
    refine (HFILL.out _).mono ?_
    rintro e w3 ⟨rfl, b3⟩
    have B3 := Lib.hid b3
    clear b3
    go_wp2_with fail
    refine (HCK.out _).mono ?_
    rintro e w4 ⟨rfl, b4⟩
    have B4 := Lib.hid b4
    clear b4
    have hz1 := HZ1.out
    have hz2 := HZ2.out
    go_wp2_with fail
    go_ret2
    exact ⟨congrArg (fun l => Ending.returned (Value.tuple #[Value.string l, Value.int .i64 0])) HALL.out, two (two HBEL.out B3.out) B4.out⟩

end Go.Proofs.YtndnfalkpkbpjabDoor.Fr
