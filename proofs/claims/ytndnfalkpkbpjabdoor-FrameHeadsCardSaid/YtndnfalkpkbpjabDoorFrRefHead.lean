/-
  The walk over the document's own PutHead of package frame.
-/
import Derived.Test.YtndnfalkpkbpjabDoorFrOwnPut
import Derived.Deep.RegionHeld
namespace Go.Proofs.YtndnfalkpkbpjabDoor.Fr
open Go.RowKit

/-- The row of noughts that a head ends in, and what it is as a string. -/
def Z39 : List UInt8 := List.replicate 39 0
theorem Z39_len : Z39.length = 39 := by simp [Z39]
theorem z_of_row {w : World} {B : Nat} (h : Row8 w B Z39) :
    Row8 w B Z39 ∧ (convert 49 9 (.slice (some ⟨B, 0, none⟩) 39 39)).run Tryd.prog w = .ok (.string (S Z39)) w :=
  ⟨h, h.back (P := Tryd.prog) 49 9 5 39 Tryd.underlying49 Tryd.underlying5 Tryd.underlying9 39 Z39_len.symm⟩
theorem z_later {a b : World} {B : Nat} (h : Below a.heap.size a b) (x : Row8 a B Z39 ∧ (convert 49 9 (.slice (some ⟨B, 0, none⟩) 39 39)).run Tryd.prog a = .ok (.string (S Z39)) a) :
    Row8 b B Z39 ∧ (convert 49 9 (.slice (some ⟨B, 0, none⟩) 39 39)).run Tryd.prog b = .ok (.string (S Z39)) b := z_of_row (x.1.later h)
theorem z_new {mk : World → World} {v b : World} (r : ∀ v, Row8 (mk v) v.heap.size Z39) (h : Below (mk v).heap.size (mk v) b) :
    Row8 b v.heap.size Z39 ∧ (convert 49 9 (.slice (some ⟨v.heap.size, 0, none⟩) 39 39)).run Tryd.prog b = .ok (.string (S Z39)) b := z_of_row ((r v).later h)

theorem z_newF {mk : World → World} {w b : World} {o : Obj} (r : ∀ v, Row8 (mk v) v.heap.size Z39) (h : Below (mk (w.alloc o).drew).heap.size (mk (w.alloc o).drew) b) :
    Row8 b (w.heap.size + 1) Z39 ∧ (convert 49 9 (.slice (some ⟨w.heap.size + 1, 0, none⟩) 39 39)).run Tryd.prog b = .ok (.string (S Z39)) b := by
  have k := z_new (v := (w.alloc o).drew) r h
  rw [show ((w.alloc o).drew).heap.size = w.heap.size + 1 by simp] at k
  exact k

set_option maxRecDepth 100000 in
set_option maxHeartbeats 8000000 in
/-- PutHead, of a head. -/
theorem refPutHead_yes (serial base prev seq : Nat) (h1 : serial < 4294967296) (h2 : base < 4294967296) (h3 : prev < 4294967296) (h4 : seq < 18446744073709551616) (hh : isHead serial base prev = true) (w : World) :
    Calls Tryd.prog 14 #[.agg #[.int .u32 (serial : Int), .int .u32 (base : Int), .int .u32 (prev : Int), .int .u64 (seq : Int)]] w fun e w' =>
      e = .returned (.tuple #[.string (S (headL serial base prev seq)), .int .i64 0]) ∧ Below w.heap.size w w' := by
  have hb0 := (Below.refl w.heap.size w).alloc (Nat.le_refl _) (.cells #[.int .u32 (serial : Int), .int .u32 (base : Int), .int .u32 (prev : Int), .int .u64 (seq : Int)] 37)
  have HB0 := Lib.hid hb0
  clear hb0
  obtain ⟨c1, c2, c3, c4⟩ : 1 ≤ serial ∧ 1 ≤ base ∧ base ≤ serial ∧ prev < serial := by simpa [isHead] using hh
  have u1 : U64 serial := ⟨by omega⟩
  have u2 : U64 base := ⟨by omega⟩
  have u3 : U64 prev := ⟨by omega⟩
  have u4 : U64 seq := ⟨h4⟩
  have p1 : IntKind.u64.wrap (serial : Int) = serial := by rw [IntKind.wrap_u64]; omega
  have p2 : IntKind.u64.wrap (base : Int) = base := by rw [IntKind.wrap_u64]; omega
  have p3 : IntKind.u64.wrap (prev : Int) = prev := by rw [IntKind.wrap_u64]; omega
  clear h1 h2 h3 h4 hh
  have hbody : (⟨#[72]⟩ : ByteArray) ++ S (be 4 serial) ++ S (be 4 base) ++ S (be 4 prev) ++ S (be 8 seq) ++ S Z39 = S (hbodyL serial base prev seq) := by
    rw [show (⟨#[72]⟩ : ByteArray) = S [72] from rfl, S_append, S_append, S_append, S_append, S_append]; unfold hbodyL Z39; simp
  have HBODY := Lib.hid hbody
  have HLEN := Lib.hid (hbodyL_length serial base prev seq)
  have hz2 : (S (hbodyL serial base prev seq)).size = 60 := by rw [S_size, hbodyL_length]
  have hall : S (be 4 (Crc.sum (hbodyL serial base prev seq)).toNat) ++ S (hbodyL serial base prev seq) = S (headL serial base prev seq) := by rw [S_append]; rfl
  have HALL := Lib.hid hall
  have HZ2 := Lib.hid hz2
  clear hbody hz2 hall
  generalize headL serial base prev seq = hl at *
  generalize hbodyL serial base prev seq = bl at *
  have HSUM := Lib.hid (sumV bl)
  have HSL := Lib.hid (sum64 bl)
  obtain ⟨mk, hmk⟩ := Classical.axiomOfChoice (fun v : World => make_row v 39 (by omega))
  have hrun : ∀ v : World, (Instr.makeSlice 49 (.int .i64 39) (.int .i64 39)).run Tryd.prog v = .ok (.slice (some ⟨v.heap.size, 0, none⟩) 39 39) (mk v) := fun v => (hmk v).1
  have hrow : ∀ v : World, Row8 (mk v) v.heap.size Z39 := fun v => (hmk v).2.1
  have HROW := Lib.hid hrow
  have HMB := Lib.hid (fun v : World => (hmk v).2.2)
  have hc0 : ∀ v : World, (convert 49 9 (.slice (some ⟨v.heap.size, 0, none⟩) 39 39)).run Tryd.prog (mk v) = .ok (.string (S Z39)) (mk v) := fun v => (z_of_row (hrow v)).2
  have hc1 := (z_of_row (hrow (w.alloc (.cells #[.int .u32 (serial : Int), .int .u32 (base : Int), .int .u32 (prev : Int), .int .u64 (seq : Int)] 37)).drew)).2
  rw [show ((w.alloc (.cells #[.int .u32 (serial : Int), .int .u32 (base : Int), .int .u32 (prev : Int), .int .u64 (seq : Int)] 37)).drew).heap.size = w.heap.size + 1 by simp] at hc1
  clear hmk hrow
  have k4 := be_sz 4
  have k8 := be_sz 8
  have k0 : (⟨#[72]⟩ : ByteArray).size = 1 := rfl
  have k9 : (S Z39).size = 39 := by rw [S_size, Z39_len]
  go_enter Tryd.func14, Tryd.ntmps14
  go_wp2_with fail
  go_region_held (fun w' => w'.cell? ⟨w.heap.size, 0, none⟩ = some (.int .u32 (serial : Int)) ∧ w'.cell? ⟨w.heap.size, 1, none⟩ = some (.int .u32 (base : Int)) ∧ w'.cell? ⟨w.heap.size, 2, none⟩ = some (.int .u32 (prev : Int)) ∧ w'.cell? ⟨w.heap.size, 3, none⟩ = some (.int .u64 (seq : Int)) ∧ Below w.heap.size w w' ∧ w.heap.size < w'.heap.size)
    (first
      | assumption
      | exact keep4 (by assumption) (by assumption)
      | exact keep4 (by assumption) (HMB.out _)
      | (refine ⟨?_, ?_, ?_, ?_, HB0.out.drew, ?_⟩ <;> simp; done))
    (first
      | (go_at_call 26; (with_reducible refine (refBytes4 _ ?_ _).mono ?_); assumption; rintro e w' ⟨rfl, hq⟩; first | (have hT := z_newF HROW.out hq) | (have hT := z_new HROW.out hq) | (have hT := z_later hq (by assumption)) | skip)
      | (go_at_call 26; (with_reducible refine (refBytes8 _ ?_ _).mono ?_); assumption; rintro e w' ⟨rfl, hq⟩; first | (have hT := z_newF HROW.out hq) | (have hT := z_new HROW.out hq) | (have hT := z_later hq (by assumption)) | skip))
  all_goals
    have hst := (by assumption : _ ∧ _ ∧ _ ∧ _ ∧ Below w.heap.size w _ ∧ _)
    have HBEL := Lib.hid hst.2.2.2.2.1
    clear hst
    go_wp2_with fail
    rw [HBODY.out]
    refine (Crc.refSum_any _ (by unfold maxLen; rw [HZ2.out]; omega) _).mono ?_
    rintro e w2 ⟨rfl, rfl⟩
    rw [S_toList]
    go_wp2_with fail
    rw [HSUM.out]
    refine (refBytes4 _ HSL.out _).mono ?_
    rintro e w3 ⟨rfl, b3⟩
    have B3 := Lib.hid b3
    have kq := k4 (Crc.sum bl).toNat
    have kz := HZ2.out
    clear b3
    go_wp2_with fail
    go_ret2
    exact ⟨congrArg (fun l => Ending.returned (Value.tuple #[Value.string l, Value.int .i64 0])) HALL.out, two HBEL.out B3.out⟩

end Go.Proofs.YtndnfalkpkbpjabDoor.Fr
