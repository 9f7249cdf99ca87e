/-
  ExWrF.
-/
import Derived.Test.YtlmmfhbdebfgkaaGreatDoorZExWrDQ
namespace Go.Proofs.YtlmmfhbdebfgkaaGreatDoor.Ex
open Go.RowKit
open Lx Va
def Con.val (c : Con) : Value := .agg #[.string (S c.word), .int .i64 c.op, .int .i64 c.level, .int .i64 c.operands, .bool c.turned]
set_option linter.unusedVariables false
set_option maxRecDepth 100000 in
set_option maxHeartbeats 8000000 in
theorem binary_any (w0 : World) (b : Nat) (B : Base w0 b) (k : Con) (lv : Nat) (hlv : k.level = lv) (hlv2 : lv ≤ 6) (hwd : k.word.length ≤ 10) (x y : T) (hx : WtC w0 b x) (hy : WtC w0 b y) (hlx : x.args.len ≤ 281474976710656) (hly : y.args.len ≤ 281474976710656)
    (l : List UInt8) (o d : Nat) (p q : Option Addr) (c c' : Nat) (w : World) (P Q : List UInt8 × Nat) (hP : P = x.tx.within (if lv = 2 then 3 else lv)) (hQ : Q = y.tx.within (lv + 1))
    (ho : o + P.2 ≤ 100000) (ho2 : o + Q.2 ≤ 100000) (hl : l.length + (P.1 ++ [32] ++ k.word ++ [32] ++ Q.1).length ≤ 1000000000) (hod : o ≤ d) (hW : Wr w b l o d) (h0 : Below w0.heap.size w0 w) (hF : FAt w (Oth w b) x.args p) (hG : FAt w (Oth w b) y.args q) :
    Calls Tryz.prog 42 #[.pointer (some ⟨b, 0, none⟩), .agg #[.string (S k.word), .int .i64 k.op, .int .i64 k.level, .int .i64 k.operands, .bool k.turned], .agg #[.int .i64 x.op, .int .i64 x.num, .string (S x.text), .slice p x.args.len c], .agg #[.int .i64 y.op, .int .i64 y.num, .string (S y.text), .slice q y.args.len c']] w fun e w' =>
      e = .returned (.tuple #[]) ∧ Wr w' b (l ++ (P.1 ++ [32] ++ k.word ++ [32] ++ Q.1)) o (max d (o + max P.2 Q.2) : Nat) ∧ Wk b w w' := by
  obtain ⟨kw, ko, kl, kn, kt⟩ := k
  simp only at hlv hwd hl ⊢
  subst hlv
  have hlt := hW.lt
  have hlen2 : l.length + P.1.length + [(32 : UInt8)].length + kw.length + [(32 : UInt8)].length + Q.1.length ≤ 1000000000 := by simp at hl ⊢; omega
  have hkw : (S kw).size = kw.length := S_size kw
  have hlv6 : (lv : Int) ≤ 6 := by omega
  have hlv0 : (0 : Int) ≤ (lv : Int) := by omega
  have h0w := h0
  have k1 := Wk.of_below hlt ((Below.refl w.heap.size w).alloc (Nat.le_refl _) (.cells #[.string (S kw), .int .i64 ko, .int .i64 (lv : Int), .int .i64 kn, .bool kt] 96))
  have hW1 := hW.alloc (.cells #[.string (S kw), .int .i64 ko, .int .i64 (lv : Int), .int .i64 kn, .bool kt] 96)
  have o1 := Oth.new hW (.cells #[.string (S kw), .int .i64 ko, .int .i64 (lv : Int), .int .i64 kn, .bool kt] 96)
  have b1 : Bc (w.alloc (.cells #[.string (S kw), .int .i64 ko, .int .i64 (lv : Int), .int .i64 kn, .bool kt] 96)) w.heap.size ⟨kw, ko, lv, kn, kt⟩ := heap_alloc_new w _
  have hF1 := FAt.wk k1 hF
  have hG1 := FAt.wk k1 hG
  have hs1 : (w.alloc (.cells #[.string (S kw), .int .i64 ko, .int .i64 (lv : Int), .int .i64 kn, .bool kt] 96)).heap.size = w.heap.size + 1 := by simp
  obtain ⟨W1, hW1e⟩ : ∃ W1, W1 = w.alloc (.cells #[.string (S kw), .int .i64 ko, .int .i64 (lv : Int), .int .i64 kn, .bool kt] 96) := ⟨_, rfl⟩
  rw [← hW1e] at k1 hW1 o1 b1 hF1 hG1 hs1
  have k2 := Wk.of_below hW1.lt ((Below.refl W1.heap.size W1).alloc (Nat.le_refl _) (.cells #[.int .i64 x.op, .int .i64 x.num, .string (S x.text), .slice p x.args.len c] 24))
  have hW2 := hW1.alloc (.cells #[.int .i64 x.op, .int .i64 x.num, .string (S x.text), .slice p x.args.len c] 24)
  have hs2 : (W1.alloc (.cells #[.int .i64 x.op, .int .i64 x.num, .string (S x.text), .slice p x.args.len c] 24)).heap.size = w.heap.size + 1 + 1 := by simp [hs1]
  obtain ⟨W2, hW2e⟩ : ∃ W2, W2 = W1.alloc (.cells #[.int .i64 x.op, .int .i64 x.num, .string (S x.text), .slice p x.args.len c] 24) := ⟨_, rfl⟩
  rw [← hW2e] at k2 hW2 hs2
  have k3 := Wk.of_below hW2.lt ((Below.refl W2.heap.size W2).alloc (Nat.le_refl _) (.cells #[.int .i64 y.op, .int .i64 y.num, .string (S y.text), .slice q y.args.len c'] 24))
  have hW3 := hW2.alloc (.cells #[.int .i64 y.op, .int .i64 y.num, .string (S y.text), .slice q y.args.len c'] 24)
  have o3 := Oth.new hW2 (.cells #[.int .i64 y.op, .int .i64 y.num, .string (S y.text), .slice q y.args.len c'] 24)
  have b3 := Bx.new W2 (.int .i64 y.op) (.int .i64 y.num) (.string (S y.text)) (.slice q y.args.len c')
  obtain ⟨e1, o1'⟩ := (k2.trans k3).block w.heap.size (by omega) o1
  have b1' : Bc (W2.alloc (.cells #[.int .i64 y.op, .int .i64 y.num, .string (S y.text), .slice q y.args.len c'] 24)) w.heap.size ⟨kw, ko, lv, kn, kt⟩ := e1.trans b1
  have hs3 : (W2.alloc (.cells #[.int .i64 y.op, .int .i64 y.num, .string (S y.text), .slice q y.args.len c'] 24)).heap.size = w.heap.size + 1 + 1 + 1 := by simp [hs2]
  have hF3 := FAt.wk (k2.trans k3) hF1
  have hG3 := FAt.wk (k2.trans k3) hG1
  have k03 := (k1.trans k2).trans k3
  rw [hs2] at o3 b3
  rw [hW2e, hW1e] at *
  clear hW1e hW2e
  have HK := Lib.hid k03
  have HO1 := Lib.hid o1'
  have HO3 := Lib.hid o3
  have HB1 := Lib.hid b1'
  have HB3 := Lib.hid b3
  have HW3 := Lib.hid hW3
  have HS3 := Lib.hid hs3
  have HF3 := Lib.hid hF3
  have HG3 := Lib.hid hG3
  have H03 := Lib.hid (h0.trans (k03.below.mono B.le))
  have HQ := Lib.hid hQ
  have HY := Lib.hid hy
  have HB := Lib.hid B
  have HX := Lib.hid hx
  clear k1 k2 k3 k03 hW hW1 hW2 hW3 o1 o3 b1 b3 e1 o1' b1' hF hG hF1 hG1 hF3 hG3 hs1 hs2 hs3 h0 hQ hy hx
  have HX5 := Lib.hid (fun (w5 : World) (k : Wk b w w5) => h0w.trans (k.below.mono HB.out.le))
  by_cases hl2 : lv = 2
  · subst hl2
    rw [if_pos rfl] at hP
    have HC1 := Lib.hid (operand_any w0 b HB.out x HX.out hlx (2 + 1) l o d p c _ (by rw [← hP]; exact ho) (by rw [← hP]; simp at hlen2 ⊢; omega) hod HW3.out H03.out HF3.out)
    rw [← hP] at HC1
    go_enter Tryz.func42, Tryz.ntmps42
    go_wp2_with fail
    refine HC1.out.mono ?_
    rintro e w4 ⟨rfl, hw4, k4⟩
    obtain ⟨e41, o41⟩ := k4.block _ (by rw [HS3.out]; omega) HO1.out
    obtain ⟨e43, o43⟩ := k4.block _ (by rw [HS3.out]; omega) HO3.out
    have b41 := e41.trans HB1.out
    have b43 := e43.trans HB3.out
    have p0 := cell_of_row w4 w.heap.size 0 _ _ (0, 0) b41
    have HB41 := Lib.hid b41
    have HB43 := Lib.hid b43
    have HO41 := Lib.hid o41
    have HO43 := Lib.hid o43
    have hwt := wwrite_k b (l ++ P.1) ([32] ++ kw ++ [32]) o (max d (o + P.2) : Nat) w4.drew hw4.drew (by simp at hlen2 ⊢; omega)
    have HWT := Lib.hid hwt
    have HL4 := Lib.hid (show w.heap.size + 1 + 1 < w4.heap.size from Nat.lt_of_lt_of_le (by rw [HS3.out]; omega) k4.below.size)
    have HK4 := Lib.hid (HK.out.trans k4)
    have HG4 := Lib.hid (FAt.wk k4 HG3.out)
    have hsz1 : (S [32]).size = 1 := rfl
    have hsz2 : (S [32] ++ S kw).size = 1 + kw.length := by rw [S_append, S_size]; simp; omega
    have HX51 := Lib.hid (fun (w5 : World) (k : Wk b w4 w5) => show w5.cell? ⟨w.heap.size, 0, none⟩ = some (.string (S kw)) from cell_of_row w5 w.heap.size 0 _ _ (0, 0) ((k.block _ (by have := HL4.out; omega) HO41.out).1.trans HB41.out))
    clear hw4 k4 hwt b41 b43 e41 e43 o41 o43
    have hadd1 : ∀ w, (Op.stringOp .add ⟨#[32]⟩ (S kw)).run Tryz.prog w = .ok (.string (S ([32] ++ kw))) w := fun w => by
      rw [run_string_add_sum w _ _ (by rw [S_size]; have : (⟨#[32]⟩ : ByteArray).size = 1 := rfl; omega)]
      exact congrArg (fun x => Result.ok (Value.string x) w) (S_append [32] kw)
    have hadd2 : ∀ w, (Op.stringOp .add (S ([32] ++ kw)) ⟨#[32]⟩).run Tryz.prog w = .ok (.string (S ([32] ++ kw ++ [32]))) w := fun w => by
      rw [run_string_add_sum w _ _ (by rw [S_size]; have : (⟨#[32]⟩ : ByteArray).size = 1 := rfl; simp; omega)]
      exact congrArg (fun x => Result.ok (Value.string x) w) (S_append ([32] ++ kw) [32])
    generalize hS1 : S ([32] ++ kw) = S1 at *
    generalize hS2 : S ([32] ++ kw ++ [32]) = S2 at *
    go_wp2_with fail
    go_region_held3 (fun w' => w'.cell? ⟨w.heap.size, 0, none⟩ = some (.string (S kw)))
      (first | assumption | go_keep)
      (first
        | (go_at_call 38; refine HWT.out.mono ?_; rintro e w5 ⟨rfl, hw5, k5d⟩; have k5 := (Wk.refl b w4).drew.trans k5d; have hx5 := HX51.out _ k5; have HW5 := Lib.hid hw5; have HK50 := Lib.hid k5; clear hw5 k5 k5d))
    have hw5 := HW5.out
    have k5 := HK50.out
    obtain ⟨e51, _⟩ := k5.block _ (by have := HL4.out; omega) HO41.out
    obtain ⟨e53, _⟩ := k5.block _ HL4.out HO43.out
    have b51 := e51.trans HB41.out
    have b53 : Bx w5 (w.heap.size + 1 + 1) _ _ _ _ := e53.trans HB43.out
    have r2 := cell_of_row w5 w.heap.size 2 _ _ (0, 0) b51
    have q0 := b53.c0
    have q1 := b53.c1
    have q2 := b53.c2
    have q3 := b53.c3
    have HK5 := Lib.hid (HK4.out.trans k5)
    have HC2 := operand_any w0 b HB.out y HY.out hly (2 + 1) (l ++ P.1 ++ ([32] ++ kw ++ [32])) o (max d (o + P.2)) q c' w5 (by rw [← HQ.out]; exact ho2) (by rw [← HQ.out]; simp at hlen2 ⊢; omega) (by omega) hw5 (HX5.out _ HK5.out) (FAt.wk k5 HG4.out)
    rw [← HQ.out] at HC2
    replace HC2 := Lib.hid HC2
    clear hw5 k5 e51 e53 b51 b53
    go_wp2_with fail
    refine HC2.out.mono ?_
    rintro e w6 ⟨rfl, hw6, k6⟩
    have HW6 := Lib.hid hw6
    have HK6 := Lib.hid (HK5.out.trans k6)
    clear hw6 k6
    go_wp2_with fail
    go_end0
    refine ⟨rfl, ?_, HK6.out⟩
    have hfin := HW6.out
    rw [show max (max d (o + P.2)) (o + Q.2) = max d (o + max P.2 Q.2) by omega] at hfin
    simpa using hfin
  · rw [if_neg hl2] at hP
    have hl2b : ((lv : Int) == 2) = false := by rw [beq_eq_false_iff_ne]; omega
    have hl2c : ((lv : Int) != 2) = true := by simp; omega
    have HC1 := Lib.hid (operand_any w0 b HB.out x HX.out hlx lv l o d p c _ (by rw [← hP]; exact ho) (by rw [← hP]; simp at hlen2 ⊢; omega) hod HW3.out H03.out HF3.out)
    rw [← hP] at HC1
    go_enter Tryz.func42, Tryz.ntmps42
    go_wp2_with fail
    refine HC1.out.mono ?_
    rintro e w4 ⟨rfl, hw4, k4⟩
    obtain ⟨e41, o41⟩ := k4.block _ (by rw [HS3.out]; omega) HO1.out
    obtain ⟨e43, o43⟩ := k4.block _ (by rw [HS3.out]; omega) HO3.out
    have b41 := e41.trans HB1.out
    have b43 := e43.trans HB3.out
    have p0 := cell_of_row w4 w.heap.size 0 _ _ (0, 0) b41
    have HB41 := Lib.hid b41
    have HB43 := Lib.hid b43
    have HO41 := Lib.hid o41
    have HO43 := Lib.hid o43
    have hwt := wwrite_k b (l ++ P.1) ([32] ++ kw ++ [32]) o (max d (o + P.2) : Nat) w4.drew hw4.drew (by simp at hlen2 ⊢; omega)
    have HWT := Lib.hid hwt
    have HL4 := Lib.hid (show w.heap.size + 1 + 1 < w4.heap.size from Nat.lt_of_lt_of_le (by rw [HS3.out]; omega) k4.below.size)
    have HK4 := Lib.hid (HK.out.trans k4)
    have HG4 := Lib.hid (FAt.wk k4 HG3.out)
    have hsz1 : (S [32]).size = 1 := rfl
    have hsz2 : (S [32] ++ S kw).size = 1 + kw.length := by rw [S_append, S_size]; simp; omega
    have HX51 := Lib.hid (fun (w5 : World) (k : Wk b w4 w5) => show w5.cell? ⟨w.heap.size, 0, none⟩ = some (.string (S kw)) from cell_of_row w5 w.heap.size 0 _ _ (0, 0) ((k.block _ (by have := HL4.out; omega) HO41.out).1.trans HB41.out))
    clear hw4 k4 hwt b41 b43 e41 e43 o41 o43
    have hadd1 : ∀ w, (Op.stringOp .add ⟨#[32]⟩ (S kw)).run Tryz.prog w = .ok (.string (S ([32] ++ kw))) w := fun w => by
      rw [run_string_add_sum w _ _ (by rw [S_size]; have : (⟨#[32]⟩ : ByteArray).size = 1 := rfl; omega)]
      exact congrArg (fun x => Result.ok (Value.string x) w) (S_append [32] kw)
    have hadd2 : ∀ w, (Op.stringOp .add (S ([32] ++ kw)) ⟨#[32]⟩).run Tryz.prog w = .ok (.string (S ([32] ++ kw ++ [32]))) w := fun w => by
      rw [run_string_add_sum w _ _ (by rw [S_size]; have : (⟨#[32]⟩ : ByteArray).size = 1 := rfl; simp; omega)]
      exact congrArg (fun x => Result.ok (Value.string x) w) (S_append ([32] ++ kw) [32])
    generalize hS1 : S ([32] ++ kw) = S1 at *
    generalize hS2 : S ([32] ++ kw ++ [32]) = S2 at *
    go_wp2_with fail
    go_region_held3 (fun w' => w'.cell? ⟨w.heap.size, 0, none⟩ = some (.string (S kw)))
      (first | assumption | go_keep)
      (first
        | (go_at_call 38; refine HWT.out.mono ?_; rintro e w5 ⟨rfl, hw5, k5d⟩; have k5 := (Wk.refl b w4).drew.trans k5d; have hx5 := HX51.out _ k5; have HW5 := Lib.hid hw5; have HK50 := Lib.hid k5; clear hw5 k5 k5d))
    have hw5 := HW5.out
    have k5 := HK50.out
    obtain ⟨e51, _⟩ := k5.block _ (by have := HL4.out; omega) HO41.out
    obtain ⟨e53, _⟩ := k5.block _ HL4.out HO43.out
    have b51 := e51.trans HB41.out
    have b53 : Bx w5 (w.heap.size + 1 + 1) _ _ _ _ := e53.trans HB43.out
    have r2 := cell_of_row w5 w.heap.size 2 _ _ (0, 0) b51
    have q0 := b53.c0
    have q1 := b53.c1
    have q2 := b53.c2
    have q3 := b53.c3
    have HK5 := Lib.hid (HK4.out.trans k5)
    have HC2 := operand_any w0 b HB.out y HY.out hly (lv + 1) (l ++ P.1 ++ ([32] ++ kw ++ [32])) o (max d (o + P.2)) q c' w5 (by rw [← HQ.out]; exact ho2) (by rw [← HQ.out]; simp at hlen2 ⊢; omega) (by omega) hw5 (HX5.out _ HK5.out) (FAt.wk k5 HG4.out)
    rw [← HQ.out] at HC2
    replace HC2 := Lib.hid HC2
    clear hw5 k5 e51 e53 b51 b53
    go_wp2_with fail
    refine HC2.out.mono ?_
    rintro e w6 ⟨rfl, hw6, k6⟩
    have HW6 := Lib.hid hw6
    have HK6 := Lib.hid (HK5.out.trans k6)
    clear hw6 k6
    go_wp2_with fail
    go_end0
    refine ⟨rfl, ?_, HK6.out⟩
    have hfin := HW6.out
    rw [show max (max d (o + P.2)) (o + Q.2) = max d (o + max P.2 Q.2) by omega] at hfin
    simpa using hfin
end Go.Proofs.YtlmmfhbdebfgkaaGreatDoor.Ex
