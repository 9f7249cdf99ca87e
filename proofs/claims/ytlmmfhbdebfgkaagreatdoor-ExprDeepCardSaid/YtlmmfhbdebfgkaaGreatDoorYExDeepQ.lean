/-
  ExDeep, ExDeepW.
-/
import Derived.Test.YtlmmfhbdebfgkaaGreatDoorYExTop
import Derived.Test.YtlmmfhbdebfgkaaGreatDoorYExWrJQ
namespace Go.Proofs.YtlmmfhbdebfgkaaGreatDoor.Ex
open Lx Va
set_option linter.unusedVariables false
set_option linter.unusedSimpArgs false
def wrapT (kd : Nat) (s : List UInt8) : List UInt8 := match kd with
  | 0 => 40 :: (s ++ [41])
  | 1 => 33 :: s
  | 2 => 91 :: (s ++ [93])
  | _ => [108, 101, 110, 40] ++ s ++ [41]
def deepT (kd : Nat) : Nat → List UInt8
  | 0 => [97]
  | k + 1 => wrapT kd (deepT kd k)
def addT : Nat → List UInt8
  | 0 => [97]
  | n + 1 => addT n ++ [32, 43, 32, 97]
theorem deep_len (kd : Nat) : ∀ k, (deepT kd k).length ≤ 1 + 5 * k
  | 0 => by simp [deepT]
  | k + 1 => by
    have ih := deep_len kd k
    show (wrapT kd (deepT kd k)).length ≤ _
    unfold wrapT
    split <;> simp <;> omega
theorem add_len : ∀ n, (addT n).length = 1 + 4 * n
  | 0 => rfl
  | n + 1 => by
    have ih := add_len n
    show (addT n ++ [32, 43, 32, 97]).length = _
    simp; omega
set_option maxRecDepth 100000 in
theorem deep_fin : ∀ (kd : Fin 4) (k : Fin 31), (rdM (deepT kd.val k.val)).2.1 = if 20 < k.val then 26 else 0 := by decide +kernel
set_option maxRecDepth 100000 in
theorem add_fin : ∀ (n : Fin 20), (rdM (addT (90 + n.val))).2.1 = if 200 < 2 * (90 + n.val) + 1 then 27 else 0 := by decide +kernel
end Go.Proofs.YtlmmfhbdebfgkaaGreatDoor.Ex
namespace Go.Proofs.YtlmmfhbdebfgkaaGreatDoor.Ex
open Go.RowKit
open Lx Va
set_option linter.unusedVariables false
set_option linter.unusedSimpArgs false
theorem mod_u (op : Int) (N : Nat) (h0 : 0 < N) (h : N < 1000) : ∃ n : Nat, n < N ∧ wrap64 ((IntKind.u64.wrap op).tmod (N : Int)) = (n : Int) := by
  have h0 : 0 ≤ IntKind.u64.wrap op := by simp [IntKind.wrap, IntKind.signed, IntKind.bits]; omega
  obtain ⟨n, hn⟩ : ∃ n : Nat, IntKind.u64.wrap op = (n : Int) := ⟨(IntKind.u64.wrap op).toNat, by omega⟩
  have e : (IntKind.u64.wrap op).tmod (N : Int) = ((n % N : Nat) : Int) := by rw [hn]; rfl
  have hlt : n % N < N := Nat.mod_lt _ (by omega)
  refine ⟨n % N, hlt, ?_⟩
  rw [e]
  unfold wrap64
  omega
theorem deep_code (kd k : Nat) (hkd : kd < 4) (hk : k ≤ 30) : (rdM (deepT kd k)).2.1 = if 20 < k then 26 else 0 := deep_fin ⟨kd, hkd⟩ ⟨k, by omega⟩
theorem add_code (n : Nat) (hn : n < 20) : (rdM (addT (90 + n))).2.1 = if 200 < 2 * (90 + n) + 1 then 27 else 0 := add_fin ⟨n, hn⟩
set_option maxRecDepth 100000 in
set_option maxHeartbeats 8000000 in
theorem deep_walk (kind depth more : Int) (w : World) (_ : (Lit.int .i64 kind).wf = true) (_ : (Lit.int .i64 depth).wf = true) (_ : (Lit.int .i64 more).wf = true) (hL : Laid w) (hC : ConsAt w) :
    Calls Tryz.prog 5 #[.int .i64 kind, .int .i64 depth, .int .i64 more] w fun e w' => e = .returned (.bool true) ∧ Below w.heap.size w w' := by
  obtain ⟨kd, hkd, hkw⟩ := mod_u kind 4 (by omega) (by omega)
  obtain ⟨d, hd, hdw⟩ := mod_u depth 30 (by omega) (by omega)
  obtain ⟨n, hn, hnw⟩ := mod_u more 20 (by omega) (by omega)
  have hkw : wrap64 ((IntKind.u64.wrap kind).tmod 4) = (kd : Int) := hkw
  have hdw : wrap64 ((IntKind.u64.wrap depth).tmod 30) = (d : Int) := hdw
  have hnw : wrap64 ((IntKind.u64.wrap more).tmod 20) = (n : Int) := hnw
  obtain ⟨x, c1, q1, hr⟩ : ∃ x c q, rdM (deepT kd (d + 1)) = (x, c, q) := ⟨_, _, _, rfl⟩
  obtain ⟨y, c2, q2, hq⟩ : ∃ x c q, rdM (addT (90 + n)) = (x, c, q) := ⟨_, _, _, rfl⟩
  have hc1 : c1 = if 20 < d + 1 then 26 else 0 := by have h := deep_code kd (d + 1) hkd (by omega); rw [hr] at h; exact h
  have hc2 : c2 = if 200 < 2 * (90 + n) + 1 then 27 else 0 := by have h := add_code n hn; rw [hq] at h; exact h
  have HA := Lib.hid (fun W (b : Below w.heap.size w W) => awake8 W (hL.below b) (consB hC b))
  have HR := Lib.hid (fun W (b : Below w.heap.size w W) => pread_l hr W (hL.below b) (consB hC b))
  have HQ := Lib.hid (fun W (b : Below w.heap.size w W) => pread_l hq W (hL.below b) (consB hC b))
  have HA0 := Lib.hid (HA.out w (Below.refl _ _))
  have hdi : (d : Int) < 30 := by omega
  have hni : (n : Int) < 20 := by omega
  have HKD := Lib.hid hkd
  have HKW := Lib.hid hkw
  have HC1 := Lib.hid hc1
  have HC2 := Lib.hid hc2
  clear hr hq hL hC hc1 hc2 hkd hkw
  go_enter Tryz.func5, Tryz.ntmps5
  go_wp2_with fail
  refine HA0.out.mono ?_
  rintro e w1 ⟨rfl, b1⟩
  have HB1 := Lib.hid b1
  clear b1
  go_wp2_with fail
  go_loopw [8, 25] (fun sv iv wr => ∃ i : Nat, iv = .int .i64 i ∧ i ≤ d + 1 ∧ sv = .string (S (deepT kd i)) ∧ Below w.heap.size w wr) (fun _ iv _ => d + 1 - (intOf iv).toNat)
  case atStart => exact ⟨0, rfl, by omega, rfl, HB1.out⟩
  case round =>
    obtain ⟨i, rfl, hi, rfl, hb⟩ := hrel
    have HB := Lib.hid hb
    clear hb
    by_cases hlt : i < d + 1
    · have hlti : (i : Int) < 1 + (d : Int) := by omega
      have hlen := deep_len kd i
      obtain ⟨X, hX⟩ : ∃ X, X = deepT kd i := ⟨_, rfl⟩
      have hnext : deepT kd (i + 1) = wrapT kd X := by rw [hX]; rfl
      rw [← hX] at hlen ⊢
      have HNX := Lib.hid hnext
      have a1 : ∀ w, (Op.stringOp .add ⟨#[40]⟩ (S X)).run Tryz.prog w = .ok (.string (S ([40] ++ X))) w := fun w => add_run8 [40] X (by simp; omega) w
      have a2 : ∀ w, (Op.stringOp .add (S ([40] ++ X)) ⟨#[41]⟩).run Tryz.prog w = .ok (.string (S ([40] ++ X ++ [41]))) w := fun w => add_run8 _ [41] (by simp; omega) w
      have a3 : ∀ w, (Op.stringOp .add ⟨#[33]⟩ (S X)).run Tryz.prog w = .ok (.string (S ([33] ++ X))) w := fun w => add_run8 [33] X (by simp; omega) w
      have a4 : ∀ w, (Op.stringOp .add ⟨#[91]⟩ (S X)).run Tryz.prog w = .ok (.string (S ([91] ++ X))) w := fun w => add_run8 [91] X (by simp; omega) w
      have a5 : ∀ w, (Op.stringOp .add (S ([91] ++ X)) ⟨#[93]⟩).run Tryz.prog w = .ok (.string (S ([91] ++ X ++ [93]))) w := fun w => add_run8 _ [93] (by simp; omega) w
      have a6 : ∀ w, (Op.stringOp .add ⟨#[108, 101, 110, 40]⟩ (S X)).run Tryz.prog w = .ok (.string (S ([108, 101, 110, 40] ++ X))) w := fun w => add_run8 [108, 101, 110, 40] X (by simp; omega) w
      have a7 : ∀ w, (Op.stringOp .add (S ([108, 101, 110, 40] ++ X)) ⟨#[41]⟩).run Tryz.prog w = .ok (.string (S ([108, 101, 110, 40] ++ X ++ [41]))) w := fun w => add_run8 _ [41] (by simp; omega) w
      obtain ⟨N0, hN0⟩ : ∃ N, N = S ([40] ++ X ++ [41]) := ⟨_, rfl⟩
      obtain ⟨N1, hN1⟩ : ∃ N, N = S ([33] ++ X) := ⟨_, rfl⟩
      obtain ⟨N2, hN2⟩ : ∃ N, N = S ([91] ++ X ++ [93]) := ⟨_, rfl⟩
      obtain ⟨N3, hN3⟩ : ∃ N, N = S ([108, 101, 110, 40] ++ X ++ [41]) := ⟨_, rfl⟩
      rw [← hN0] at a2
      rw [← hN1] at a3
      rw [← hN2] at a5
      rw [← hN3] at a7
      have HN0 := Lib.hid hN0
      have HN1 := Lib.hid hN1
      have HN2 := Lib.hid hN2
      have HN3 := Lib.hid hN3
      generalize S ([40] ++ X) = M0 at *
      generalize S ([91] ++ X) = M2 at *
      generalize S ([108, 101, 110, 40] ++ X) = M3 at *
      clear hX hnext hN0 hN1 hN2 hN3 hlen
      have HLT := Lib.hid hlt
      have hkk := HKD.out
      have hcs : kd = 0 ∨ kd = 1 ∨ kd = 2 ∨ kd = 3 := by omega
      have hkw := HKW.out
      clear hkk hlt
      rcases hcs with rfl | rfl | rfl | rfl
      · have hkw0 : wrap64 ((IntKind.u64.wrap kind).tmod 4) = 0 := hkw
        clear hkw
        have HE := Lib.hid (show (N0 : ByteArray) = S (deepT 0 (i + 1)) by rw [HNX.out, HN0.out]; simp [wrapT])
        have HB2 := Lib.hid (HB.out.alloc HB.out.size (.cells #[.string N0, .string N1, .string N2, .string N3] 9))
        go_wp2_with fail
        refine ⟨⟨i + 1, by go_num, by have := HLT.out; omega, by rw [HE.out], HB2.out⟩, ?_⟩
        have := HLT.out
        simp [intOf]
        omega
      · have hkw0 : wrap64 ((IntKind.u64.wrap kind).tmod 4) = 1 := hkw
        clear hkw
        have HE := Lib.hid (show (N1 : ByteArray) = S (deepT 1 (i + 1)) by rw [HNX.out, HN1.out]; simp [wrapT])
        have HB2 := Lib.hid (HB.out.alloc HB.out.size (.cells #[.string N0, .string N1, .string N2, .string N3] 9))
        go_wp2_with fail
        refine ⟨⟨i + 1, by go_num, by have := HLT.out; omega, by rw [HE.out], HB2.out⟩, ?_⟩
        have := HLT.out
        simp [intOf]
        omega
      · have hkw0 : wrap64 ((IntKind.u64.wrap kind).tmod 4) = 2 := hkw
        clear hkw
        have HE := Lib.hid (show (N2 : ByteArray) = S (deepT 2 (i + 1)) by rw [HNX.out, HN2.out]; simp [wrapT])
        have HB2 := Lib.hid (HB.out.alloc HB.out.size (.cells #[.string N0, .string N1, .string N2, .string N3] 9))
        go_wp2_with fail
        refine ⟨⟨i + 1, by go_num, by have := HLT.out; omega, by rw [HE.out], HB2.out⟩, ?_⟩
        have := HLT.out
        simp [intOf]
        omega
      · have hkw0 : wrap64 ((IntKind.u64.wrap kind).tmod 4) = 3 := hkw
        clear hkw
        have HE := Lib.hid (show (N3 : ByteArray) = S (deepT 3 (i + 1)) by rw [HNX.out, HN3.out]; simp [wrapT])
        have HB2 := Lib.hid (HB.out.alloc HB.out.size (.cells #[.string N0, .string N1, .string N2, .string N3] 9))
        go_wp2_with fail
        refine ⟨⟨i + 1, by go_num, by have := HLT.out; omega, by rw [HE.out], HB2.out⟩, ?_⟩
        have := HLT.out
        simp [intOf]
        omega
    · have hlti : ¬ (i : Int) < 1 + (d : Int) := by omega
      obtain rfl : i = d + 1 := by omega
      have HR1 := Lib.hid (HR.out wr HB.out)
      obtain ⟨T1, hT1⟩ : ∃ T1, T1 = S (deepT kd (d + 1)) := ⟨_, rfl⟩
      rw [← hT1] at HR1 ⊢
      clear hlt hT1 hkw HR
      have hcase : (20 < d + 1 ∧ c1 = 26) ∨ (¬ 20 < d + 1 ∧ c1 = 0) := by
        have h := HC1.out
        by_cases h20 : 20 < d + 1
        · rw [if_pos h20] at h; exact .inl ⟨h20, h⟩
        · rw [if_neg h20] at h; exact .inr ⟨h20, h⟩
      have hcase2 : (200 < 2 * (90 + n) + 1 ∧ c2 = 27) ∨ (¬ 200 < 2 * (90 + n) + 1 ∧ c2 = 0) := by
        have h := HC2.out
        by_cases h20 : 200 < 2 * (90 + n) + 1
        · rw [if_pos h20] at h; exact .inl ⟨h20, h⟩
        · rw [if_neg h20] at h; exact .inr ⟨h20, h⟩
      have hhd : (20 < 1 + (d : Int) ∧ c1 = 26) ∨ (¬ 20 < 1 + (d : Int) ∧ 1 + (d : Int) ≤ 20 ∧ c1 = 0) := by
        rcases hcase with ⟨h1, h2⟩ | ⟨h1, h2⟩
        · exact .inl ⟨by omega, h2⟩
        · exact .inr ⟨by omega, by omega, h2⟩
      have HC2B := Lib.hid hcase2
      clear hcase hcase2 hlti hi
      rcases hhd with ⟨h1, rfl⟩ | ⟨h1, h1', rfl⟩
      all_goals
        go_wp2_with fail
        refine HR1.out.mono ?_
        rintro e w2 ⟨⟨p, c, rfl, hfa⟩, b2⟩
        have hb2 := HB.out.trans (b2.mono HB.out.size)
        have HB3 := Lib.hid (hb2.alloc hb2.size (.cells #[.int .i64 x.op, .int .i64 x.num, .string (S x.text), .slice p x.args.len c] 24))
        clear b2 hb2 hfa HR1
        go_wp2_with fail
        go_loopw [13, 70] (fun sv iv wr => ∃ i : Nat, iv = .int .i64 i ∧ i ≤ 90 + n ∧ sv = .string (S (addT i)) ∧ Below w.heap.size w wr) (fun _ iv _ => 90 + n - (intOf iv).toNat)
        case atStart => exact ⟨0, rfl, by omega, rfl, HB3.out⟩
        case round =>
          obtain ⟨i, rfl, hi, rfl, hb⟩ := hrel
          have HB4 := Lib.hid hb
          clear hb
          by_cases hlt : i < 90 + n
          · have hlti : (i : Int) < 90 + (n : Int) := by omega
            have hlen := add_len i
            have a1 : ∀ w, (Op.stringOp .add (S (addT i)) ⟨#[32, 43, 32, 97]⟩).run Tryz.prog w = .ok (.string (S (addT (i + 1)))) w := fun w => add_run8 (addT i) [32, 43, 32, 97] (by simp; omega) w
            have HLT := Lib.hid hlt
            clear hlen hlt
            go_wp2_with fail
            refine ⟨⟨i + 1, by go_num, by have := HLT.out; omega, rfl, HB4.out⟩, ?_⟩
            have := HLT.out
            simp [intOf]
            omega
          · have hlti : ¬ (i : Int) < 90 + (n : Int) := by omega
            obtain rfl : i = 90 + n := by omega
            have HQ1 := Lib.hid (HQ.out wr HB4.out)
            obtain ⟨T2, hT2⟩ : ∃ T2, T2 = S (addT (90 + n)) := ⟨_, rfl⟩
            rw [← hT2] at HQ1 ⊢
            have hhn : (200 < 2 * (90 + (n : Int)) + 1 ∧ c2 = 27) ∨ (¬ 200 < 2 * (90 + (n : Int)) + 1 ∧ c2 = 0) := by
              rcases HC2B.out with ⟨h1, h2⟩ | ⟨h1, h2⟩
              · exact .inl ⟨by omega, h2⟩
              · exact .inr ⟨by omega, h2⟩
            clear hlt hT2 hlti hi HQ
            rcases hhn with ⟨h2, rfl⟩ | ⟨h2, rfl⟩
            all_goals
              go_wp2_with fail
              refine HQ1.out.mono ?_
              rintro e w5 ⟨⟨p', c', rfl, hfb⟩, b5⟩
              have hb5 := HB4.out.trans (b5.mono HB4.out.size)
              have hb6 := hb5.alloc hb5.size (.cells #[.int .i64 y.op, .int .i64 y.num, .string (S y.text), .slice p' y.args.len c'] 24)
              have HA6 := Lib.hid (HA.out _ hb6)
              have HB6 := Lib.hid hb6
              clear b5 hb5 hb6 hfb HQ1
              go_wp2_with fail
              refine HA6.out.mono ?_
              rintro e w7 ⟨rfl, b7⟩
              have HB7 := Lib.hid (HB6.out.trans (b7.mono HB6.out.size))
              clear b7
              go_wp2_with fail
              go_ret
              exact ⟨rfl, HB7.out⟩
end Go.Proofs.YtlmmfhbdebfgkaaGreatDoor.Ex
