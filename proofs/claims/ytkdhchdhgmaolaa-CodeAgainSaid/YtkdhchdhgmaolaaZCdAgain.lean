/-
  CodeAgain, walked.
-/
import Derived.Test.YtkdhchdhgmaolaaZTzB
import Derived.Test.YtkdhchdhgmaolaaZCdAwake
import Derived.Deep.DeepCutAuto
namespace Go.Proofs.Ytkdhchdhgmaolaa.Cd
open Go.RowKit
open Pk Va
set_option linter.unusedVariables false
set_option linter.unusedSimpArgs false

/-- A call's contract, among worlds that have grown out of W0. -/
theorem good_calls' {P : Program} {f : FuncId} {args : Array Value} {W0 W : World} {R : Ending → Prop} (k : Good W0 W) (h : Calls P f args W fun e w' => R e ∧ Below W.heap.size W w') : Calls P f args W fun e w' => R e ∧ Good W0 w' :=
  h.mono fun _ _ g => ⟨g.1, k.step g.2⟩
def GotM (X : MailP × Nat) (w : World) (e : Ending) (w' : World) : Prop :=
  ∃ ka kc fa fc, e = .returned (.tuple #[.agg #[.int .i64 X.1.id, .string (S X.1.chan), .slice ka X.1.key.length kc, .slice fa X.1.fields.length fc], .int .i64 (X.2 : Int)]) ∧ Below w.heap.size w w' ∧ ValsAt w' ka X.1.key ∧ ValsAt w' fa X.1.fields
theorem GetMail_got (s : List UInt8) (hs : s.length ≤ 1000000) (w : World) :
    Calls Try.prog 10 #[.string (S s)] w fun e w' => GotM (getM s) w e w' :=
  (GetMail_any s hs w).mono fun e w' ⟨r, ka, dk, kc, fa, df, fc, he, ek, ef, hb, _, vk, vf⟩ =>
    ⟨ka, kc, fa, fc, by rw [he, ← ek, ← ef, List.length_map, List.length_map], hb, by rw [← ek]; exact vk.vals, by rw [← ef]; exact vf.vals⟩
theorem S_zero (s : List UInt8) : S s ++ ⟨#[0]⟩ = S (s ++ [0]) := by
  apply ByteArray.ext
  simp [S]

theorem egood_len {x : EventP} (h : EGood x) : x.attrs.length ≤ 281474976710656 := by
  have ok := h.ok
  unfold eventOk at ok
  simp only [Bool.and_eq_true] at ok
  have := rowOk_len ok.2
  omega

set_option maxRecDepth 100000 in
set_option maxHeartbeats 8000000 in
theorem CodeAgain_small (s : List UInt8) (hs : s.length ≤ 5000) (w : World) :
    Calls Try.prog 6 #[.string (S s)] w fun e w' => e = .returned (.bool true) ∧ Below w.heap.size w w' := by
  have hsz : ¬ (5000 : Int) < ((S s).size : Int) := by rw [S_size]; omega
  have HAW := Lib.hid (fun W (k : Good w W) => good_calls' (R := fun e => e = .returned (.bool true)) k (awake_any W))
  have HGI := Lib.hid (fun W => GetItem_any s (by omega) W)
  obtain ⟨s9, hs9⟩ : ∃ s9, s9 = s ++ [0] := ⟨_, rfl⟩
  have HGZ := Lib.hid (fun W => GetItem_any s9 (by rw [hs9]; simp; omega) W)
  have HGM := Lib.hid (fun W => GetMail_got s (by omega) W)
  have HGE := Lib.hid (fun W => GetEvent_any s (by omega) W)
  have HGS := Lib.hid (fun W => GetSub_any s (by omega) W)
  obtain ⟨⟨X, gi⟩, hgi⟩ : ∃ d, getI s = d := ⟨_, rfl⟩
  obtain ⟨⟨M, gm⟩, hgm⟩ : ∃ d, getM s = d := ⟨_, rfl⟩
  obtain ⟨⟨Y, ge⟩, hge⟩ : ∃ d, getE s = d := ⟨_, rfl⟩
  obtain ⟨⟨Z, gs⟩, hgs⟩ : ∃ d, getS s = d := ⟨_, rfl⟩
  obtain ⟨⟨X2, gz⟩, hgz⟩ : ∃ d, getI s9 = d := ⟨_, rfl⟩
  rw [hgi] at HGI
  rw [hgm] at HGM
  rw [hge] at HGE
  rw [hgs] at HGS
  rw [hgz] at HGZ
  have hz9 : S s9 = S s ++ ⟨#[0]⟩ := by rw [hs9, S_zero]
  rw [hz9] at HGZ
  clear hz9
  have HOI := Lib.hid (fun (h : gi = 0) => show IGood X ∧ itemB X = s ∧ gz = 4 from by
    have h1 := getI_ok (hgi.trans (by rw [h]))
    rw [← hs9, hgz] at h1
    exact h1)
  have HOM := Lib.hid (fun (h : gm = 0) => show MGood M ∧ mailB M = s from getM_ok (hgm.trans (by rw [h])))
  have HOE := Lib.hid (fun (h : ge = 0) => show EGood Y ∧ eventB Y = s from getE_ok (hge.trans (by rw [h])))
  have HOS := Lib.hid (fun (h : gs = 0) => show (Num64 Z.id ∧ Num64 Z.past) ∧ subOk Z = true ∧ subB Z = s from getS_ok (hgs.trans (by rw [h])))
  generalize hT : S s = T at *
  have HT := Lib.hid hT
  have HG0 := Lib.hid (Good.refl w)
  clear hgi hgm hge hgs hgz hs hT hs9
  go_enter Try.func6, Try.ntmps6
  go_wp2_with fail
  refine (HAW.out _ HG0.out).mono ?_
  rintro e w1 ⟨rfl, b1⟩
  have HG1 := Lib.hid b1
  clear b1
  go_wp2_with fail
  refine (HGI.out _).mono ?_
  rintro e w2 ⟨aa, ac, ca, cc, ba, bc, rfl, b2, ha, hc, hm⟩
  (try simp only at ha hc hm)
  have HG2 := Lib.hid (HG1.out.step b2)
  clear b2
  have HA := Lib.hid ha
  have HC := Lib.hid hc
  have HM := Lib.hid hm
  clear ha hc hm
  go_upto_if 33 with fail
  go_cut [0] (fun s0 wx => s0 = .string T ∧ Good w wx)
  case first =>
    by_cases h0 : gi = 0
    · subst h0
      obtain ⟨hg, hb, hz⟩ := HOI.out rfl
      subst hz
      have hok := hg.ok
      have HPT := Lib.hid (fun W h1 h2 h3 => PutItem_any X (igood_in hg) aa ac ca cc ba bc W h1 h2 h3)
      unfold putR at HPT
      rw [hok, hb, if_pos rfl, if_pos rfl, HT.out] at HPT
      go_wp2_with fail
      refine (HPT.out _ (HA.out.below ((Below.refl _ _).alloc (Nat.le_refl _) _)) (HC.out.below ((Below.refl _ _).alloc (Nat.le_refl _) _)) (HM.out.below ((Below.refl _ _).alloc (Nat.le_refl _) _))).mono ?_
      rintro e w3 ⟨rfl, b3⟩
      have HG3 := Lib.hid ((HG2.out.alloc _).step b3)
      clear b3
      go_wp2_with fail
      refine (HGZ.out _).mono ?_
      rintro e w4 ⟨a9, c9, d9, e9, f9, g9, rfl, b4, h1, h2, h5⟩
      clear h1 h2 h5
      have HG4 := Lib.hid (HG3.out.step b4)
      clear b4
      (try simp only)
      go_wp2_with fail
      go_meet
      case rel => exact ⟨rfl, HG4.out.alloc _⟩
    · have h3 := (err_ne gi h0).1
      have h4 := (err_ne gi h0).2
      go_wp2_with fail
      go_meet
      case rel => exact ⟨rfl, HG2.out.alloc _⟩
  case rest =>
    obtain ⟨rfl, hg⟩ := hcut
    have HG1 := Lib.hid hg
    clear hg
    go_wp2_with fail
    refine (HGM.out _).mono ?_
    rintro e w2 ⟨ka, kc, fa, fc, rfl, b2, ha, hc⟩
    (try simp only at ha hc)
    have HG2 := Lib.hid (HG1.out.step b2)
    clear b2
    have HA := Lib.hid ha
    have HC := Lib.hid hc
    clear ha hc
    go_upto_if 62 with fail
    go_cut [0] (fun s0 wx => s0 = .string T ∧ Good w wx)
    case first =>
      by_cases h0 : gm = 0
      · subst h0
        obtain ⟨hg, hb⟩ := HOM.out rfl
        have hok := hg.2.2.2
        have HPT := Lib.hid (fun W h1 h2 => PutMail_any M (mgood_in hg) ka kc fa fc W h1 h2)
        unfold putR at HPT
        rw [hok, hb, if_pos rfl, if_pos rfl, HT.out] at HPT
        go_wp2_with fail
        refine (HPT.out _ (HA.out.below ((Below.refl _ _).alloc (Nat.le_refl _) _)) (HC.out.below ((Below.refl _ _).alloc (Nat.le_refl _) _))).mono ?_
        rintro e w3 ⟨rfl, b3⟩
        have HG3 := Lib.hid ((HG2.out.alloc _).step b3)
        clear b3
        go_wp2_with fail
        go_meet
        case rel => exact ⟨rfl, HG3.out⟩
      · have h3 := (err_ne gm h0).1
        have h4 := (err_ne gm h0).2
        go_wp2_with fail
        go_meet
        case rel => exact ⟨rfl, HG2.out.alloc _⟩
    case rest =>
      obtain ⟨rfl, hg⟩ := hcut
      have HG1 := Lib.hid hg
      clear hg
      go_wp2_with fail
      refine (HGE.out _).mono ?_
      rintro e w2 ⟨aa, ac, rfl, b2, ha⟩
      (try simp only at ha)
      have HG2 := Lib.hid (HG1.out.step b2)
      clear b2
      have HA := Lib.hid ha
      clear ha
      go_upto_if 81 with fail
      go_cut [0] (fun s0 wx => s0 = .string T ∧ Good w wx)
      case first =>
        by_cases h0 : ge = 0
        · subst h0
          obtain ⟨hg, hb⟩ := HOE.out rfl
          have hok := hg.ok
          have HPT := Lib.hid (fun W h1 => PutEvent_any Y ⟨hg.n, hg.tick, hg.item⟩ (fun v hv => vgood_in (hg.attrs v hv)) (egood_len hg) aa ac W h1)
          unfold putR at HPT
          rw [hok, hb, if_pos rfl, if_pos rfl, HT.out] at HPT
          go_wp2_with fail
          refine (HPT.out _ (HA.out.below ((Below.refl _ _).alloc (Nat.le_refl _) _))).mono ?_
          rintro e w3 ⟨rfl, b3⟩
          have HG3 := Lib.hid ((HG2.out.alloc _).step b3)
          clear b3
          go_wp2_with fail
          go_meet
          case rel => exact ⟨rfl, HG3.out⟩
        · have h3 := (err_ne ge h0).1
          have h4 := (err_ne ge h0).2
          go_wp2_with fail
          go_meet
          case rel => exact ⟨rfl, HG2.out.alloc _⟩
      case rest =>
        obtain ⟨rfl, hg⟩ := hcut
        have HG1 := Lib.hid hg
        clear hg
        go_wp2_with fail
        refine (HGS.out _).mono ?_
        rintro e w2 ⟨rfl, b2⟩
        (try simp only at b2)
        have HG2 := Lib.hid (HG1.out.step b2)
        clear b2
        go_upto_if 100 with fail
        go_cut [0] (fun s0 wx => s0 = .string T ∧ Good w wx)
        case first =>
          by_cases h0 : gs = 0
          · subst h0
            obtain ⟨hg, hok, hb⟩ := HOS.out rfl
            have HPT := Lib.hid (fun W => PutSub_any Z hg W)
            unfold putR at HPT
            rw [hok, hb, if_pos rfl, if_pos rfl, HT.out] at HPT
            go_wp2_with fail
            refine (HPT.out _).mono ?_
            rintro e w3 ⟨rfl, b3⟩
            have HG3 := Lib.hid ((HG2.out.alloc _).step b3)
            clear b3
            go_wp2_with fail
            go_meet
            case rel => exact ⟨rfl, HG3.out⟩
          · have h3 := (err_ne gs h0).1
            have h4 := (err_ne gs h0).2
            go_wp2_with fail
            go_meet
            case rel => exact ⟨rfl, HG2.out.alloc _⟩
        case rest =>
          obtain ⟨rfl, hg⟩ := hcut
          have HG1 := Lib.hid hg
          clear hg
          go_wp2_with fail
          refine (HAW.out _ HG1.out).mono ?_
          rintro e w9 ⟨rfl, b9⟩
          have HG9 := Lib.hid b9
          clear b9
          go_wp2_with fail
          go_ret
          exact ⟨rfl, HG9.out⟩

set_option maxRecDepth 100000 in
theorem CodeAgain_door (s : ByteArray) (w : World) (hs : s.size ≤ 140737488355328) :
    Calls Try.prog 6 #[.string s] w fun e w' => e = .returned (.bool true) ∧ Below w.heap.size w w' := by
  by_cases h : s.size ≤ 5000
  · have e : s = S s.data.toList := by apply ByteArray.ext; simp [S]
    rw [e]
    exact CodeAgain_small _ (by simpa using h) w
  · have hsz : (5000 : Int) < (s.size : Int) := by omega
    have HAW := Lib.hid (fun W (k : Good w W) => good_calls' (R := fun e => e = .returned (.bool true)) k (awake_any W))
    have HG0 := Lib.hid (Good.refl w)
    clear h hs
    go_enter Try.func6, Try.ntmps6
    go_wp2_with fail
    refine (HAW.out _ HG0.out).mono ?_
    rintro e w1 ⟨rfl, b1⟩
    have HG1 := Lib.hid b1
    clear b1
    go_wp2_with fail
    refine (HAW.out _ HG1.out).mono ?_
    rintro e w9 ⟨rfl, b9⟩
    have HG9 := Lib.hid b9
    clear b9
    go_wp2_with fail
    go_ret
    exact ⟨rfl, HG9.out⟩
end Go.Proofs.Ytkdhchdhgmaolaa.Cd
