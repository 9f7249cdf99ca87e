/-
  LxRBlank, LxRQuo, LxRTokP, LxRSaid, LxDig, LxRScanW, ExRTok, LxBlk, LxRun.
-/
import Derived.Test.YtlmmfhbdebfgkaaGreatDoorYExPureQ
import Derived.Test.YtlmmfhbdebfgkaaGreatDoorYLxBackQ
import Derived.Test.YtlmmfhbdebfgkaaGreatDoorYVaOrderQ
import Derived.Test.YtlmmfhbdebfgkaaGreatDoorYVaPureQ
import Derived.Test.YtlmmfhbdebfgkaaGreatDoorYExConsQ
import Derived.Test.YtlmmfhbdebfgkaaGreatDoorYExRdgQ
import Derived.Lib.ParseIntB
import Derived.Laws.AppendOwn
import GoSem.Claims
namespace Go.Proofs.YtlmmfhbdebfgkaaGreatDoor.Lx
open Go.RowKit
open Va
structure BlSt (l : List UInt8) (a : Nat) (c : Bool) (n : Nat) : Prop where
  eq : blk false (l.drop a) = (n - a) + blk c (l.drop n)
  le : a ≤ n
set_option linter.unusedSimpArgs false
end Go.Proofs.YtlmmfhbdebfgkaaGreatDoor.Lx
namespace Go.Proofs.YtlmmfhbdebfgkaaGreatDoor.Lx
open Go.RowKit
open Va
def endQ : List UInt8 → Option Nat
  | [] => none
  | [c] => if c = 92 then none else if c = 34 then some 1 else none
  | c :: d :: r => if c = 92 then (endQ r).map (· + 2) else if c = 34 then some 1 else (endQ (d :: r)).map (· + 1)
structure QeSt (l : List UInt8) (a i : Nat) : Prop where
  eq : endQ (l.drop (a + 1)) = (endQ (l.drop i)).map (· + (i - (a + 1)))
  le : a + 1 ≤ i
set_option linter.unusedSimpArgs false
end Go.Proofs.YtlmmfhbdebfgkaaGreatDoor.Lx
namespace Go.Proofs.YtlmmfhbdebfgkaaGreatDoor.Lx
open Va
structure TwSt (p : UInt8 → Bool) (l : List UInt8) (a n : Nat) : Prop where
  eq : (l.drop a).takeWhile p = (l.drop a).take (n - a) ++ (l.drop n).takeWhile p
  le : a ≤ n
end Go.Proofs.YtlmmfhbdebfgkaaGreatDoor.Lx
namespace Go.Proofs.YtlmmfhbdebfgkaaGreatDoor.Lx
open Go.RowKit
open Va
structure SaSt (m t0 : List UInt8) (p : Nat) : Prop where
  eq : m = escT t0 ++ m.drop p
  le : p ≤ m.length
inductive SaIn (m t0 : List UInt8) (P : Nat) (w wr : World) (vb va vf : Value) (c : Nat) : Prop where
  | no : vf = .bool false → va = .int .i64 (P : Int) → Buf w.heap.size w wr vb t0 → (∀ d : UInt8, d.toNat < c → ¬ esc d <+: m.drop (P - 1)) → SaIn m t0 P w wr vb va vf c
  | yes (t1 : List UInt8) (Q : Nat) : vf = .bool true → va = .int .i64 (Q : Int) → P < Q → SaSt m t1 (Q - 1) → Buf w.heap.size w wr vb t1 → SaIn m t0 P w wr vb va vf c
end Go.Proofs.YtlmmfhbdebfgkaaGreatDoor.Lx
namespace Go.Proofs.YtlmmfhbdebfgkaaGreatDoor.Lx
open Va
def dfold (acc : Nat) (d : List UInt8) : Nat := d.foldl (fun a c => 10 * a + (c.toNat - 48)) acc
theorem dfold_cons (acc : Nat) (c : UInt8) (d : List UInt8) : dfold acc (c :: d) = dfold (10 * acc + (c.toNat - 48)) d := by simp only [dfold, List.foldl_cons]
theorem dfold_ge (acc : Nat) (d : List UInt8) : acc ≤ dfold acc d := by
  induction d generalizing acc with
  | nil => exact Nat.le_refl _
  | cons c d ih => rw [dfold_cons]; exact Nat.le_trans (by omega) (ih _)
theorem digB_iff (c : UInt8) : digB c = true ↔ 48 ≤ c.toNat ∧ c.toNat ≤ 57 := by
  unfold digB
  simp [UInt8.le_iff_toNat_le]
theorem uintM_digs (d : List UInt8) (h : ∀ c ∈ d, digB c = true) (acc : Nat) (ha : acc ≤ 18446744073709551615) :
    Lib.parseUintM (2 ^ 64 - 1) acc d = if dfold acc d ≤ 18446744073709551615 then .ok (dfold acc d) else .range := by
  induction d generalizing acc with
  | nil =>
    show Lib.NumEnd.ok acc = _
    rw [if_pos (show dfold acc [] ≤ _ from ha)]; rfl
  | cons c d ih =>
    have hc := (digB_iff c).1 (h c (by simp))
    have hge := dfold_ge (10 * acc + (c.toNat - 48)) d
    unfold Lib.parseUintM
    rw [if_pos hc, dfold_cons]
    by_cases h1 : 1844674407370955162 ≤ acc
    · rw [if_pos h1, if_neg (by omega)]
    · rw [if_neg h1]
      by_cases h2 : 2 ^ 64 - 1 < acc * 10 + (c.toNat - 48)
      · rw [if_pos h2, if_neg (by omega)]
      · rw [if_neg h2, show acc * 10 + (c.toNat - 48) = 10 * acc + (c.toNat - 48) by omega]
        exact ih (fun x hx => h x (by simp [hx])) _ (by omega)
theorem intB_digs (d : List UInt8) (hne : d ≠ []) (h : ∀ c ∈ d, digB c = true) :
    Lib.parseIntB 64 d = if undig d ≤ 9223372036854775807 then .ok ((undig d : Nat) : Int) else .range := by
  cases d with
  | nil => exact absurd rfl hne
  | cons c r =>
    have hc := (digB_iff c).1 (h c (by simp))
    have hu : undig (c :: r) = dfold 0 (c :: r) := rfl
    have hm := uintM_digs (c :: r) h 0 (by omega)
    unfold Lib.parseIntB
    simp only
    rw [if_neg (by omega)]
    unfold Lib.parseUintB
    rw [if_neg (by simp), hm, hu]
    by_cases h1 : dfold 0 (c :: r) ≤ 18446744073709551615
    · rw [if_pos h1]
      simp only
      have hn : ¬ c.toNat = 45 := by omega
      by_cases h2 : dfold 0 (c :: r) ≤ 9223372036854775807
      · rw [if_pos h2, if_neg (by omega), if_neg (by simp [hn]), if_neg hn]
      · rw [if_neg h2, if_pos ⟨hn, by omega⟩]
    · rw [if_neg h1, if_neg (by omega)]
def digM (l : List UInt8) : Option Tok := let d := l.takeWhile digB; if digsOk d = true then some ⟨2, d, undig d, d.length⟩ else none
theorem digsOk_eq (d : List UInt8) : digsOk d = ((d.length == 1 || d.head? != some 48) && decide (undig d ≤ 9223372036854775807)) := rfl
end Go.Proofs.YtlmmfhbdebfgkaaGreatDoor.Lx
namespace Go.Proofs.YtlmmfhbdebfgkaaGreatDoor.Lx
open Go.RowKit
open Va
def rtoksC (ts : List TA) : List Value := ts.flatMap fun t => [.int .i64 t.kind, .string (S t.text), .int .i64 t.num, .int .i64 (t.at_ : Int)]
def RToks (w : World) (B : Nat) (v : Value) (ts : List TA) : Prop := w.ownsRow B 79 4 v ts.length (rtoksC ts)
theorem RToks.kept {w w' : World} {B : Nat} {v : Value} {ts : List TA} (h : RToks w B v ts) (hb : Below w.heap.size w w') : RToks w' B v ts :=
  World.ownsRow.kept (row := none) h ⟨hb.os, hb.tape, hb.output, hb.size, fun k hk _ => hb.block k hk⟩ (Classical.em _)
structure RScLoop (l : List UInt8) (w : World) (v : Value) (ts : List TA) (m : Nat) (wr : World) : Prop where
  st : ScanSt l ts m
  len : ts.length ≤ m
  toks : RToks wr w.heap.size v ts
  below : Below w.heap.size w wr
set_option linter.unusedSimpArgs false
end Go.Proofs.YtlmmfhbdebfgkaaGreatDoor.Lx
namespace Go.Proofs.YtlmmfhbdebfgkaaGreatDoor.Ex
open Go.RowKit
open Lx
theorem rtoksC_get : ∀ (ts : List TA) (i : Nat) (t : TA), ts[i]? = some t →
    (rtoksC ts)[i * 4]? = some (.int .i64 t.kind) ∧ (rtoksC ts)[i * 4 + 1]? = some (.string (S t.text)) ∧ (rtoksC ts)[i * 4 + 2]? = some (.int .i64 t.num) ∧ (rtoksC ts)[i * 4 + 3]? = some (.int .i64 (t.at_ : Int))
  | [], i, t, h => by simp at h
  | a :: ts, 0, t, h => by
    obtain rfl : a = t := by simpa using h
    exact ⟨rfl, rfl, rfl, rfl⟩
  | a :: ts, i + 1, t, h => by
    have ih := rtoksC_get ts i t (by simpa using h)
    have e : ∀ k, (rtoksC (a :: ts))[(i + 1) * 4 + k]? = (rtoksC ts)[i * 4 + k]? := fun k => by
      show ([Value.int .i64 a.kind, .string (S a.text), .int .i64 a.num, .int .i64 (a.at_ : Int)] ++ rtoksC ts)[(i + 1) * 4 + k]? = _
      rw [List.getElem?_append_right (by simp; omega)]
      congr 1
      simp; omega
    exact ⟨by rw [show (i + 1) * 4 = (i + 1) * 4 + 0 from rfl, e 0]; exact ih.1, by rw [e 1]; exact ih.2.1, by rw [e 2]; exact ih.2.2.1, by rw [e 3]; exact ih.2.2.2⟩
theorem RToks.ts {w : World} {B : Nat} {v : Value} {ts : List TA} (h : RToks w B v ts) (hne : ts ≠ []) : ∃ g cap, v = .slice (some ⟨g, 0, none⟩) ts.length cap ∧ B ≤ g ∧ TsAt w g ts := by
  have hpos := List.length_pos_iff.2 hne
  rcases h.2 with ⟨_, h0⟩ | ⟨g, cap, cur, rfl, hB, hg, _⟩
  · omega
  · refine ⟨g, cap, rfl, hB, (Array.getElem?_eq_some_iff.1 hg).1, fun i t hi => ?_⟩
    obtain ⟨h0, h1, h2, h3⟩ := rtoksC_get ts i t hi
    have c : ∀ k u, (rtoksC ts)[i * 4 + k]? = some u → w.cell? ⟨g, i * 4 + k, none⟩ = some u := fun k u hu => by
      have := World.ownsRow.cells h (g := g) rfl (i * 4 + k) u hu
      have hadd : (⟨g, 0, none⟩ : Addr).add (i * 4 + k) = ⟨g, i * 4 + k, none⟩ := by unfold Addr.add; split <;> simp_all
      rw [hadd] at this
      exact this
    exact ⟨c 0 _ h0, c 1 _ h1, c 2 _ h2, c 3 _ h3⟩
theorem tokM_ne {l : List UInt8} {t : Tok} (h : tokM l = some t) : t.kind ≠ 0 := by
  unfold tokM at h
  split at h
  · cases h
  · simp only at h
    repeat' split at h
    all_goals first
      | (obtain rfl := Option.some.inj h; simp)
      | cases h
theorem scanF_ends : ∀ (f : Nat) (l : List UInt8) (a : Nat) (ts : List TA), scanF f l a = (ts, none) → ∃ m e, ts = m ++ [e] ∧ e.kind = 0 ∧ ∀ t ∈ m, t.kind ≠ 0
  | 0, l, a, ts, h => by
    unfold scanF at h
    cases h
  | f + 1, l, a, ts, h => by
    unfold scanF at h
    simp only at h
    split at h
    · cases h
      exact ⟨[], _, rfl, rfl, by simp⟩
    · rename_i c r hm
      split at h
      · cases h
      · rename_i t ht
        obtain ⟨us, o, hu⟩ : ∃ us o, scanF f ((c :: r).drop t.len) (a + blk false l + t.len) = (us, o) := ⟨_, _, rfl⟩
        rw [hu] at h
        simp only [Prod.mk.injEq] at h
        obtain ⟨rfl, rfl⟩ := h
        obtain ⟨m, e, rfl, he, hk⟩ := scanF_ends f _ _ us hu
        exact ⟨_ :: m, e, rfl, he, fun x hx => by
          rcases List.mem_cons.1 hx with rfl | hx
          · exact tokM_ne ht
          · exact hk x hx⟩
theorem ends_of {m : List TA} {e : TA} (he : e.kind = 0) (hk : ∀ t ∈ m, t.kind ≠ 0) : Ends (m ++ [e]) := by
  refine ⟨by simp, fun i hi => ?_, ?_⟩
  · have h1 : i < m.length := by simp at hi; omega
    have e1 : tk (m ++ [e]) i = m[i] := by
      simp [tk, List.getD_eq_getElem?_getD, List.getElem?_append_left h1, h1]
    rw [e1]
    exact hk _ (List.getElem_mem _)
  · have e1 : tk (m ++ [e]) ((m ++ [e]).length - 1) = e := by simp [tk, List.getD_eq_getElem?_getD]
    rw [e1]; exact he
theorem scan_ends {l : List UInt8} {ts : List TA} (h : scanM l 0 = (ts, none)) : Ends ts := by
  obtain ⟨m, e, rfl, he, hk⟩ := scanF_ends _ l 0 ts (show scanF (l.length + 1) l 0 = (ts, none) from h)
  exact ends_of he hk
end Go.Proofs.YtlmmfhbdebfgkaaGreatDoor.Ex
namespace Go.Proofs.YtlmmfhbdebfgkaaGreatDoor.Lx
open Va
def aft : List UInt8 → List UInt8
  | [] => []
  | c :: r => if c = 10 then r else aft r
theorem aft_le : ∀ l, (aft l).length ≤ l.length - 1
  | [] => by simp [aft]
  | c :: r => by
    unfold aft
    have := aft_le r
    split <;> simp; omega
def trimW (l : List UInt8) : List UInt8 := l.dropWhile whiteB
theorem trimW_le (l : List UInt8) : (trimW l).length ≤ l.length := (List.dropWhile_sublist _).length_le
theorem blk_trim : ∀ l, blk false l = (l.length - (trimW l).length) + blk false (trimW l)
  | [] => by simp [blk, trimW]
  | c :: r => by
    unfold trimW
    rw [List.dropWhile_cons]
    by_cases h : whiteB c = true
    · rw [if_pos h, blk_f, if_pos h, blk_trim r]
      have := trimW_le r
      unfold trimW at this ⊢
      simp only [List.length_cons]
      omega
    · rw [if_neg h]; simp
theorem blk_aft : ∀ l, blk true l = (l.length - (aft l).length) + blk false (aft l)
  | [] => by simp [blk, aft]
  | c :: r => by
    rw [blk_t]
    unfold aft
    by_cases h : c = 10
    · rw [if_pos h, if_pos h]; simp only [List.length_cons]; omega
    · rw [if_neg h, if_neg h, blk_aft r]
      have := aft_le r
      simp only [List.length_cons]
      omega
theorem trimW_head (l : List UInt8) : ∀ c r, trimW l = c :: r → whiteB c = false := by
  intro c r h
  unfold trimW at h
  induction l with
  | nil => simp at h
  | cons d l ih =>
    rw [List.dropWhile_cons] at h
    by_cases hd : whiteB d = true
    · rw [if_pos hd] at h; exact ih h
    · rw [if_neg hd] at h; cases h; simpa using hd
def comB (l : List UInt8) : Bool := [47, 47].isPrefixOf l
theorem blk_com (l : List UInt8) (h : comB l = true) : blk false l = (l.length - (aft l).length) + blk false (aft l) ∧ (aft l).length + 2 ≤ l.length := by
  match l, h with
  | [], h => simp [comB, List.isPrefixOf] at h
  | [_], h => simp [comB, List.isPrefixOf] at h
  | c :: d :: r, h =>
    have h' : c = 47 ∧ d = 47 := by
      simp [comB, List.isPrefixOf] at h; exact ⟨h.1.symm, h.2.symm⟩
    obtain ⟨rfl, rfl⟩ := h'
    have h1 := aft_le r
    have e1 : aft (47 :: 47 :: r) = aft r := rfl
    rw [blk_f, if_neg (by decide), if_pos ⟨rfl, rfl⟩, blk_t, if_neg (by decide), blk_aft r, e1]
    simp only [List.length_cons]
    omega
theorem blk_none (l : List UInt8) (h : comB (trimW l) = false) : blk false (trimW l) = 0 := by
  cases e : trimW l with
  | nil => rfl
  | cons c r =>
    have hw := trimW_head l c r e
    rw [blk_f, if_neg (by rw [hw]; decide), if_neg]
    rintro ⟨rfl, h2⟩
    rw [e] at h
    cases r with
    | nil => simp at h2
    | cons d s =>
      have : d = 47 := by simpa using h2
      subst this
      simp [comB, List.isPrefixOf] at h
theorem blk_round (s l : List UInt8) (hl : l.length ≤ s.length) (h : blk false s = (s.length - l.length) + blk false l) (hc : comB (trimW l) = true) :
    (aft (trimW l)).length ≤ s.length ∧ blk false s = (s.length - (aft (trimW l)).length) + blk false (aft (trimW l)) ∧ (aft (trimW l)).length < l.length := by
  have h1 := trimW_le l
  obtain ⟨h2, h3⟩ := blk_com _ hc
  have h4 := blk_trim l
  omega
theorem blk_done (s l : List UInt8) (hl : l.length ≤ s.length) (h : blk false s = (s.length - l.length) + blk false l) (hc : comB (trimW l) = false) :
    blk false s = s.length - (trimW l).length := by
  have h1 := trimW_le l
  have h2 := blk_none l hc
  have h4 := blk_trim l
  omega
end Go.Proofs.YtlmmfhbdebfgkaaGreatDoor.Lx
namespace Go.Proofs.YtlmmfhbdebfgkaaGreatDoor.Lx
open Go.RowKit
open Va
theorem lxLetter_any (c : Int) (w : World) : Calls Tryz.prog 71 #[.int .i32 c] w fun e w' => e = .returned (.bool (letR c)) ∧ w = w' := by
  by_cases h1 : 65 ≤ c
  · by_cases h2 : c ≤ 90
    · have HR := Lib.hid (show true = letR c by unfold letR; simp [h1, h2])
      go_enter Tryz.func71, Tryz.ntmps71
      go_wp2_with fail
      go_ret
      exact ⟨ret_b HR.out, rfl⟩
    · by_cases h3 : 97 ≤ c
      · by_cases h4 : c ≤ 122
        · have HR := Lib.hid (show true = letR c by unfold letR; simp [h3, h4])
          go_enter Tryz.func71, Tryz.ntmps71
          go_wp2_with fail
          go_ret
          exact ⟨ret_b HR.out, rfl⟩
        · have HR := Lib.hid (show false = letR c by unfold letR; simp [h2, h4])
          go_enter Tryz.func71, Tryz.ntmps71
          go_wp2_with fail
          go_ret
          exact ⟨ret_b HR.out, rfl⟩
      · have HR := Lib.hid (show false = letR c by unfold letR; simp [h2, h3])
        go_enter Tryz.func71, Tryz.ntmps71
        go_wp2_with fail
        go_ret
        exact ⟨ret_b HR.out, rfl⟩
  · have h3 : ¬ 97 ≤ c := by omega
    have HR := Lib.hid (show false = letR c by unfold letR; simp [h1, h3])
    go_enter Tryz.func71, Tryz.ntmps71
    go_wp2_with fail
    go_ret
    exact ⟨ret_b HR.out, rfl⟩
theorem lxDigit_any (c : Int) (w : World) : Calls Tryz.prog 73 #[.int .i32 c] w fun e w' => e = .returned (.bool (digR c)) ∧ w = w' := by
  by_cases h1 : 48 ≤ c
  · by_cases h2 : c ≤ 57
    · have HR := Lib.hid (show true = digR c by unfold digR; simp [h1, h2])
      go_enter Tryz.func73, Tryz.ntmps73
      go_wp2_with fail
      go_ret
      exact ⟨ret_b HR.out, rfl⟩
    · have HR := Lib.hid (show false = digR c by unfold digR; simp [h2])
      go_enter Tryz.func73, Tryz.ntmps73
      go_wp2_with fail
      go_ret
      exact ⟨ret_b HR.out, rfl⟩
  · have HR := Lib.hid (show false = digR c by unfold digR; simp [h1])
    go_enter Tryz.func73, Tryz.ntmps73
    go_wp2_with fail
    go_ret
    exact ⟨ret_b HR.out, rfl⟩
def wordR (c : Int) : Bool := letR c || (digR c || c == 95)
theorem wordR_byte (c : UInt8) : (letB c || (digB c || c == 95)) = wordB c := by unfold wordB; rw [Bool.or_assoc]
theorem inName_any (c : Int) (w : World) : Calls Tryz.prog 124 #[.int .i32 c] w fun e w' => e = .returned (.bool (wordR c)) ∧ w = w' := by
  have HL := Lib.hid (lxLetter_any c)
  have HD := Lib.hid (lxDigit_any c)
  cases hl : letR c with
  | true =>
    have HR := Lib.hid (show true = wordR c by unfold wordR; rw [hl]; rfl)
    rw [hl] at HL
    clear hl
    go_enter Tryz.func124, Tryz.ntmps124
    go_wp2_with fail
    refine (HL.out _).mono ?_
    rintro e w' ⟨rfl, rfl⟩
    go_wp2_with fail
    go_ret
    exact ⟨ret_b HR.out, rfl⟩
  | false =>
    rw [hl] at HL
    cases hd : digR c with
    | true =>
      have HR := Lib.hid (show true = wordR c by unfold wordR; rw [hl, hd]; rfl)
      rw [hd] at HD
      clear hl hd
      go_enter Tryz.func124, Tryz.ntmps124
      go_wp2_with fail
      refine (HL.out _).mono ?_
      rintro e w' ⟨rfl, rfl⟩
      go_wp2_with fail
      refine (HD.out _).mono ?_
      rintro e w' ⟨rfl, rfl⟩
      go_wp2_with fail
      go_ret
      exact ⟨ret_b HR.out, rfl⟩
    | false =>
      have HR := Lib.hid (show (c == 95) = wordR c by unfold wordR; rw [hl, hd]; rfl)
      rw [hd] at HD
      clear hl hd
      go_enter Tryz.func124, Tryz.ntmps124
      go_wp2_with fail
      refine (HL.out _).mono ?_
      rintro e w' ⟨rfl, rfl⟩
      go_wp2_with fail
      refine (HD.out _).mono ?_
      rintro e w' ⟨rfl, rfl⟩
      go_wp2_with fail
      go_ret
      exact ⟨ret_b HR.out, rfl⟩
theorem tw_at (p : UInt8 → Bool) (l : List UInt8) (k : Nat) (hk : k < l.length) (h : (l.take k).all p = true) (h2 : p l[k] = false) : (l.takeWhile p).length = k := by
  have e : l = l.take k ++ l[k] :: l.drop (k + 1) := by
    rw [← List.drop_eq_getElem_cons hk, List.take_append_drop]
  conv => lhs; rw [e]
  rw [List.takeWhile_append_of_pos (fun a ha => List.all_eq_true.1 h a ha), List.takeWhile_cons, h2]
  simp; omega
theorem tw_all (p : UInt8 → Bool) (l : List UInt8) (h : l.all p = true) : (l.takeWhile p).length = l.length := by
  have := List.takeWhile_append_of_pos (p := p) (l₁ := l) (l₂ := []) (fun a ha => List.all_eq_true.1 h a ha)
  rw [List.append_nil, List.takeWhile_nil, List.append_nil] at this
  rw [this]
theorem rune_word (s : ByteArray) (pos : Nat) (h : pos < s.size) : wordR (runeB s pos) = wordB s[pos] := by
  obtain ⟨r1, r2, r3⟩ := rune_let s pos h
  unfold wordR
  rw [r1, r2, r3, wordR_byte]
theorem rune_dig (s : ByteArray) (pos : Nat) (h : pos < s.size) : digR (runeB s pos) = digB s[pos] := (rune_let s pos h).2.1
set_option linter.unusedSimpArgs false
set_option maxRecDepth 100000 in
set_option maxHeartbeats 1600000 in
theorem runWord_any (s : ByteArray) (hs : s.size ≤ 100000) (w : World) :
    Calls Tryz.prog 123 #[.string s, .func (.func 124) #[] #[]] w fun e w' => e = .returned (.int .i64 ((s.data.toList.takeWhile wordB).length : Int)) ∧ Below w.heap.size w w' := by
  have HF := Lib.hid inName_any
  have hls := list_size s
  have HLS := Lib.hid hls
  clear hls
  go_enter Tryz.func123, Tryz.ntmps123
  go_wp2_with fail
  go_loopw [] (fun wr => ∃ pos : Nat, wr.heap[w.heap.size]? = some (.stringIter s pos) ∧ Below w.heap.size w wr ∧ pos ≤ s.size ∧ Hid ((s.data.toList.take pos).all wordB = true)) (fun wr => s.size - wr.iterPos w.heap.size)
  case atStart => exact ⟨0, World.iter_heap w s 0, (Below.refl _ _).alloc (Nat.le_refl _) _, by omega, Lib.hid (by simp)⟩
  case round =>
    obtain ⟨pos, hit, hbw, hps, HK⟩ := hrel
    have HBW := Lib.hid hbw
    clear hbw
    by_cases hp : pos < s.size
    · have hnx : ∀ ty, (Instr.next (.pointer (some ⟨w.heap.size, 0, none⟩)) true ty).run Tryz.prog wr = _ := fun ty => Lib.run_next_any_at wr w.heap.size s pos ty hit hp
      have hit2 := Lib.iterAt_heap wr w.heap.size s pos (pos + (Utf8.decode s pos).2) hit
      have hbw2 := Lib.below_iterAt HBW.out (k := w.heap.size) (Nat.le_refl _) s (pos + (Utf8.decode s pos).2)
      have hm : wr.iterPos w.heap.size = pos := by simp [World.iterPos, hit]
      have HM := Lib.hid hm
      have hb := rune_word s pos hp
      have hrn : ((Utf8.decode s pos).1 : Int) = runeB s pos := rfl
      rw [hrn] at hnx
      have hlow : wordB s[pos] = true → (Utf8.decode s pos).2 = 1 := fun h => (rune_low s pos hp (letB_low (by first | exact .inr (.inl h) | simpa [wordB, digB, or_assoc] using h))).2
      have hall : (s.data.toList.take (pos + 1)).all wordB = wordB s[pos] := by
        rw [List.take_succ_eq_append_getElem (by rw [HLS.out]; exact hp), List.all_append, HK.out]
        simp only [List.all_cons, List.all_nil, Bool.and_true, Bool.true_and]; rfl
      have htw : wordB s[pos] = false → (s.data.toList.takeWhile wordB).length = pos := fun h => tw_at wordB _ pos (by rw [HLS.out]; exact hp) HK.out (by exact h)
      have HIT := Lib.hid hit2
      have HB2 := Lib.hid hbw2
      have HLOW := Lib.hid hlow
      have HALL := Lib.hid hall
      have HTW := Lib.hid htw
      have HC := Lib.hid (HF.out (runeB s pos))
      have HBY := Lib.hid hb
      clear hit hit2 hbw2 hm hb hrn hlow hall htw
      generalize hW1 : wr.iterAt w.heap.size s (pos + (Utf8.decode s pos).2) = W1 at *
      clear hW1
      generalize runeB s pos = rn at *
      cases hpb : wordB s[pos] with
      | true =>
        have hc := HC.out
        rw [HBY.out, hpb] at hc
        have HC2 := Lib.hid hc
        have HP := Lib.hid hpb
        clear hc hpb
        go_wp2_with fail
        refine (HC2.out _).mono ?_
        rintro e w' ⟨rfl, rfl⟩
        go_wp2_with fail
        go_roundw
        case rel =>
          have e1 := HLOW.out HP.out
          exact ⟨pos + 1, by rw [← e1]; exact HIT.out, HB2.out, by omega, Lib.hid (by rw [HALL.out, HP.out])⟩
        case measure =>
          have e1 := HLOW.out HP.out
          have e2 : W1.iterPos w.heap.size = pos + 1 := by rw [← e1]; simp [World.iterPos, HIT.out]
          rw [e2, HM.out]; omega
      | false =>
        have hc := HC.out
        rw [HBY.out, hpb] at hc
        have HC2 := Lib.hid hc
        have HR := Lib.hid (show (pos : Int) = ((s.data.toList.takeWhile wordB).length : Int) by rw [HTW.out hpb])
        clear hc hpb
        go_wp2_with fail
        refine (HC2.out _).mono ?_
        rintro e w' ⟨rfl, rfl⟩
        go_wp2_with fail
        go_ret
        exact ⟨ret_i HR.out, HB2.out⟩
    · obtain rfl : pos = s.size := by omega
      have hnx : ∀ ty, (Instr.next (.pointer (some ⟨w.heap.size, 0, none⟩)) true ty).run Tryz.prog wr = _ := fun ty => Lib.run_next_end_at wr w.heap.size s s.size ty hit hp
      have HR := Lib.hid (show (s.size : Int) = ((s.data.toList.takeWhile wordB).length : Int) by
        have h1 := HK.out
        rw [List.take_of_length_le (by rw [HLS.out]; exact Nat.le_refl _)] at h1
        rw [tw_all wordB _ h1, HLS.out])
      clear hit
      go_wp2_with fail
      go_ret
      exact ⟨ret_i HR.out, HBW.out⟩
set_option linter.unusedSimpArgs false
set_option maxRecDepth 100000 in
set_option maxHeartbeats 1600000 in
theorem runDig_any (s : ByteArray) (hs : s.size ≤ 100000) (w : World) :
    Calls Tryz.prog 123 #[.string s, .func (.func 73) #[] #[]] w fun e w' => e = .returned (.int .i64 ((s.data.toList.takeWhile digB).length : Int)) ∧ Below w.heap.size w w' := by
  have HF := Lib.hid lxDigit_any
  have hls := list_size s
  have HLS := Lib.hid hls
  clear hls
  go_enter Tryz.func123, Tryz.ntmps123
  go_wp2_with fail
  go_loopw [] (fun wr => ∃ pos : Nat, wr.heap[w.heap.size]? = some (.stringIter s pos) ∧ Below w.heap.size w wr ∧ pos ≤ s.size ∧ Hid ((s.data.toList.take pos).all digB = true)) (fun wr => s.size - wr.iterPos w.heap.size)
  case atStart => exact ⟨0, World.iter_heap w s 0, (Below.refl _ _).alloc (Nat.le_refl _) _, by omega, Lib.hid (by simp)⟩
  case round =>
    obtain ⟨pos, hit, hbw, hps, HK⟩ := hrel
    have HBW := Lib.hid hbw
    clear hbw
    by_cases hp : pos < s.size
    · have hnx : ∀ ty, (Instr.next (.pointer (some ⟨w.heap.size, 0, none⟩)) true ty).run Tryz.prog wr = _ := fun ty => Lib.run_next_any_at wr w.heap.size s pos ty hit hp
      have hit2 := Lib.iterAt_heap wr w.heap.size s pos (pos + (Utf8.decode s pos).2) hit
      have hbw2 := Lib.below_iterAt HBW.out (k := w.heap.size) (Nat.le_refl _) s (pos + (Utf8.decode s pos).2)
      have hm : wr.iterPos w.heap.size = pos := by simp [World.iterPos, hit]
      have HM := Lib.hid hm
      have hb := rune_dig s pos hp
      have hrn : ((Utf8.decode s pos).1 : Int) = runeB s pos := rfl
      rw [hrn] at hnx
      have hlow : digB s[pos] = true → (Utf8.decode s pos).2 = 1 := fun h => (rune_low s pos hp (letB_low (by first | exact .inr (.inl h) | simpa [wordB, digB, or_assoc] using h))).2
      have hall : (s.data.toList.take (pos + 1)).all digB = digB s[pos] := by
        rw [List.take_succ_eq_append_getElem (by rw [HLS.out]; exact hp), List.all_append, HK.out]
        simp only [List.all_cons, List.all_nil, Bool.and_true, Bool.true_and]; rfl
      have htw : digB s[pos] = false → (s.data.toList.takeWhile digB).length = pos := fun h => tw_at digB _ pos (by rw [HLS.out]; exact hp) HK.out (by exact h)
      have HIT := Lib.hid hit2
      have HB2 := Lib.hid hbw2
      have HLOW := Lib.hid hlow
      have HALL := Lib.hid hall
      have HTW := Lib.hid htw
      have HC := Lib.hid (HF.out (runeB s pos))
      have HBY := Lib.hid hb
      clear hit hit2 hbw2 hm hb hrn hlow hall htw
      generalize hW1 : wr.iterAt w.heap.size s (pos + (Utf8.decode s pos).2) = W1 at *
      clear hW1
      generalize runeB s pos = rn at *
      cases hpb : digB s[pos] with
      | true =>
        have hc := HC.out
        rw [HBY.out, hpb] at hc
        have HC2 := Lib.hid hc
        have HP := Lib.hid hpb
        clear hc hpb
        go_wp2_with fail
        refine (HC2.out _).mono ?_
        rintro e w' ⟨rfl, rfl⟩
        go_wp2_with fail
        go_roundw
        case rel =>
          have e1 := HLOW.out HP.out
          exact ⟨pos + 1, by rw [← e1]; exact HIT.out, HB2.out, by omega, Lib.hid (by rw [HALL.out, HP.out])⟩
        case measure =>
          have e1 := HLOW.out HP.out
          have e2 : W1.iterPos w.heap.size = pos + 1 := by rw [← e1]; simp [World.iterPos, HIT.out]
          rw [e2, HM.out]; omega
      | false =>
        have hc := HC.out
        rw [HBY.out, hpb] at hc
        have HC2 := Lib.hid hc
        have HR := Lib.hid (show (pos : Int) = ((s.data.toList.takeWhile digB).length : Int) by rw [HTW.out hpb])
        clear hc hpb
        go_wp2_with fail
        refine (HC2.out _).mono ?_
        rintro e w' ⟨rfl, rfl⟩
        go_wp2_with fail
        go_ret
        exact ⟨ret_i HR.out, HB2.out⟩
    · obtain rfl : pos = s.size := by omega
      have hnx : ∀ ty, (Instr.next (.pointer (some ⟨w.heap.size, 0, none⟩)) true ty).run Tryz.prog wr = _ := fun ty => Lib.run_next_end_at wr w.heap.size s s.size ty hit hp
      have HR := Lib.hid (show (s.size : Int) = ((s.data.toList.takeWhile digB).length : Int) by
        have h1 := HK.out
        rw [List.take_of_length_le (by rw [HLS.out]; exact Nat.le_refl _)] at h1
        rw [tw_all digB _ h1, HLS.out])
      clear hit
      go_wp2_with fail
      go_ret
      exact ⟨ret_i HR.out, HBW.out⟩
end Go.Proofs.YtlmmfhbdebfgkaaGreatDoor.Lx
