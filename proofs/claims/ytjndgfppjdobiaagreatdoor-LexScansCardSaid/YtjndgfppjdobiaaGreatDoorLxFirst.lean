/-
  The program's lexer: the token that a text begins with.
-/
import Derived.Test.YtjndgfppjdobiaaGreatDoorLxQuoted
import Derived.Test.YtjndgfppjdobiaaGreatDoorLxDigits
import Derived.Test.YtjndgfppjdobiaaGreatDoorLxSign
namespace Go.Proofs.YtjndgfppjdobiaaGreatDoor.Lx
open Go.RowKit
open Va

theorem tok_sym (r : List UInt8) : tokM (39 :: r) = symM r := by
  rw [tokM_cons, if_pos rfl]
  unfold symM nameM
  by_cases h : nameB (r.takeWhile wordB) = true
  · simp only [h, if_true]
  · simp only [if_neg h]
theorem tok_name (c : UInt8) (r : List UInt8) (h : letB c = true) : tokM (c :: r) = nameM (c :: r) := by
  have h39 : c ≠ 39 := by intro e; subst e; exact absurd h (by decide)
  rw [tokM_cons, if_neg h39, if_pos h]
  rfl
theorem tok_dig (c : UInt8) (r : List UInt8) (hl : letB c = false) (h : digB c = true) : tokM (c :: r) = digM (c :: r) := by
  have h39 : c ≠ 39 := by intro e; subst e; exact absurd h (by decide)
  rw [tokM_cons, if_neg h39, if_neg (by rw [hl]; decide), if_pos h]
  rfl
theorem tok_quo (r : List UInt8) : tokM (34 :: r) = quoM (34 :: r) := by
  rw [tokM_cons, if_neg (by decide), if_neg (by decide), if_neg (by decide), if_pos rfl]
  rfl
theorem tok_sign (c : UInt8) (r : List UInt8) (h39 : c ≠ 39) (hl : letB c = false) (hd : digB c = false) (h34 : c ≠ 34) : tokM (c :: r) = signM (c :: r) := by
  rw [tokM_cons, if_neg h39, if_neg (by rw [hl]; decide), if_neg (by rw [hd]; decide), if_neg h34]
  rfl
/-- What the lexer's calls need of the world. -/
structure Laid (w : World) : Prop where
  rng : ErrAt w 5
  syn : ErrAt w 4
  tab : Tab w
  signs : SignsAt w
  max : IntVar w 1
theorem Laid.below {w w' : World} (h : Laid w) (b : Below w.heap.size w w') : Laid w' :=
  ⟨h.rng.below b, h.syn.below b, h.tab.below b, h.signs.below b, h.max.below b⟩
theorem rune_let0 (c : UInt8) : letR (c.toNat : Int) = letB c ∧ digR (c.toNat : Int) = digB c := by
  have : ∀ i : Fin 256, letR (i.val : Int) = letB (UInt8.ofNat i.val) ∧ digR (i.val : Int) = digB (UInt8.ofNat i.val) := by decide +kernel
  have h := this ⟨c.toNat, c.toNat_lt⟩
  simpa using h
theorem ans_shape (x : Option Tok) : ∃ (k : Int) (t : List UInt8) (n : Int) (z : Nat), ansV x = .tuple #[.agg #[.int .i64 k, .string (S t), .int .i64 n, .int .i64 0], .int .i64 (z : Int)] := by
  cases x with
  | none => exact ⟨0, [], 0, 0, rfl⟩
  | some x => exact ⟨x.kind, x.text, x.num, x.len, rfl⟩

set_option linter.unusedSimpArgs false
set_option maxRecDepth 100000 in
set_option maxHeartbeats 6400000 in
theorem first_any (s : ByteArray) (hs : s.size ≤ 100000) (hs1 : 1 ≤ s.size) (w : World) (hL : Laid w) :
    Calls Tryz.prog 9 #[.string s] w fun e w' => e = .returned (ansV (tokM s.data.toList)) ∧ Below w.heap.size w w' := by
  have hls := list_size s
  have hb0 := (Below.refl w.heap.size w).alloc (Nat.le_refl _) (tokO 0 [] 0 0)
  have HG0 := Lib.hid (Good.refl (w.alloc (tokO 0 [] 0 0)))
  have HBOX := Lib.hid (box_here w 0 [] 0 0)
  have HFIN := Lib.hid (fun (wr : World) (h : Good (w.alloc (tokO 0 [] 0 0)) wr) => hb0.trans (h.mono (by simp)))
  have HLD := Lib.hid (fun (wr : World) (h : Good (w.alloc (tokO 0 [] 0 0)) wr) => (hL.below hb0).below h)
  obtain ⟨l, hl⟩ : ∃ l, s.data.toList = l := ⟨_, rfl⟩
  rw [hl] at hls ⊢
  have hsi : (1 : Int) ≤ (s.size : Int) := by omega
  match l, hl, hls with
  | [], _, hls => simp at hls; omega
  | c :: r, hl, hls =>
    have h0 : s[0]'hs1 = c := S_get s _ hl 0 hs1 c rfl
    have hc256 := byte_lt c
    obtain ⟨hrl, hrd⟩ := rune_let0 c
    have HLE := Lib.hid (lxLetter_any (c.toNat : Int))
    have HDI := Lib.hid (lxDigit_any (c.toNat : Int))
    rw [hrl] at HLE
    rw [hrd] at HDI
    clear hrl hrd hL hb0
    cases hlb : letB c with
    | true =>
      rw [hlb] at HLE
      have HT := Lib.hid (tok_name c r hlb)
      have HC := Lib.hid (fun wr => name_any s hs wr)
      rw [hl, ← HT.out] at HC
      clear hl hls hlb
      obtain ⟨k, t, n, z, hz⟩ := ans_shape (tokM (c :: r))
      have HZ := Lib.hid hz
      rw [hz] at HC
      clear hz HT
      go_enter Tryz.func9, Tryz.ntmps9
      go_wp2_with fail
      refine (HLE.out _).mono ?_
      rintro e w1 ⟨rfl, rfl⟩
      go_wp2_with fail
      refine (HC.out _).mono ?_
      rintro e w2 ⟨rfl, b2⟩
      have HGE := Lib.hid (HG0.out.step b2)
      clear b2
      obtain ⟨⟨c0, c1, c2, c3⟩, f0, f1, f2, f3⟩ := HBOX.out _ HGE.out
      go_wp2_with fail
      rw [HZ.out]
      obtain ⟨d0, d1, d2, d3⟩ := put4 c0 c1 c2 c3 (.int .i64 k) (.string (S t)) (.int .i64 n) (.int .i64 0)
      exact bodyPost_ret (v := .tuple #[.agg #[.int .i64 k, .string (S t), .int .i64 n, .int .i64 0], .int .i64 (z : Int)]) (by simp [results, d0, d1, d2, d3, Tryz.results9, go_sem]) rfl ⟨rfl, (((((HFIN.out _ HGE.out).setCell (p := ⟨w.heap.size, 0, none⟩) (Nat.le_refl _) _).setCell (p := ⟨w.heap.size, 1, none⟩) (Nat.le_refl _) _).setCell (p := ⟨w.heap.size, 2, none⟩) (Nat.le_refl _) _).setCell (p := ⟨w.heap.size, 3, none⟩) (Nat.le_refl _) _)⟩
    | false =>
      rw [hlb] at HLE
      cases hdb : digB c with
      | true =>
        rw [hdb] at HDI
        have HT := Lib.hid (tok_dig c r hlb hdb)
        have HC := Lib.hid (fun (wr : World) (h : Laid wr) => digits_any s hs (by rw [hl, List.takeWhile_cons, if_pos hdb]; simp) wr h.rng)
        rw [hl, ← HT.out] at HC
        clear hl hls hlb hdb
        obtain ⟨k, t, n, z, hz⟩ := ans_shape (tokM (c :: r))
        have HZ := Lib.hid hz
        rw [hz] at HC
        clear hz HT
        go_enter Tryz.func9, Tryz.ntmps9
        go_wp2_with fail
        refine (HLE.out _).mono ?_
        rintro e w1 ⟨rfl, rfl⟩
        go_wp2_with fail
        refine (HDI.out _).mono ?_
        rintro e w1 ⟨rfl, rfl⟩
        go_wp2_with fail
        refine (HC.out _ (HLD.out _ HG0.out)).mono ?_
        rintro e w2 ⟨rfl, b2⟩
        have HGE := Lib.hid (HG0.out.step b2)
        clear b2
        obtain ⟨⟨c0, c1, c2, c3⟩, f0, f1, f2, f3⟩ := HBOX.out _ HGE.out
        go_wp2_with fail
        rw [HZ.out]
        obtain ⟨d0, d1, d2, d3⟩ := put4 c0 c1 c2 c3 (.int .i64 k) (.string (S t)) (.int .i64 n) (.int .i64 0)
        exact bodyPost_ret (v := .tuple #[.agg #[.int .i64 k, .string (S t), .int .i64 n, .int .i64 0], .int .i64 (z : Int)]) (by simp [results, d0, d1, d2, d3, Tryz.results9, go_sem]) rfl ⟨rfl, (((((HFIN.out _ HGE.out).setCell (p := ⟨w.heap.size, 0, none⟩) (Nat.le_refl _) _).setCell (p := ⟨w.heap.size, 1, none⟩) (Nat.le_refl _) _).setCell (p := ⟨w.heap.size, 2, none⟩) (Nat.le_refl _) _).setCell (p := ⟨w.heap.size, 3, none⟩) (Nat.le_refl _) _)⟩
      | false =>
        rw [hdb] at HDI
        by_cases h34 : c = 34
        · subst h34
          have HT := Lib.hid (tok_quo r)
          have HC := Lib.hid (fun (wr : World) (h : Laid wr) => quoted_any s hs (by rw [hl]; rfl) wr h.syn h.tab)
          rw [hl, ← HT.out] at HC
          clear hl hls hlb hdb
          obtain ⟨k, t, n, z, hz⟩ := ans_shape (tokM (34 :: r))
          have HZ := Lib.hid hz
          rw [hz] at HC
          clear hz HT
          go_enter Tryz.func9, Tryz.ntmps9
          go_wp2_with fail
          refine (HLE.out _).mono ?_
          rintro e w1 ⟨rfl, rfl⟩
          go_wp2_with fail
          refine (HDI.out _).mono ?_
          rintro e w1 ⟨rfl, rfl⟩
          go_wp2_with fail
          refine (HC.out _ (HLD.out _ HG0.out)).mono ?_
          rintro e w2 ⟨rfl, b2⟩
          have HGE := Lib.hid (HG0.out.step b2)
          clear b2
          obtain ⟨⟨c0, c1, c2, c3⟩, f0, f1, f2, f3⟩ := HBOX.out _ HGE.out
          go_wp2_with fail
          rw [HZ.out]
          obtain ⟨d0, d1, d2, d3⟩ := put4 c0 c1 c2 c3 (.int .i64 k) (.string (S t)) (.int .i64 n) (.int .i64 0)
          exact bodyPost_ret (v := .tuple #[.agg #[.int .i64 k, .string (S t), .int .i64 n, .int .i64 0], .int .i64 (z : Int)]) (by simp [results, d0, d1, d2, d3, Tryz.results9, go_sem]) rfl ⟨rfl, (((((HFIN.out _ HGE.out).setCell (p := ⟨w.heap.size, 0, none⟩) (Nat.le_refl _) _).setCell (p := ⟨w.heap.size, 1, none⟩) (Nat.le_refl _) _).setCell (p := ⟨w.heap.size, 2, none⟩) (Nat.le_refl _) _).setCell (p := ⟨w.heap.size, 3, none⟩) (Nat.le_refl _) _)⟩
        · have b34 : ((c.toNat : Int) == 34) = false := byte_ne c 34 h34
          by_cases h39 : c = 39
          · subst h39
            have HT := Lib.hid (tok_sym r)
            have HC := Lib.hid (fun wr => symbol_any s hs hs1 wr)
            rw [hl, show (39 :: r).drop 1 = r from rfl, ← HT.out] at HC
            clear hl hls hlb hdb h34
            obtain ⟨k, t, n, z, hz⟩ := ans_shape (tokM (39 :: r))
            have HZ := Lib.hid hz
            rw [hz] at HC
            clear hz HT
            go_enter Tryz.func9, Tryz.ntmps9
            go_wp2_with fail
            refine (HLE.out _).mono ?_
            rintro e w1 ⟨rfl, rfl⟩
            go_wp2_with fail
            refine (HDI.out _).mono ?_
            rintro e w1 ⟨rfl, rfl⟩
            go_wp2_with fail
            refine (HC.out _).mono ?_
            rintro e w2 ⟨rfl, b2⟩
            have HGE := Lib.hid (HG0.out.step b2)
            clear b2
            obtain ⟨⟨c0, c1, c2, c3⟩, f0, f1, f2, f3⟩ := HBOX.out _ HGE.out
            go_wp2_with fail
            rw [HZ.out]
            obtain ⟨d0, d1, d2, d3⟩ := put4 c0 c1 c2 c3 (.int .i64 k) (.string (S t)) (.int .i64 n) (.int .i64 0)
            exact bodyPost_ret (v := .tuple #[.agg #[.int .i64 k, .string (S t), .int .i64 n, .int .i64 0], .int .i64 (z : Int)]) (by simp [results, d0, d1, d2, d3, Tryz.results9, go_sem]) rfl ⟨rfl, (((((HFIN.out _ HGE.out).setCell (p := ⟨w.heap.size, 0, none⟩) (Nat.le_refl _) _).setCell (p := ⟨w.heap.size, 1, none⟩) (Nat.le_refl _) _).setCell (p := ⟨w.heap.size, 2, none⟩) (Nat.le_refl _) _).setCell (p := ⟨w.heap.size, 3, none⟩) (Nat.le_refl _) _)⟩
          · have b39 : ((c.toNat : Int) == 39) = false := byte_ne c 39 h39
            have HT := Lib.hid (tok_sign c r h39 hlb hdb h34)
            have HC := Lib.hid (fun (wr : World) (h : Laid wr) => sign_any s wr h.signs)
            rw [hl, ← HT.out] at HC
            clear h39 h34
            clear hl hls hlb hdb
            obtain ⟨k, t, n, z, hz⟩ := ans_shape (tokM (c :: r))
            have HZ := Lib.hid hz
            rw [hz] at HC
            clear hz HT
            go_enter Tryz.func9, Tryz.ntmps9
            go_wp2_with fail
            refine (HLE.out _).mono ?_
            rintro e w1 ⟨rfl, rfl⟩
            go_wp2_with fail
            refine (HDI.out _).mono ?_
            rintro e w1 ⟨rfl, rfl⟩
            go_wp2_with fail
            refine (HC.out _ (HLD.out _ HG0.out)).mono ?_
            rintro e w2 ⟨rfl, b2⟩
            have HGE := Lib.hid (HG0.out.step b2)
            clear b2
            obtain ⟨⟨c0, c1, c2, c3⟩, f0, f1, f2, f3⟩ := HBOX.out _ HGE.out
            go_wp2_with fail
            rw [HZ.out]
            obtain ⟨d0, d1, d2, d3⟩ := put4 c0 c1 c2 c3 (.int .i64 k) (.string (S t)) (.int .i64 n) (.int .i64 0)
            exact bodyPost_ret (v := .tuple #[.agg #[.int .i64 k, .string (S t), .int .i64 n, .int .i64 0], .int .i64 (z : Int)]) (by simp [results, d0, d1, d2, d3, Tryz.results9, go_sem]) rfl ⟨rfl, (((((HFIN.out _ HGE.out).setCell (p := ⟨w.heap.size, 0, none⟩) (Nat.le_refl _) _).setCell (p := ⟨w.heap.size, 1, none⟩) (Nat.le_refl _) _).setCell (p := ⟨w.heap.size, 2, none⟩) (Nat.le_refl _) _).setCell (p := ⟨w.heap.size, 3, none⟩) (Nat.le_refl _) _)⟩

end Go.Proofs.YtjndgfppjdobiaaGreatDoor.Lx
