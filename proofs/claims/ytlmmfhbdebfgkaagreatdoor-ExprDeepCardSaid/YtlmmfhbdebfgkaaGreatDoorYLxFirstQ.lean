/-
  LxFirst, LxScanW.
-/
import Derived.Test.YtlmmfhbdebfgkaaGreatDoorYLxUnquoQ
import Derived.Test.YtlmmfhbdebfgkaaGreatDoorYLxGoodQ
import Derived.Test.YtlmmfhbdebfgkaaGreatDoorYLxBlankQ
import Derived.Test.YtlmmfhbdebfgkaaGreatDoorYLxBackQ
import Derived.Test.YtlmmfhbdebfgkaaGreatDoorYVlBldQ
import Derived.Laws.AppendOwn
namespace Go.Proofs.YtlmmfhbdebfgkaaGreatDoor.Lx
open Go.RowKit
open Va
theorem tok_sym (r : List UInt8) : tokM (39 :: r) = symM r := by
  rw [tokM_cons, if_pos rfl]
  unfold symM nameM
  by_cases h : nameB (r.takeWhile wordB) = true
  · simp only [h, if_true]
  · simp only [if_neg h]
theorem tok_name (c : UInt8) (r : List UInt8) (h : letB c = true) : tokM (c :: r) = nameM (c :: r) := by
  have h39 : c ≠ 39 := by intro e; subst e; exact absurd h (by decide)
  rw [tokM_cons, if_neg h39, if_pos h]
  rfl
theorem tok_dig (c : UInt8) (r : List UInt8) (hl : letB c = false) (h : digB c = true) : tokM (c :: r) = digM (c :: r) := by
  have h39 : c ≠ 39 := by intro e; subst e; exact absurd h (by decide)
  rw [tokM_cons, if_neg h39, if_neg (by rw [hl]; decide), if_pos h]
  rfl
theorem tok_quo (r : List UInt8) : tokM (34 :: r) = quoM (34 :: r) := by
  rw [tokM_cons, if_neg (by decide), if_neg (by decide), if_neg (by decide), if_pos rfl]
  rfl
theorem tok_sign (c : UInt8) (r : List UInt8) (h39 : c ≠ 39) (hl : letB c = false) (hd : digB c = false) (h34 : c ≠ 34) : tokM (c :: r) = signM (c :: r) := by
  rw [tokM_cons, if_neg h39, if_neg (by rw [hl]; decide), if_neg (by rw [hd]; decide), if_neg h34]
  rfl
structure Laid (w : World) : Prop where
  rng : ErrAt w 7
  syn : ErrAt w 6
  tab : Tab w
  signs : SignsAt w
  max : IntVar w 2
theorem Laid.below {w w' : World} (h : Laid w) (b : Below w.heap.size w w') : Laid w' :=
  ⟨h.rng.below b, h.syn.below b, h.tab.below b, h.signs.below b, h.max.below b⟩
theorem rune_let0 (c : UInt8) : letR (c.toNat : Int) = letB c ∧ digR (c.toNat : Int) = digB c := by
  have : ∀ i : Fin 256, letR (i.val : Int) = letB (UInt8.ofNat i.val) ∧ digR (i.val : Int) = digB (UInt8.ofNat i.val) := by decide +kernel
  have h := this ⟨c.toNat, c.toNat_lt⟩
  simpa using h
theorem ans_shape (x : Option Tok) : ∃ (k : Int) (t : List UInt8) (n : Int) (z : Nat), ansV x = .tuple #[.agg #[.int .i64 k, .string (S t), .int .i64 n, .int .i64 0], .int .i64 (z : Int)] := by
  cases x with
  | none => exact ⟨0, [], 0, 0, rfl⟩
  | some x => exact ⟨x.kind, x.text, x.num, x.len, rfl⟩
set_option linter.unusedSimpArgs false
set_option maxRecDepth 100000 in
set_option maxHeartbeats 6400000 in
theorem first_any (s : ByteArray) (hs : s.size ≤ 100000) (hs1 : 1 ≤ s.size) (w : World) (hL : Laid w) :
    Calls Tryz.prog 44 #[.string s] w fun e w' => e = .returned (ansV (tokM s.data.toList)) ∧ Below w.heap.size w w' := by
  have hls := list_size s
  have hb0 := (Below.refl w.heap.size w).alloc (Nat.le_refl _) (tokO 0 [] 0 0)
  have HG0 := Lib.hid (Good.refl (w.alloc (tokO 0 [] 0 0)))
  have HBOX := Lib.hid (box_here w 0 [] 0 0)
  have HFIN := Lib.hid (fun (wr : World) (h : Good (w.alloc (tokO 0 [] 0 0)) wr) => hb0.trans (h.mono (by simp)))
  have HLD := Lib.hid (fun (wr : World) (h : Good (w.alloc (tokO 0 [] 0 0)) wr) => (hL.below hb0).below h)
  obtain ⟨l, hl⟩ : ∃ l, s.data.toList = l := ⟨_, rfl⟩
  rw [hl] at hls ⊢
  have hsi : (1 : Int) ≤ (s.size : Int) := by omega
  match l, hl, hls with
  | [], _, hls => simp at hls; omega
  | c :: r, hl, hls =>
    have h0 : s[0]'hs1 = c := S_get s _ hl 0 hs1 c rfl
    have hc256 := byte_lt c
    obtain ⟨hrl, hrd⟩ := rune_let0 c
    have HLE := Lib.hid (lxLetter_any (c.toNat : Int))
    have HDI := Lib.hid (lxDigit_any (c.toNat : Int))
    rw [hrl] at HLE
    rw [hrd] at HDI
    clear hrl hrd hL hb0
    cases hlb : letB c with
    | true =>
      rw [hlb] at HLE
      have HT := Lib.hid (tok_name c r hlb)
      have HC := Lib.hid (fun wr => name_any s hs wr)
      rw [hl, ← HT.out] at HC
      clear hl hls hlb
      obtain ⟨k, t, n, z, hz⟩ := ans_shape (tokM (c :: r))
      have HZ := Lib.hid hz
      rw [hz] at HC
      clear hz HT
      go_enter Tryz.func44, Tryz.ntmps44
      go_wp2_with fail
      refine (HLE.out _).mono ?_
      rintro e w1 ⟨rfl, rfl⟩
      go_wp2_with fail
      refine (HC.out _).mono ?_
      rintro e w2 ⟨rfl, b2⟩
      have HGE := Lib.hid (HG0.out.step b2)
      clear b2
      obtain ⟨⟨c0, c1, c2, c3⟩, f0, f1, f2, f3⟩ := HBOX.out _ HGE.out
      go_wp2_with fail
      rw [HZ.out]
      obtain ⟨d0, d1, d2, d3⟩ := put4 c0 c1 c2 c3 (.int .i64 k) (.string (S t)) (.int .i64 n) (.int .i64 0)
      exact bodyPost_ret (v := .tuple #[.agg #[.int .i64 k, .string (S t), .int .i64 n, .int .i64 0], .int .i64 (z : Int)]) (by simp [results, d0, d1, d2, d3, Tryz.results44, go_sem]) rfl ⟨rfl, (((((HFIN.out _ HGE.out).setCell (p := ⟨w.heap.size, 0, none⟩) (Nat.le_refl _) _).setCell (p := ⟨w.heap.size, 1, none⟩) (Nat.le_refl _) _).setCell (p := ⟨w.heap.size, 2, none⟩) (Nat.le_refl _) _).setCell (p := ⟨w.heap.size, 3, none⟩) (Nat.le_refl _) _)⟩
    | false =>
      rw [hlb] at HLE
      cases hdb : digB c with
      | true =>
        rw [hdb] at HDI
        have HT := Lib.hid (tok_dig c r hlb hdb)
        have HC := Lib.hid (fun (wr : World) (h : Laid wr) => digits_any s hs (by rw [hl, List.takeWhile_cons, if_pos hdb]; simp) wr h.rng)
        rw [hl, ← HT.out] at HC
        clear hl hls hlb hdb
        obtain ⟨k, t, n, z, hz⟩ := ans_shape (tokM (c :: r))
        have HZ := Lib.hid hz
        rw [hz] at HC
        clear hz HT
        go_enter Tryz.func44, Tryz.ntmps44
        go_wp2_with fail
        refine (HLE.out _).mono ?_
        rintro e w1 ⟨rfl, rfl⟩
        go_wp2_with fail
        refine (HDI.out _).mono ?_
        rintro e w1 ⟨rfl, rfl⟩
        go_wp2_with fail
        refine (HC.out _ (HLD.out _ HG0.out)).mono ?_
        rintro e w2 ⟨rfl, b2⟩
        have HGE := Lib.hid (HG0.out.step b2)
        clear b2
        obtain ⟨⟨c0, c1, c2, c3⟩, f0, f1, f2, f3⟩ := HBOX.out _ HGE.out
        go_wp2_with fail
        rw [HZ.out]
        obtain ⟨d0, d1, d2, d3⟩ := put4 c0 c1 c2 c3 (.int .i64 k) (.string (S t)) (.int .i64 n) (.int .i64 0)
        exact bodyPost_ret (v := .tuple #[.agg #[.int .i64 k, .string (S t), .int .i64 n, .int .i64 0], .int .i64 (z : Int)]) (by simp [results, d0, d1, d2, d3, Tryz.results44, go_sem]) rfl ⟨rfl, (((((HFIN.out _ HGE.out).setCell (p := ⟨w.heap.size, 0, none⟩) (Nat.le_refl _) _).setCell (p := ⟨w.heap.size, 1, none⟩) (Nat.le_refl _) _).setCell (p := ⟨w.heap.size, 2, none⟩) (Nat.le_refl _) _).setCell (p := ⟨w.heap.size, 3, none⟩) (Nat.le_refl _) _)⟩
      | false =>
        rw [hdb] at HDI
        by_cases h34 : c = 34
        · subst h34
          have HT := Lib.hid (tok_quo r)
          have HC := Lib.hid (fun (wr : World) (h : Laid wr) => quoted_any s hs (by rw [hl]; rfl) wr h.syn h.tab)
          rw [hl, ← HT.out] at HC
          clear hl hls hlb hdb
          obtain ⟨k, t, n, z, hz⟩ := ans_shape (tokM (34 :: r))
          have HZ := Lib.hid hz
          rw [hz] at HC
          clear hz HT
          go_enter Tryz.func44, Tryz.ntmps44
          go_wp2_with fail
          refine (HLE.out _).mono ?_
          rintro e w1 ⟨rfl, rfl⟩
          go_wp2_with fail
          refine (HDI.out _).mono ?_
          rintro e w1 ⟨rfl, rfl⟩
          go_wp2_with fail
          refine (HC.out _ (HLD.out _ HG0.out)).mono ?_
          rintro e w2 ⟨rfl, b2⟩
          have HGE := Lib.hid (HG0.out.step b2)
          clear b2
          obtain ⟨⟨c0, c1, c2, c3⟩, f0, f1, f2, f3⟩ := HBOX.out _ HGE.out
          go_wp2_with fail
          rw [HZ.out]
          obtain ⟨d0, d1, d2, d3⟩ := put4 c0 c1 c2 c3 (.int .i64 k) (.string (S t)) (.int .i64 n) (.int .i64 0)
          exact bodyPost_ret (v := .tuple #[.agg #[.int .i64 k, .string (S t), .int .i64 n, .int .i64 0], .int .i64 (z : Int)]) (by simp [results, d0, d1, d2, d3, Tryz.results44, go_sem]) rfl ⟨rfl, (((((HFIN.out _ HGE.out).setCell (p := ⟨w.heap.size, 0, none⟩) (Nat.le_refl _) _).setCell (p := ⟨w.heap.size, 1, none⟩) (Nat.le_refl _) _).setCell (p := ⟨w.heap.size, 2, none⟩) (Nat.le_refl _) _).setCell (p := ⟨w.heap.size, 3, none⟩) (Nat.le_refl _) _)⟩
        · have b34 : ((c.toNat : Int) == 34) = false := byte_ne c 34 h34
          by_cases h39 : c = 39
          · subst h39
            have HT := Lib.hid (tok_sym r)
            have HC := Lib.hid (fun wr => symbol_any s hs hs1 wr)
            rw [hl, show (39 :: r).drop 1 = r from rfl, ← HT.out] at HC
            clear hl hls hlb hdb h34
            obtain ⟨k, t, n, z, hz⟩ := ans_shape (tokM (39 :: r))
            have HZ := Lib.hid hz
            rw [hz] at HC
            clear hz HT
            go_enter Tryz.func44, Tryz.ntmps44
            go_wp2_with fail
            refine (HLE.out _).mono ?_
            rintro e w1 ⟨rfl, rfl⟩
            go_wp2_with fail
            refine (HDI.out _).mono ?_
            rintro e w1 ⟨rfl, rfl⟩
            go_wp2_with fail
            refine (HC.out _).mono ?_
            rintro e w2 ⟨rfl, b2⟩
            have HGE := Lib.hid (HG0.out.step b2)
            clear b2
            obtain ⟨⟨c0, c1, c2, c3⟩, f0, f1, f2, f3⟩ := HBOX.out _ HGE.out
            go_wp2_with fail
            rw [HZ.out]
            obtain ⟨d0, d1, d2, d3⟩ := put4 c0 c1 c2 c3 (.int .i64 k) (.string (S t)) (.int .i64 n) (.int .i64 0)
            exact bodyPost_ret (v := .tuple #[.agg #[.int .i64 k, .string (S t), .int .i64 n, .int .i64 0], .int .i64 (z : Int)]) (by simp [results, d0, d1, d2, d3, Tryz.results44, go_sem]) rfl ⟨rfl, (((((HFIN.out _ HGE.out).setCell (p := ⟨w.heap.size, 0, none⟩) (Nat.le_refl _) _).setCell (p := ⟨w.heap.size, 1, none⟩) (Nat.le_refl _) _).setCell (p := ⟨w.heap.size, 2, none⟩) (Nat.le_refl _) _).setCell (p := ⟨w.heap.size, 3, none⟩) (Nat.le_refl _) _)⟩
          · have b39 : ((c.toNat : Int) == 39) = false := byte_ne c 39 h39
            have HT := Lib.hid (tok_sign c r h39 hlb hdb h34)
            have HC := Lib.hid (fun (wr : World) (h : Laid wr) => sign_any s wr h.signs)
            rw [hl, ← HT.out] at HC
            clear h39 h34
            clear hl hls hlb hdb
            obtain ⟨k, t, n, z, hz⟩ := ans_shape (tokM (c :: r))
            have HZ := Lib.hid hz
            rw [hz] at HC
            clear hz HT
            go_enter Tryz.func44, Tryz.ntmps44
            go_wp2_with fail
            refine (HLE.out _).mono ?_
            rintro e w1 ⟨rfl, rfl⟩
            go_wp2_with fail
            refine (HDI.out _).mono ?_
            rintro e w1 ⟨rfl, rfl⟩
            go_wp2_with fail
            refine (HC.out _ (HLD.out _ HG0.out)).mono ?_
            rintro e w2 ⟨rfl, b2⟩
            have HGE := Lib.hid (HG0.out.step b2)
            clear b2
            obtain ⟨⟨c0, c1, c2, c3⟩, f0, f1, f2, f3⟩ := HBOX.out _ HGE.out
            go_wp2_with fail
            rw [HZ.out]
            obtain ⟨d0, d1, d2, d3⟩ := put4 c0 c1 c2 c3 (.int .i64 k) (.string (S t)) (.int .i64 n) (.int .i64 0)
            exact bodyPost_ret (v := .tuple #[.agg #[.int .i64 k, .string (S t), .int .i64 n, .int .i64 0], .int .i64 (z : Int)]) (by simp [results, d0, d1, d2, d3, Tryz.results44, go_sem]) rfl ⟨rfl, (((((HFIN.out _ HGE.out).setCell (p := ⟨w.heap.size, 0, none⟩) (Nat.le_refl _) _).setCell (p := ⟨w.heap.size, 1, none⟩) (Nat.le_refl _) _).setCell (p := ⟨w.heap.size, 2, none⟩) (Nat.le_refl _) _).setCell (p := ⟨w.heap.size, 3, none⟩) (Nat.le_refl _) _)⟩
end Go.Proofs.YtlmmfhbdebfgkaaGreatDoor.Lx
namespace Go.Proofs.YtlmmfhbdebfgkaaGreatDoor.Lx
open Go.RowKit
open Va
def toksC (ts : List TA) : List Value := ts.flatMap fun t => [.int .i64 t.kind, .string (S t.text), .int .i64 t.num, .int .i64 (t.at_ : Int)]
theorem toksC_length (ts : List TA) : (toksC ts).length = ts.length * 4 := by
  induction ts with
  | nil => rfl
  | cons t ts ih =>
    show (_ ++ toksC ts).length = _
    rw [List.length_append, ih]; simp; omega
theorem toksC_append (a b : List TA) : toksC (a ++ b) = toksC a ++ toksC b := by simp [toksC]
theorem infoTok : (Tryz.prog.info? 79).map (fun i => (i.zero, i.size, i.bytes)) = some (some (.agg #[.int .i64 0, .string ⟨#[]⟩, .int .i64 0, .int .i64 0]), 4, 40) := by kernel_rfl
def Toks (w : World) (B : Nat) (v : Value) (ts : List TA) : Prop := w.ownsRow B 79 4 v ts.length (toksC ts)
theorem Toks.kept {w w' : World} {B : Nat} {v : Value} {ts : List TA} (h : Toks w B v ts) (hb : Below w.heap.size w w') : Toks w' B v ts :=
  World.ownsRow.kept (row := none) h ⟨hb.os, hb.tape, hb.output, hb.size, fun k hk _ => hb.block k hk⟩ (Classical.em _)
theorem app_tok (B : Nat) (v : Value) (ts : List TA) (w : World) (h : Toks w B v ts) (hB : B ≤ w.heap.size) (hn : ts.length ≤ 100000) (k : Int) (t : List UInt8) (n : Int) (m : Nat) (H : Nat) (hH : w.heap.size = H) :
    ∃ v' w', (Builtin.append_ #[74, 74] 74 #[v, .slice (some ⟨H, 0, none⟩) 1 1]).run Tryz.prog (w.alloc (.cells #[.int .i64 k, .string (S t), .int .i64 n, .int .i64 (m : Int)] 79)) = .ok v' w' ∧
      Toks w' B v' (ts ++ [⟨k, t, n, m⟩]) ∧ Below B w w' ∧ w.heap.size < w'.heap.size := by
  subst hH
  obtain ⟨i0, hi, hz0, hz1, hz2⟩ := info_parts infoTok
  have hown := World.ownsRow.alloc h (.cells #[.int .i64 k, .string (S t), .int .i64 n, .int .i64 (m : Int)] 79)
  have hnews : ∀ j u, [Value.int .i64 k, .string (S t), .int .i64 n, .int .i64 (m : Int)][j]? = some u → (w.alloc (.cells #[.int .i64 k, .string (S t), .int .i64 n, .int .i64 (m : Int)] 79)).cell? ((⟨w.heap.size, 0, none⟩ : Addr).add j) = some u := by
    intro j u hj
    have hadd : (⟨w.heap.size, 0, none⟩ : Addr).add j = ⟨w.heap.size, j, none⟩ := by unfold Addr.add; split <;> simp_all
    rw [hadd, cell_of_row _ w.heap.size j _ _ (0, 0) (heap_alloc_new w _)]
    simpa using hj
  have h1 : ∀ u ∈ [Value.int .i64 k, .string (S t), .int .i64 n, .int .i64 (m : Int)], u.oneCell' = true := by
    intro u hu
    simp only [List.mem_cons, List.not_mem_nil, or_false] at hu
    rcases hu with rfl | rfl | rfl | rfl <;> rfl
  obtain ⟨v', w', hr, h2, h3, _⟩ := run_append_own (P := Tryz.prog) (w.alloc (.cells #[.int .i64 k, .string (S t), .int .i64 n, .int .i64 (m : Int)] 79)) B 74 74 79 i0 _ 4 40 Tryz.underlying74 hi hz0 hz1 hz2 rfl (by decide) v ts.length (toksC ts) hown ⟨w.heap.size, 0, none⟩ 1 1 [.int .i64 k, .string (S t), .int .i64 n, .int .i64 (m : Int)] rfl hnews h1 (by unfold maxLen; omega) (by omega) (by simp; omega)
  refine ⟨v', w', hr, ?_, ((Below.refl _ _).alloc hB _).grown h3 (by simp; omega) (fun k hk => (World.ownsRow.lt h k hk).1), ?_⟩
  · unfold Toks
    rw [toksC_append, List.length_append]
    exact h2
  · have := h3.size
    simp at this
    omega
def scanR (B : Nat) (x : List TA × Option Nat) (e : Ending) (w' : World) : Prop := match x with
  | (ts, none) => ∃ v, e = .returned (.tuple #[v, .int .i64 0, .int .i64 0]) ∧ Toks w' B v ts
  | (_, some p) => e = .returned (.tuple #[.slice none 0 0, .int .i64 (p : Int), .int .i64 24])
structure ScLoop (l : List UInt8) (w : World) (v : Value) (ts : List TA) (m : Nat) (wr : World) : Prop where
  st : ScanSt l ts m
  len : ts.length ≤ m
  toks : Toks wr w.heap.size v ts
  below : Below w.heap.size w wr
set_option linter.unusedSimpArgs false
set_option maxRecDepth 100000 in
set_option maxHeartbeats 6400000 in
theorem scan_any (s : ByteArray) (hs : s.size ≤ 8000) (w : World) (hL : Laid w) :
    Calls Tryz.prog 24 #[.string s] w fun e w' => scanR w.heap.size (scanM s.data.toList 0) e w' ∧ Below w.heap.size w w' := by
  have hls := list_size s
  obtain ⟨l, hl⟩ : ∃ l, s.data.toList = l := ⟨_, rfl⟩
  have HBL := Lib.hid (fun (wr : World) (hb : Below w.heap.size w wr) => blank_any s (by omega) wr (hL.below hb).max)
  have HBM := Lib.hid (fun (m : Nat) (hm : m ≤ s.size) (wr : World) (hb : Below w.heap.size w wr) => show Calls Tryz.prog 43 #[.string (s.extract m s.size)] wr fun e w' => e = .returned (.int .i64 (blk false (l.drop m) : Int)) ∧ Below wr.heap.size wr w' from by
    have := blank_any (s.extract m s.size) (by rw [ByteArray.size_extract]; omega) wr (hL.below hb).max
    rw [S_extract, S_toList, List.take_of_length_le (by rw [List.length_drop, hls]; exact Nat.le_refl _), hl] at this
    rw [S_extract, List.take_of_length_le (by rw [List.length_drop, hls]; exact Nat.le_refl _), hl]
    exact this)
  have HFI := Lib.hid (fun (m : Nat) (hm : m < s.size) (wr : World) (hb : Below w.heap.size w wr) => show Calls Tryz.prog 44 #[.string (s.extract m s.size)] wr fun e w' => e = .returned (ansV (tokM (l.drop m))) ∧ Below wr.heap.size wr w' from by
    have := first_any (s.extract m s.size) (by rw [ByteArray.size_extract]; omega) (by rw [ByteArray.size_extract]; omega) wr (hL.below hb)
    rw [S_extract, S_toList, List.take_of_length_le (by rw [List.length_drop, hls]; exact Nat.le_refl _), hl] at this
    rw [S_extract, List.take_of_length_le (by rw [List.length_drop, hls]; exact Nat.le_refl _), hl]
    exact this)
  rw [hl] at hls HBL ⊢
  have HAP := Lib.hid (fun v ts wr (h : Toks wr w.heap.size v ts) (hB : w.heap.size ≤ wr.heap.size) (hn : ts.length ≤ 100000) k t n m H hH => app_tok w.heap.size v ts wr h hB hn k t n m H hH)
  have hbl := blk_le false l
  have HS0 := Lib.hid (scan_start l)
  have HLS := Lib.hid hls
  have hbi : ((blk false l : Nat) : Int) ≤ (s.size : Int) := by omega
  have hsi : (s.size : Int) ≤ 8000 := by omega
  generalize hb0 : blk false l = b0 at *
  clear hb0 hl hls hL
  go_enter Tryz.func24, Tryz.ntmps24
  go_wp2_with fail
  refine (HBL.out _ (Below.refl _ _)).mono ?_
  rintro e w1 ⟨rfl, b1⟩
  have B1 := Lib.hid b1
  clear b1
  go_wp2_with fail
  go_loopw [5, 6] (fun xo va wr => ∃ (ts : List TA) (m : Nat) (vo : Value), vo = xo ∧ va = .int .i64 m ∧ m ≤ s.size ∧ ScLoop l w vo ts m wr) (fun _ va _ => s.size - (intOf va).toNat)
  case atStart => exact ⟨[], b0, _, rfl, rfl, by omega, HS0.out, by simp, World.ownsRow_nil _ _ _ _, B1.out⟩
  case round =>
    obtain ⟨ts, m, vo, rfl, rfl, hm, hsc⟩ := hrel
    have HSC := Lib.hid hsc
    clear hsc
    by_cases hlt : m < s.size
    · have hmi : (m : Int) < (s.size : Int) := by omega
      have HF := Lib.hid (HFI.out m hlt)
      cases ht : tokM (l.drop m) with
      | none =>
        rw [ht] at HF
        have HR := Lib.hid (scan_bad l ts m HSC.out.st (by have := HLS.out; omega) ht)
        clear ht
        go_wp2_with fail
        refine (HF.out _ HSC.out.below).mono ?_
        rintro e w2 ⟨rfl, b2⟩
        have B2 := Lib.hid (HSC.out.below.trans (b2.mono HSC.out.below.size))
        clear b2
        unfold ansV tokC
        go_wp2_with fail
        go_ret3
        rw [HR.out]
        exact ⟨rfl, B2.out.alloc (by have := B2.out.size; omega) _⟩
      | some t =>
        rw [ht] at HF
        obtain ⟨hf1, hf2⟩ := tok_fits l m t ht (by have := HLS.out; omega)
        have hst := scan_next l ts m HSC.out.st (by have := HLS.out; omega) t ht
        have hbl2 := blk_le false (l.drop (m + t.len))
        rw [List.length_drop] at hbl2
        have hf3 : m + t.len ≤ s.size := by have := HLS.out; omega
        have hf4 : m + t.len + blk false (l.drop (m + t.len)) ≤ s.size := by have := HLS.out; omega
        have HB2 := Lib.hid (HBM.out (m + t.len) hf3)
        have HST := Lib.hid hst
        obtain ⟨kd, tx, nm, z⟩ := t
        simp only at hf1 hf2 hf3 hf4 HST HB2 hbl2
        have hzi : (1 : Int) ≤ (z : Int) := by omega
        have hz0 : ((z : Int) == 0) = false := by rw [beq_eq_false_iff_ne]; omega
        have hz3 : (m : Int) + (z : Int) ≤ (s.size : Int) := by omega
        have hz4 : (m : Int) + (z : Int) + ((blk false (l.drop (m + z)) : Nat) : Int) ≤ (s.size : Int) := by omega
        have htl : ts.length ≤ 100000 := by have := HSC.out.len; omega
        generalize blk false (l.drop (m + z)) = bz at *
        clear ht hst hf1 hf2 hbl2
        go_wp2_with fail
        refine (HF.out _ HSC.out.below).mono ?_
        rintro e w2 ⟨rfl, b2⟩
        have B2 := Lib.hid (HSC.out.below.trans (b2.mono HSC.out.below.size))
        have T2 := Lib.hid (HSC.out.toks.kept b2)
        clear b2
        unfold ansV tokC
        obtain ⟨v', w4, hrun, htk, hbw, hlt4⟩ := HAP.out vo ts (w2.alloc (.cells #[.int .i64 kd, .string (S tx), .int .i64 nm, .int .i64 (m : Int)] 79)) (World.ownsRow.alloc T2.out _) (by have := B2.out.size; simp; omega) htl kd tx nm m (w2.heap.size + 1) (by simp)
        have HRUN := Lib.hid hrun
        have HTK := Lib.hid htk
        have B4 := Lib.hid ((B2.out.alloc (by have := B2.out.size; omega) (.cells #[.int .i64 kd, .string (S tx), .int .i64 nm, .int .i64 (m : Int)] 79)).trans hbw)
        clear hrun htk hbw hlt4
        go_wp2_with (at_builtin; refine wpList_app rfl _ _ _ _ rfl rfl rfl _ _ HRUN.out ?_)
        refine (HB2.out _ B4.out).mono ?_
        rintro e w5 ⟨rfl, b5⟩
        have T5 := Lib.hid (HTK.out.kept b5)
        have B5 := Lib.hid (B4.out.trans (b5.mono B4.out.size))
        clear b5
        go_wp2_with fail
        go_roundw
        case rel => exact ⟨_, m + z + bz, _, rfl, by go_num, hf4, HST.out, by have := HSC.out.len; simp; omega, T5.out, B5.out⟩
        case measure => simp [intOf]; omega
    · obtain rfl : m = s.size := by omega
      have HR := Lib.hid (scan_end l ts s.size HSC.out.st (by have := HLS.out; omega))
      have htl : ts.length ≤ 100000 := by have := HSC.out.len; omega
      obtain ⟨v', w4, hrun, htk, hbw, _⟩ := HAP.out vo ts wr HSC.out.toks HSC.out.below.size htl 0 [] 0 s.size wr.heap.size rfl
      have HRUN := Lib.hid hrun
      have HTK := Lib.hid htk
      have B4 := Lib.hid (HSC.out.below.trans hbw)
      clear hrun htk hbw
      go_wp2_with (at_builtin; refine wpList_app rfl _ _ _ _ rfl rfl rfl _ _ HRUN.out ?_)
      go_ret3
      rw [HR.out]
      exact ⟨⟨_, rfl, HTK.out⟩, B4.out⟩
end Go.Proofs.YtlmmfhbdebfgkaaGreatDoor.Lx
