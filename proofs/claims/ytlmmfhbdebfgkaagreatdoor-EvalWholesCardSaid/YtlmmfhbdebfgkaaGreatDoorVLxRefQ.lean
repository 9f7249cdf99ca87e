/-
  LxRef, LxRTokQ, LxDig, LxRTokS.
-/
import Derived.Test.YtlmmfhbdebfgkaaGreatDoorVVaPureQ
import Derived.Test.YtlmmfhbdebfgkaaGreatDoorVLxTokQ
import Derived.Test.YtlmmfhbdebfgkaaGreatDoorVLxRTokPQ
import Derived.Lib.ParseIntB
set_option linter.unusedVariables false
set_option linter.unusedSimpArgs false
set_option maxRecDepth 100000
set_option maxHeartbeats 6400000
namespace Go.Proofs.YtlmmfhbdebfgkaaGreatDoor.Lx
open Va
open Go.RowKit
theorem word_nat (c : UInt8) : wordB c = (decide (48 ≤ c.toNat ∧ c.toNat ≤ 57) || decide (97 ≤ c.toNat ∧ c.toNat ≤ 122) || decide (65 ≤ c.toNat ∧ c.toNat ≤ 90) || decide (c.toNat = 95)) := by
  have : ∀ i : Fin 256, wordB (UInt8.ofNat i.val) = (decide (48 ≤ (UInt8.ofNat i.val).toNat ∧ (UInt8.ofNat i.val).toNat ≤ 57) || decide (97 ≤ (UInt8.ofNat i.val).toNat ∧ (UInt8.ofNat i.val).toNat ≤ 122) || decide (65 ≤ (UInt8.ofNat i.val).toNat ∧ (UInt8.ofNat i.val).toNat ≤ 90) || decide ((UInt8.ofNat i.val).toNat = 95)) := by decide +kernel
  have h := this ⟨c.toNat, c.toNat_lt⟩
  simpa only [UInt8.ofNat_toNat] using h
theorem word_any (c : UInt8) (n : Nat) (hn : n = c.toNat) (w : World) :
    Calls Tryz.prog 133 #[.int .u8 (n : Int)] w fun e w' => e = .returned (.bool (wordB c)) ∧ w = w' := by
  have hb : n < 256 := by have := c.toNat_lt; omega
  rw [word_nat, ← hn]
  clear hn
  have hc : n < 48 ∨ (48 ≤ n ∧ n ≤ 57) ∨ (58 ≤ n ∧ n < 65) ∨ (65 ≤ n ∧ n ≤ 90) ∨ (91 ≤ n ∧ n < 95) ∨ n = 95 ∨ n = 96 ∨ (97 ≤ n ∧ n ≤ 122) ∨ 123 ≤ n := by omega
  rcases hc with hc | hc | hc | hc | hc | hc | hc | hc | hc <;> (
    have hr : ∃ b : Bool, (decide (48 ≤ n ∧ n ≤ 57) || decide (97 ≤ n ∧ n ≤ 122) || decide (65 ≤ n ∧ n ≤ 90) || decide (n = 95)) = b ∧ (b = true ↔ ((48 ≤ n ∧ n ≤ 57) ∨ (97 ≤ n ∧ n ≤ 122) ∨ (65 ≤ n ∧ n ≤ 90) ∨ n = 95)) := ⟨_, rfl, by simp [or_assoc]⟩
    obtain ⟨b, hr, hi⟩ := hr
    rw [hr]
    clear hr
    first
      | (have e : b = true := hi.2 (by omega)
         subst e
         clear hi
         go_enter Tryz.func133, Tryz.ntmps133
         go_wp2_with fail
         go_ret
         refine ⟨?_, rfl⟩
         first
           | rfl
           | (refine congrArg (fun b => Ending.returned (Value.bool b)) (?_ : _ = _)
              simp <;> omega))
      | (have e : b = false := by
           cases b with
           | false => rfl
           | true => exfalso; have := hi.1 rfl; omega
         subst e
         clear hi
         go_enter Tryz.func133, Tryz.ntmps133
         go_wp2_with fail
         go_ret
         refine ⟨?_, rfl⟩
         first
           | rfl
           | (refine congrArg (fun b => Ending.returned (Value.bool b)) (?_ : _ = _)
              simp <;> omega)))
end Go.Proofs.YtlmmfhbdebfgkaaGreatDoor.Lx
namespace Go.Proofs.YtlmmfhbdebfgkaaGreatDoor.Lx
open Go.RowKit
open Va
def zeroT : Obj := .cells #[.int .i64 0, .string ⟨#[]⟩, .int .i64 0, .int .i64 0] 79
def refAns (x : Option Tok) (a : Nat) : Value := match x with
  | none => .tuple #[.agg #[.int .i64 0, .string ⟨#[]⟩, .int .i64 0, .int .i64 0], .int .i64 0]
  | some x => .tuple #[.agg #[.int .i64 x.kind, .string (S x.text), .int .i64 x.num, .int .i64 (a : Int)], .int .i64 (x.len : Int)]
theorem rbox (w w1 : World) (g : Below (w.heap.size + 1) (w.alloc zeroT) w1) :
    (w1.cell? ⟨w.heap.size, 0, none⟩ = some (.int .i64 0) ∧ w1.cell? ⟨w.heap.size, 1, none⟩ = some (.string ⟨#[]⟩) ∧ w1.cell? ⟨w.heap.size, 2, none⟩ = some (.int .i64 0) ∧ w1.cell? ⟨w.heap.size, 3, none⟩ = some (.int .i64 0)) ∧
    (w1.frozen? ⟨w.heap.size, 0, none⟩ = false ∧ w1.frozen? ⟨w.heap.size, 1, none⟩ = false ∧ w1.frozen? ⟨w.heap.size, 2, none⟩ = false ∧ w1.frozen? ⟨w.heap.size, 3, none⟩ = false) := by
  have h0 := heap_alloc_new w zeroT
  have h := (g.block w.heap.size (by omega)).trans h0
  have hf : ∀ j, w1.frozen? ⟨w.heap.size, j, none⟩ = false := fun j => by unfold World.frozen?; simp only [h]; simp [zeroT]
  exact ⟨⟨(cell_of_row w1 _ 0 _ _ (0, 0) h).trans rfl, (cell_of_row w1 _ 1 _ _ (0, 0) h).trans rfl, (cell_of_row w1 _ 2 _ _ (0, 0) h).trans rfl, (cell_of_row w1 _ 3 _ _ (0, 0) h).trans rfl⟩, hf 0, hf 1, hf 2, hf 3⟩
theorem rput4 {w : World} {b : Nat} {u0 u1 u2 u3 : Value} (h0 : w.cell? ⟨b, 0, none⟩ = some u0) (h1 : w.cell? ⟨b, 1, none⟩ = some u1) (h2 : w.cell? ⟨b, 2, none⟩ = some u2) (h3 : w.cell? ⟨b, 3, none⟩ = some u3) (v0 v1 v2 v3 : Value) :
    (w.setCell ⟨b, 0, none⟩ v0).cell? ⟨b, 0, none⟩ = some v0 ∧ ((w.setCell ⟨b, 0, none⟩ v0).setCell ⟨b, 1, none⟩ v1).cell? ⟨b, 1, none⟩ = some v1 ∧
    (((w.setCell ⟨b, 0, none⟩ v0).setCell ⟨b, 1, none⟩ v1).setCell ⟨b, 2, none⟩ v2).cell? ⟨b, 2, none⟩ = some v2 ∧ ((((w.setCell ⟨b, 0, none⟩ v0).setCell ⟨b, 1, none⟩ v1).setCell ⟨b, 2, none⟩ v2).setCell ⟨b, 3, none⟩ v3).cell? ⟨b, 3, none⟩ = some v3 := by
  have o : ∀ (x : World) (i j : Nat) (v : Value), i ≠ j → (x.setCell ⟨b, i, none⟩ v).cell? ⟨b, j, none⟩ = x.cell? ⟨b, j, none⟩ := fun x i j v h =>
    World.cell?_setCell_other (w := x) (a := ⟨b, i, none⟩) (b := ⟨b, j, none⟩) (v := v) (h := by intro e; injection e with _ e2 _; omega)
  refine ⟨World.cell?_setCell_same (w := w) (a := ⟨b, 0, none⟩) (v := v0) (h := h0), ?_, ?_, ?_⟩
  · exact World.cell?_setCell_same (w := _) (a := ⟨b, 1, none⟩) (v := v1) (h := (o _ 0 1 _ (by omega)).trans h1)
  · exact World.cell?_setCell_same (w := _) (a := ⟨b, 2, none⟩) (v := v2) (h := (o _ 1 2 _ (by omega)).trans ((o _ 0 2 _ (by omega)).trans h2))
  · exact World.cell?_setCell_same (w := _) (a := ⟨b, 3, none⟩) (v := v3) (h := (o _ 2 3 _ (by omega)).trans ((o _ 1 3 _ (by omega)).trans ((o _ 0 3 _ (by omega)).trans h3)))
theorem rfin (w w1 : World) (g : Below (w.heap.size + 1) (w.alloc zeroT) w1) (v0 v1 v2 v3 : Value) : Below w.heap.size w ((((w1.setCell ⟨w.heap.size, 0, none⟩ v0).setCell ⟨w.heap.size, 1, none⟩ v1).setCell ⟨w.heap.size, 2, none⟩ v2).setCell ⟨w.heap.size, 3, none⟩ v3) :=
  ((((((Below.refl w.heap.size w).alloc (Nat.le_refl _) zeroT).trans (g.mono (by omega))).setCell (p := ⟨w.heap.size, 0, none⟩) (Nat.le_refl _) _).setCell (p := ⟨w.heap.size, 1, none⟩) (Nat.le_refl _) _).setCell (p := ⟨w.heap.size, 2, none⟩) (Nat.le_refl _) _).setCell (p := ⟨w.heap.size, 3, none⟩) (Nat.le_refl _) _
theorem refToken_quo (s : ByteArray) (a : Nat) (ha : a < s.size) (hs : s.size ≤ 100000) (h34 : s[a] = 34) (w : World) :
    Calls Tryz.prog 82 #[.string s, .int .i64 (a : Int)] w fun e w' => e = .returned (refAns (tokM (s.data.toList.drop a)) a) ∧ Below w.heap.size w w' := by
  have hls := list_size s
  obtain ⟨l, hl⟩ : ∃ l, s.data.toList = l := ⟨_, rfl⟩
  have HQ := Lib.hid (refQuoted_any s a ha hs)
  rw [hl] at hls HQ ⊢
  have hal : a < l.length := by omega
  have hla : l[a] = 34 := by rw [← rget s l hl a ha hal]; exact h34
  have hdr : l.drop a = 34 :: l.drop (a + 1) := by rw [rdrop_cons l a hal, hla]
  rw [hdr]
  have HW := Lib.hid (fun (wr : World) => show Calls Tryz.prog 133 #[.int .u8 34] wr fun e w' => e = .returned (.bool false) ∧ wr = w' from word_any 34 34 rfl wr)
  have HG0 := Lib.hid (Below.refl (w.heap.size + 1) (w.alloc zeroT))
  have HBX := Lib.hid (rbox w)
  have HFN := Lib.hid (rfin w)
  have hai : (a : Int) < (s.size : Int) := by omega
  have hsj : (s.size : Int) ≤ 100000 := by omega
  cases hq : endQ (l.drop (a + 1)) with
  | none =>
    have HR := Lib.hid (tok_noend _ hq)
    rw [hq] at HQ
    clear hq hl hls hal hla hdr
    go_enter Tryz.func82, Tryz.ntmps82
    go_wp2_with (first | (refine (HW.out _).mono ?_; rintro e w' ⟨rfl, rfl⟩) | (refine (HQ.out _).mono ?_; rintro e w' ⟨rfl, rfl⟩))
    rw [HR.out]
    exact bodyPost_ret (v := refAns none a) (by simp [results, Tryz.results82, go_sem, refAns]) rfl ⟨rfl, (Below.refl _ _).alloc (Nat.le_refl _) _⟩
  | some k =>
    obtain ⟨hk1, hk2, hk3⟩ := endQ_at _ _ k (Nat.le_refl _) hq
    have hrl : (l.drop (a + 1)).length = l.length - (a + 1) := List.length_drop
    have hks : a + (k + 1) ≤ s.size := by omega
    have hksi : (a : Int) + ((k : Int) + 1) ≤ (s.size : Int) := by omega
    have hki1 : (1 : Int) ≤ (k : Int) := by omega
    have hex : (s.extract a (a + (k + 1))).data.toList = 34 :: ((l.drop (a + 1)).take (k - 1) ++ [34]) := by
      rw [S_extract, S_toList, hl, hdr, Nat.add_sub_cancel_left, List.take_succ_cons]
      congr 1
      conv => lhs; rw [hk3]
      rw [List.take_append, List.take_of_length_le (by rw [List.length_take]; omega), List.length_take, show k - min (k - 1) (l.drop (a + 1)).length = 1 by omega]
      rfl
    have HSA := Lib.hid (fun (wr : World) => refSaid_any (s.extract a (a + (k + 1))) _ hex (by rw [ByteArray.size_extract]; omega) wr)
    have HNO := Lib.hid (tok_nosaid _ k hq)
    have HYE := Lib.hid (tok_said _ k hq)
    rw [hq] at HQ
    have hkn : (((k + 1 : Nat) : Int) == 0) = false := by rw [beq_eq_false_iff_ne]; omega
    clear hq hl hls hal hla hdr hk1 hk2 hk3 hrl hex
    unfold qlen at HQ
    simp only at HQ
    go_enter Tryz.func82, Tryz.ntmps82
    go_wp2_with (first | (refine (HW.out _).mono ?_; rintro e w' ⟨rfl, rfl⟩) | (refine (HQ.out _).mono ?_; rintro e w' ⟨rfl, rfl⟩))
    refine (HSA.out _).mono ?_
    rintro e w2 ⟨hr, b2⟩
    have HB2 := Lib.hid (show Below (w.heap.size + 1) (w.alloc zeroT) w2 by simpa [zeroT] using b2)
    clear b2
    obtain ⟨⟨c0, c1, c2, c3⟩, f0, f1, f2, f3⟩ := HBX.out _ HB2.out
    rcases hr with ⟨t, ht, rfl⟩ | ⟨hn, rfl⟩
    · have htk := HYE.out t ht
      by_cases h64 : t.length ≤ 64
      · rw [if_pos h64] at htk
        have HR := Lib.hid htk
        rw [decide_eq_true h64]
        clear htk ht h64
        go_wp2_with fail
        rw [HR.out]
        obtain ⟨d0, d1, d2, d3⟩ := rput4 c0 c1 c2 c3 (.int .i64 3) (.string (S t)) (.int .i64 0) (.int .i64 (a : Int))
        exact bodyPost_ret (v := refAns (some ⟨3, t, 0, k + 1⟩) a) (by simp [results, d0, d1, d2, d3, Tryz.results82, go_sem, refAns]) rfl ⟨rfl, HFN.out _ HB2.out _ _ _ _⟩
      · rw [if_neg h64] at htk
        have HR := Lib.hid htk
        rw [decide_eq_false h64]
        clear htk ht h64
        go_wp2_with fail
        rw [HR.out]
        obtain ⟨d0, d1, d2, d3⟩ := rput4 c0 c1 c2 c3 (.int .i64 0) (.string ⟨#[]⟩) (.int .i64 0) (.int .i64 0)
        exact bodyPost_ret (v := refAns none a) (by simp [results, d0, d1, d2, d3, Tryz.results82, go_sem, refAns]) rfl ⟨rfl, HFN.out _ HB2.out _ _ _ _⟩
    · have HR := Lib.hid (HNO.out hn)
      clear hn
      go_wp2_with fail
      rw [HR.out]
      obtain ⟨d0, d1, d2, d3⟩ := rput4 c0 c1 c2 c3 (.int .i64 0) (.string ⟨#[]⟩) (.int .i64 0) (.int .i64 0)
      exact bodyPost_ret (v := refAns none a) (by simp [results, d0, d1, d2, d3, Tryz.results82, go_sem, refAns]) rfl ⟨rfl, HFN.out _ HB2.out _ _ _ _⟩
end Go.Proofs.YtlmmfhbdebfgkaaGreatDoor.Lx
namespace Go.Proofs.YtlmmfhbdebfgkaaGreatDoor.Lx
open Va
def dfold (acc : Nat) (d : List UInt8) : Nat := d.foldl (fun a c => 10 * a + (c.toNat - 48)) acc
theorem dfold_cons (acc : Nat) (c : UInt8) (d : List UInt8) : dfold acc (c :: d) = dfold (10 * acc + (c.toNat - 48)) d := by simp only [dfold, List.foldl_cons]
theorem dfold_ge (acc : Nat) (d : List UInt8) : acc ≤ dfold acc d := by
  induction d generalizing acc with
  | nil => exact Nat.le_refl _
  | cons c d ih => rw [dfold_cons]; exact Nat.le_trans (by omega) (ih _)
theorem digB_iff (c : UInt8) : digB c = true ↔ 48 ≤ c.toNat ∧ c.toNat ≤ 57 := by
  unfold digB
  simp [UInt8.le_iff_toNat_le]
end Go.Proofs.YtlmmfhbdebfgkaaGreatDoor.Lx
namespace Go.Proofs.YtlmmfhbdebfgkaaGreatDoor.Lx
open Go.RowKit
open Va
theorem rfind_at (p : List UInt8 → Bool) (k : Nat) (hk : k < 27) (h0 : ∀ j, j < k → p (signs.getD j []) = false) (h : p (signs.getD k []) = true) : signs.find? p = some (signs.getD k []) := by
  have : ∀ (l : List (List UInt8)) (k : Nat), k < l.length → (∀ j, j < k → p (l.getD j []) = false) → p (l.getD k []) = true → l.find? p = some (l.getD k []) := by
    intro l
    induction l with
    | nil => intro k hk; simp at hk
    | cons a r ih =>
      intro k hk h0 h
      cases k with
      | zero => rw [List.find?_cons, show p a = true from h]; rfl
      | succ k =>
        rw [List.find?_cons, show p a = false from h0 0 (by omega)]
        exact ih k (by simpa using hk) (fun j hj => h0 (j + 1) (by omega)) h
  exact this signs k hk h0 h
theorem rfind_no (p : List UInt8 → Bool) (h0 : ∀ j, j < 27 → p (signs.getD j []) = false) : signs.find? p = none := by
  rw [List.find?_eq_none]
  intro x hx
  obtain ⟨j, hj, rfl⟩ := List.getElem_of_mem hx
  have := h0 j hj
  simp [List.getD, hj] at this
  simp [this]
theorem rsign_len (k : Nat) (hk : k < 27) : 1 ≤ (signs.getD k []).length ∧ (signs.getD k []).length ≤ 2 := by
  have : ∀ i : Fin 27, 1 ≤ (signs.getD i.val []).length ∧ (signs.getD i.val []).length ≤ 2 := by decide
  exact this ⟨k, hk⟩
theorem tok_other (c : UInt8) (r : List UInt8) (h39 : c ≠ 39) (hl : letB c = false) (hd : digB c = false) (h34 : c ≠ 34) : tokM (c :: r) = match signs.find? (fun s => s.isPrefixOf (c :: r)) with
      | none => none
      | some s => some ⟨5, s, 0, s.length⟩ := by
  rw [tokM_cons, if_neg h39, if_neg (by rw [hl]; decide), if_neg (by rw [hd]; decide), if_neg h34]
  rfl
def SgAt (w : World) (g : Nat) : Prop := ∀ k, k < 27 → w.cell? ⟨g, k, none⟩ = some (.string (S (signs.getD k [])))
theorem refSigns_any (w : World) :
    Calls Tryz.prog 137 #[] w fun e w' => (∃ g : Nat, e = .returned (.slice (some ⟨g, 0, none⟩) 27 27) ∧ SgAt w' g) ∧ Below w.heap.size w w' := by
  have hsg : SgAt (w.alloc (.cells (signs.map fun t => Value.string (S t)).toArray 9)) w.heap.size := fun k hk => by
    have hk' : k < signs.length := hk
    rw [cell_of_row _ w.heap.size k _ _ (0, 0) (heap_alloc_new w _), List.getElem?_toArray, List.getElem?_map, List.getElem?_eq_getElem hk']
    simp [List.getD, List.getElem?_eq_getElem hk']
  have HSG := Lib.hid hsg
  clear hsg
  go_enter Tryz.func137, Tryz.ntmps137
  go_wp2_with fail
  go_ret
  exact ⟨⟨_, rfl, HSG.out⟩, (Below.refl _ _).alloc (Nat.le_refl _) _⟩
theorem refToken_sign (s : ByteArray) (a : Nat) (ha : a < s.size) (hs : s.size ≤ 100000) (h39 : s[a] ≠ 39) (hlb : letB s[a] = false) (hdb : digB s[a] = false) (h34 : s[a] ≠ 34) (w : World) :
    Calls Tryz.prog 82 #[.string s, .int .i64 (a : Int)] w fun e w' => e = .returned (refAns (tokM (s.data.toList.drop a)) a) ∧ Below w.heap.size w w' := by
  have hls := list_size s
  obtain ⟨l, hl⟩ : ∃ l, s.data.toList = l := ⟨_, rfl⟩
  rw [hl] at hls ⊢
  have hal : a < l.length := by omega
  have hla := rget s l hl a ha hal
  obtain ⟨c, hc⟩ : ∃ c, s[a] = c := ⟨_, rfl⟩
  rw [hc] at h39 hlb hdb h34 hla
  have hdr : l.drop a = c :: l.drop (a + 1) := by rw [rdrop_cons l a hal, ← hla]
  have htk := tok_other c (l.drop (a + 1)) h39 hlb hdb h34
  rw [← hdr] at htk
  have HTK := Lib.hid htk
  have n39 : ((c.toNat : Int) == 39) = false := rbyte_ne c 39 h39
  have n34 : ((c.toNat : Int) == 34) = false := rbyte_ne c 34 h34
  have HSI := Lib.hid refSigns_any
  have HBX := Lib.hid (rbox w)
  have HFN := Lib.hid (rfin w)
  have HLS := Lib.hid hls
  have hai : (a : Int) < (s.size : Int) := by omega
  have hsj : (s.size : Int) ≤ 100000 := by omega
  have HEX := Lib.hid (fun (n : Nat) => show s.extract a (a + n) = S ((l.drop a).take n) from by rw [S_extract, hl, Nat.add_sub_cancel_left])
  have hnd : ¬ (48 ≤ c.toNat ∧ c.toNat ≤ 57) := fun h => by rw [(digB_iff c).2 h] at hdb; cases hdb
  have hdi : ¬ (48 : Int) ≤ (c.toNat : Int) ∨ ((48 : Int) ≤ (c.toNat : Int) ∧ ¬ (c.toNat : Int) ≤ 57) := by omega
  have hword : (wordB c = false) ∨ (c = 95) := by
    by_cases h : c = 95
    · exact .inr h
    · refine .inl ?_
      unfold wordB
      rw [hlb, hdb]
      simpa using h
  have hwd := fun (wr : World) => word_any c c.toNat rfl wr
  have hcs : Hid (∀ wr : World, Calls Tryz.prog 133 #[.int .u8 (c.toNat : Int)] wr fun e w' => e = .returned (.bool (wordB c)) ∧ wr = w') := Lib.hid hwd
  clear hl hls hdr htk hla hlb hdb hal hwd h39 h34 hnd
  rcases hword with hw | rfl
  · rw [hw] at hcs
    have HW := hcs
    clear hw hcs
    rcases hdi with k1 | ⟨k1, k2⟩
    all_goals
      go_enter Tryz.func82, Tryz.ntmps82
      go_wp2_with (first | (go_at_call 133; refine (HW.out _).mono ?_; rintro e w' ⟨rfl, rfl⟩) | (go_at_call 137; refine (HSI.out _).mono ?_; rintro e w2 ⟨⟨g, rfl, hsg⟩, b2⟩; have HSG := Lib.hid hsg; have HB2 := Lib.hid (show Below (w.heap.size + 1) (w.alloc zeroT) w2 by simpa [zeroT] using b2); clear hsg b2))
      go_loop [147] (fun v => ∃ k : Nat, v = .int .i64 k ∧ k ≤ 27 ∧ Hid (∀ j, j < k → (signs.getD j []).isPrefixOf (l.drop a) = false)) (fun v => 27 - (intOf v).toNat)
      case atStart => exact ⟨0, rfl, by omega, Lib.hid (fun j hj => absurd hj (by omega))⟩
      case round =>
        obtain ⟨k, rfl, hk, HNO⟩ := hrel
        by_cases hlt : k < 27
        · have hki : (k : Int) < 27 := by omega
          have hcell := HSG.out k hlt
          obtain ⟨hs1, hs2⟩ := rsign_len k hlt
          have HAT := Lib.hid (fun h => rfind_at (fun p => p.isPrefixOf (l.drop a)) k hlt HNO.out h)
          have HNX := Lib.hid (fun (h : (signs.getD k []).isPrefixOf (l.drop a) = false) => show Hid (∀ j, j < k + 1 → (signs.getD j []).isPrefixOf (l.drop a) = false) from Lib.hid (fun j hj => by
            by_cases e : j = k
            · rw [e]; exact h
            · exact HNO.out j (by omega)))
          generalize signs.getD k [] = t at *
          obtain ⟨X, hX⟩ : ∃ X, X = S t := ⟨_, rfl⟩
          have hXz : X.size = t.length := by rw [hX, S_size]
          have hXi1 : (1 : Int) ≤ (X.size : Int) := by omega
          have hXi2 : (X.size : Int) ≤ 2 := by omega
          have hXl : X.toList = t := by rw [hX, ByteArray.toList_eq, S_toList]
          rw [← hX] at hcell
          have hex := HEX.out X.size
          have hpf : t.isPrefixOf (l.drop a) = true ↔ t = (l.drop a).take X.size := by rw [List.isPrefixOf_iff_prefix, List.prefix_iff_eq_take, hXz]
          by_cases hH : t.isPrefixOf (l.drop a) = true
          · have hA : a + X.size ≤ s.size := by
              have h1 := (List.isPrefixOf_iff_prefix.1 hH).length_le
              rw [List.length_drop] at h1
              have := HLS.out
              omega
            have hAi : (a : Int) + (X.size : Int) ≤ (s.size : Int) := by omega
            have heq : ((s.extract a (a + X.size)).toList == X.toList) = true := by
              rw [hex, hXl, ByteArray.toList_eq, S_toList, ← hpf.1 hH]; simp
            have hR := HTK.out
            rw [HAT.out hH] at hR
            have HR := Lib.hid hR
            have HXS := Lib.hid hX
            have HXZ := Lib.hid hXz
            obtain ⟨⟨c0, c1, c2, c3⟩, f0, f1, f2, f3⟩ := HBX.out _ HB2.out
            clear hH hpf hex hX hXz hXl hR hA
            go_wp2_with fail
            rw [HR.out]
            obtain ⟨d0, d1, d2, d3⟩ := rput4 c0 c1 c2 c3 (.int .i64 5) (.string X) (.int .i64 0) (.int .i64 (a : Int))
            exact bodyPost_ret (v := refAns (some ⟨5, t, 0, t.length⟩) a) (by simp [results, d0, d1, d2, d3, Tryz.results82, go_sem, refAns, HXS.out.symm, HXZ.out]) rfl ⟨rfl, HFN.out _ HB2.out _ _ _ _⟩
          · have hHf : t.isPrefixOf (l.drop a) = false := Bool.eq_false_iff.2 hH
            have HN := HNX.out hHf
            by_cases hA : a + X.size ≤ s.size
            · have hAi : (a : Int) + (X.size : Int) ≤ (s.size : Int) := by omega
              have heq : ((s.extract a (a + X.size)).toList == X.toList) = false := by
                rw [beq_eq_false_iff_ne, hex, hXl, ByteArray.toList_eq, S_toList]
                intro e
                exact hH (hpf.2 e.symm)
              clear hH hHf hpf hex hX hXz hXl hA
              go_wp2_with fail
              go_round
              case rel => exact ⟨k + 1, by go_num, by omega, HN⟩
              case measure => simp [intOf]; omega
            · have hAi : ¬ (a : Int) + (X.size : Int) ≤ (s.size : Int) := by omega
              clear hH hHf hpf hex hX hXz hXl hA
              go_wp2_with fail
              go_round
              case rel => exact ⟨k + 1, by go_num, by omega, HN⟩
              case measure => simp [intOf]; omega
        · obtain rfl : k = 27 := by omega
          have hR := HTK.out
          rw [rfind_no _ HNO.out] at hR
          have HR := Lib.hid hR
          obtain ⟨⟨c0, c1, c2, c3⟩, f0, f1, f2, f3⟩ := HBX.out _ HB2.out
          clear hR
          go_wp2_with fail
          rw [HR.out]
          obtain ⟨d0, d1, d2, d3⟩ := rput4 c0 c1 c2 c3 (.int .i64 0) (.string ⟨#[]⟩) (.int .i64 0) (.int .i64 0)
          exact bodyPost_ret (v := refAns none a) (by simp [results, d0, d1, d2, d3, Tryz.results82, go_sem, refAns]) rfl ⟨rfl, HFN.out _ HB2.out _ _ _ _⟩
  · have HW := Lib.hid (fun (wr : World) => show Calls Tryz.prog 133 #[.int .u8 95] wr fun e w' => e = .returned (.bool true) ∧ wr = w' from hcs.out wr)
    have hc95 : s[a] = 95 := hc
    clear hcs hdi n39 n34 hc
    go_enter Tryz.func82, Tryz.ntmps82
    go_wp2_with (first | (go_at_call 133; refine (HW.out _).mono ?_; rintro e w' ⟨rfl, rfl⟩) | (go_at_call 137; refine (HSI.out _).mono ?_; rintro e w2 ⟨⟨g, rfl, hsg⟩, b2⟩; have HSG := Lib.hid hsg; have HB2 := Lib.hid (show Below (w.heap.size + 1) (w.alloc zeroT) w2 by simpa [zeroT] using b2); clear hsg b2))
    go_loop [147] (fun v => ∃ k : Nat, v = .int .i64 k ∧ k ≤ 27 ∧ Hid (∀ j, j < k → (signs.getD j []).isPrefixOf (l.drop a) = false)) (fun v => 27 - (intOf v).toNat)
    case atStart => exact ⟨0, rfl, by omega, Lib.hid (fun j hj => absurd hj (by omega))⟩
    case round =>
      obtain ⟨k, rfl, hk, HNO⟩ := hrel
      by_cases hlt : k < 27
      · have hki : (k : Int) < 27 := by omega
        have hcell := HSG.out k hlt
        obtain ⟨hs1, hs2⟩ := rsign_len k hlt
        have HAT := Lib.hid (fun h => rfind_at (fun p => p.isPrefixOf (l.drop a)) k hlt HNO.out h)
        have HNX := Lib.hid (fun (h : (signs.getD k []).isPrefixOf (l.drop a) = false) => show Hid (∀ j, j < k + 1 → (signs.getD j []).isPrefixOf (l.drop a) = false) from Lib.hid (fun j hj => by
          by_cases e : j = k
          · rw [e]; exact h
          · exact HNO.out j (by omega)))
        generalize signs.getD k [] = t at *
        obtain ⟨X, hX⟩ : ∃ X, X = S t := ⟨_, rfl⟩
        have hXz : X.size = t.length := by rw [hX, S_size]
        have hXi1 : (1 : Int) ≤ (X.size : Int) := by omega
        have hXi2 : (X.size : Int) ≤ 2 := by omega
        have hXl : X.toList = t := by rw [hX, ByteArray.toList_eq, S_toList]
        rw [← hX] at hcell
        have hex := HEX.out X.size
        have hpf : t.isPrefixOf (l.drop a) = true ↔ t = (l.drop a).take X.size := by rw [List.isPrefixOf_iff_prefix, List.prefix_iff_eq_take, hXz]
        by_cases hH : t.isPrefixOf (l.drop a) = true
        · have hA : a + X.size ≤ s.size := by
            have h1 := (List.isPrefixOf_iff_prefix.1 hH).length_le
            rw [List.length_drop] at h1
            have := HLS.out
            omega
          have hAi : (a : Int) + (X.size : Int) ≤ (s.size : Int) := by omega
          have heq : ((s.extract a (a + X.size)).toList == X.toList) = true := by
            rw [hex, hXl, ByteArray.toList_eq, S_toList, ← hpf.1 hH]; simp
          have hR := HTK.out
          rw [HAT.out hH] at hR
          have HR := Lib.hid hR
          have HXS := Lib.hid hX
          have HXZ := Lib.hid hXz
          obtain ⟨⟨c0, c1, c2, c3⟩, f0, f1, f2, f3⟩ := HBX.out _ HB2.out
          clear hH hpf hex hX hXz hXl hR hA
          go_wp2_with fail
          rw [HR.out]
          obtain ⟨d0, d1, d2, d3⟩ := rput4 c0 c1 c2 c3 (.int .i64 5) (.string X) (.int .i64 0) (.int .i64 (a : Int))
          exact bodyPost_ret (v := refAns (some ⟨5, t, 0, t.length⟩) a) (by simp [results, d0, d1, d2, d3, Tryz.results82, go_sem, refAns, HXS.out.symm, HXZ.out]) rfl ⟨rfl, HFN.out _ HB2.out _ _ _ _⟩
        · have hHf : t.isPrefixOf (l.drop a) = false := Bool.eq_false_iff.2 hH
          have HN := HNX.out hHf
          by_cases hA : a + X.size ≤ s.size
          · have hAi : (a : Int) + (X.size : Int) ≤ (s.size : Int) := by omega
            have heq : ((s.extract a (a + X.size)).toList == X.toList) = false := by
              rw [beq_eq_false_iff_ne, hex, hXl, ByteArray.toList_eq, S_toList]
              intro e
              exact hH (hpf.2 e.symm)
            clear hH hHf hpf hex hX hXz hXl hA
            go_wp2_with fail
            go_round
            case rel => exact ⟨k + 1, by go_num, by omega, HN⟩
            case measure => simp [intOf]; omega
          · have hAi : ¬ (a : Int) + (X.size : Int) ≤ (s.size : Int) := by omega
            clear hH hHf hpf hex hX hXz hXl hA
            go_wp2_with fail
            go_round
            case rel => exact ⟨k + 1, by go_num, by omega, HN⟩
            case measure => simp [intOf]; omega
      · obtain rfl : k = 27 := by omega
        have hR := HTK.out
        rw [rfind_no _ HNO.out] at hR
        have HR := Lib.hid hR
        obtain ⟨⟨c0, c1, c2, c3⟩, f0, f1, f2, f3⟩ := HBX.out _ HB2.out
        clear hR
        go_wp2_with fail
        rw [HR.out]
        obtain ⟨d0, d1, d2, d3⟩ := rput4 c0 c1 c2 c3 (.int .i64 0) (.string ⟨#[]⟩) (.int .i64 0) (.int .i64 0)
        exact bodyPost_ret (v := refAns none a) (by simp [results, d0, d1, d2, d3, Tryz.results82, go_sem, refAns]) rfl ⟨rfl, HFN.out _ HB2.out _ _ _ _⟩
end Go.Proofs.YtlmmfhbdebfgkaaGreatDoor.Lx
