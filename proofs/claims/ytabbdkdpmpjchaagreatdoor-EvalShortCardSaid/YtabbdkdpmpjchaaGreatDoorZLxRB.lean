/-
  Several texts in one: LxRTokP, LxRTokQ, LxRTokD, LxRTokN, LxRTokS, LxRScanW.
-/
import Derived.Test.YtabbdkdpmpjchaaGreatDoorZLxRA
import Derived.Test.YtabbdkdpmpjchaaGreatDoorZLxRef
import Derived.Test.YtabbdkdpmpjchaaGreatDoorZTzF
import Derived.Test.YtabbdkdpmpjchaaGreatDoorZLxDig
import Derived.Test.YtabbdkdpmpjchaaGreatDoorZTzL
import Derived.Laws.AppendOwn
namespace Go.Proofs.YtabbdkdpmpjchaaGreatDoor.Lx
open Va
theorem endQ_at : ∀ (n : Nat) (r : List UInt8) (k : Nat), r.length ≤ n → endQ r = some k → 1 ≤ k ∧ k ≤ r.length ∧ r = r.take (k - 1) ++ 34 :: r.drop k := by
  intro n
  induction n with
  | zero =>
    intro r k hr h
    have : r = [] := List.eq_nil_of_length_eq_zero (by omega)
    subst this
    cases h
  | succ n ih =>
    intro r k hr h
    match r, hr, h with
    | [], _, h => cases h
    | c :: r, hr, h =>
      by_cases h92 : c = 92
      · subst h92
        match r, hr, h with
        | [], _, h => cases h
        | d :: r, hr, h =>
          rw [endQ_esc] at h
          cases he : endQ r with
          | none => rw [he] at h; cases h
          | some j =>
            rw [he] at h
            obtain rfl : j + 2 = k := by simpa using h
            obtain ⟨h1, h2, h3⟩ := ih r j (by simp at hr; omega) he
            refine ⟨by omega, by simp; omega, ?_⟩
            rw [show j + 2 - 1 = (j - 1) + 2 by omega]
            simp only [List.take_succ_cons, List.drop_succ_cons, List.cons_append]
            rw [← h3]
      · by_cases h34 : c = 34
        · subst h34
          rw [endQ_quo] at h
          obtain rfl : 1 = k := by simpa using h
          exact ⟨by omega, by simp, rfl⟩
        · rw [endQ_one c r h92 h34] at h
          cases he : endQ r with
          | none => rw [he] at h; cases h
          | some j =>
            rw [he] at h
            obtain rfl : j + 1 = k := by simpa using h
            obtain ⟨h1, h2, h3⟩ := ih r j (by simp at hr; omega) he
            refine ⟨by omega, by simp; omega, ?_⟩
            rw [show j + 1 - 1 = (j - 1) + 1 by omega]
            simp only [List.take_succ_cons, List.drop_succ_cons, List.cons_append]
            rw [← h3]
theorem tok_34 (r : List UInt8) : tokM (34 :: r) = match quo (r.length + 1) r with
    | none => none
    | some (t, n) => if t.length ≤ 64 then some ⟨3, t, 0, n + 1⟩ else none := by
  rw [tokM_cons, if_neg (by decide), if_neg (by decide), if_neg (by decide), if_pos rfl]
  rfl
theorem quo_endQ (r : List UInt8) (t : List UInt8) (n : Nat) (h : quo (r.length + 1) r = some (t, n)) : endQ r = some n ∧ r.take (n - 1) = escT t := by
  have e := quo_text _ _ _ _ h
  have hn := quo_len _ _ _ _ h
  have hr : r = escT t ++ 34 :: r.drop n := by
    conv => lhs; rw [← List.take_append_drop n r, e]
    simp
  have hl := congrArg List.length e
  rw [List.length_take] at hl
  simp only [List.length_append, List.length_cons, List.length_nil] at hl
  have hk : n = (escT t).length + 1 := by omega
  refine ⟨?_, ?_⟩
  · rw [hr, endQ_text, hk]
  · rw [hk, Nat.add_sub_cancel]
    conv => lhs; rw [hr]
    rw [List.take_left]
theorem tok_noend (r : List UInt8) (h : endQ r = none) : tokM (34 :: r) = none := by
  rw [tok_34]
  cases hq : quo (r.length + 1) r with
  | none => rfl
  | some tn => rw [(quo_endQ r tn.1 tn.2 hq).1] at h; cases h
theorem tok_nosaid (r : List UInt8) (k : Nat) (h : endQ r = some k) (hn : ∀ t, r.take (k - 1) ≠ escT t) : tokM (34 :: r) = none := by
  rw [tok_34]
  cases hq : quo (r.length + 1) r with
  | none => rfl
  | some tn =>
    obtain ⟨h1, h2⟩ := quo_endQ r tn.1 tn.2 hq
    rw [h1] at h
    obtain rfl : tn.2 = k := by simpa using h
    exact absurd h2 (hn _)
theorem tok_said (r : List UInt8) (k : Nat) (h : endQ r = some k) (t : List UInt8) (ht : r.take (k - 1) = escT t) : tokM (34 :: r) = if t.length ≤ 64 then some ⟨3, t, 0, k + 1⟩ else none := by
  obtain ⟨h1, h2, h3⟩ := endQ_at _ r k (Nat.le_refl _) h
  have hl := congrArg List.length ht
  rw [List.length_take] at hl
  have hge := escT_ge t
  have hq := quo_of t (r.drop k) (r.length + 1) (by omega)
  rw [← ht, ← h3, show (r.take (k - 1)).length + 1 = k by rw [List.length_take]; omega] at hq
  rw [tok_34, hq]
structure TwSt (p : UInt8 → Bool) (l : List UInt8) (a n : Nat) : Prop where
  eq : (l.drop a).takeWhile p = (l.drop a).take (n - a) ++ (l.drop n).takeWhile p
  le : a ≤ n
theorem tw_start (p : UInt8 → Bool) (l : List UInt8) (a : Nat) : TwSt p l a a := ⟨by simp, Nat.le_refl _⟩
theorem tw_step (p : UInt8 → Bool) (l : List UInt8) (a n : Nat) (h : TwSt p l a n) (hn : n < l.length) (hp : p l[n] = true) : TwSt p l a (n + 1) := by
  have he := h.eq
  have hl := h.le
  refine ⟨?_, by omega⟩
  rw [he, rdrop_cons l n hn, List.takeWhile_cons, if_pos hp]
  have e1 : (l.drop a).take (n + 1 - a) = (l.drop a).take (n - a) ++ [l[n]] := by
    rw [show n + 1 - a = (n - a) + 1 by omega, List.take_succ_eq_append_getElem (by rw [List.length_drop]; omega)]
    congr 2
    rw [List.getElem_drop]
    congr 1
    omega
  rw [e1, List.append_assoc]
  rfl
theorem tw_stop (p : UInt8 → Bool) (l : List UInt8) (a n : Nat) (h : TwSt p l a n) (hc : l.length ≤ n ∨ ∃ hn : n < l.length, p l[n] = false) : (l.drop a).takeWhile p = (l.drop a).take (n - a) := by
  have he := h.eq
  rcases hc with hc | ⟨hn, hc⟩
  · rw [List.drop_eq_nil_of_le hc, List.takeWhile_nil, List.append_nil] at he
    exact he
  · rw [rdrop_cons l n hn, List.takeWhile_cons, hc] at he
    simpa using he
end Go.Proofs.YtabbdkdpmpjchaaGreatDoor.Lx

namespace Go.Proofs.YtabbdkdpmpjchaaGreatDoor.Lx
open Go.RowKit
open Va
def zeroT : Obj := .cells #[.int .i64 0, .string ⟨#[]⟩, .int .i64 0, .int .i64 0] 83
def refAns (x : Option Tok) (a : Nat) : Value := match x with
  | none => .tuple #[.agg #[.int .i64 0, .string ⟨#[]⟩, .int .i64 0, .int .i64 0], .int .i64 0]
  | some x => .tuple #[.agg #[.int .i64 x.kind, .string (S x.text), .int .i64 x.num, .int .i64 (a : Int)], .int .i64 (x.len : Int)]
theorem rbox (w w1 : World) (g : Below (w.heap.size + 1) (w.alloc zeroT) w1) :
    (w1.cell? ⟨w.heap.size, 0, none⟩ = some (.int .i64 0) ∧ w1.cell? ⟨w.heap.size, 1, none⟩ = some (.string ⟨#[]⟩) ∧ w1.cell? ⟨w.heap.size, 2, none⟩ = some (.int .i64 0) ∧ w1.cell? ⟨w.heap.size, 3, none⟩ = some (.int .i64 0)) ∧
    (w1.frozen? ⟨w.heap.size, 0, none⟩ = false ∧ w1.frozen? ⟨w.heap.size, 1, none⟩ = false ∧ w1.frozen? ⟨w.heap.size, 2, none⟩ = false ∧ w1.frozen? ⟨w.heap.size, 3, none⟩ = false) := by
  have h0 := heap_alloc_new w zeroT
  have h := (g.block w.heap.size (by omega)).trans h0
  have hf : ∀ j, w1.frozen? ⟨w.heap.size, j, none⟩ = false := fun j => by unfold World.frozen?; simp only [h]; simp [zeroT]
  exact ⟨⟨(cell_of_row w1 _ 0 _ _ (0, 0) h).trans rfl, (cell_of_row w1 _ 1 _ _ (0, 0) h).trans rfl, (cell_of_row w1 _ 2 _ _ (0, 0) h).trans rfl, (cell_of_row w1 _ 3 _ _ (0, 0) h).trans rfl⟩, hf 0, hf 1, hf 2, hf 3⟩
theorem rput4 {w : World} {b : Nat} {u0 u1 u2 u3 : Value} (h0 : w.cell? ⟨b, 0, none⟩ = some u0) (h1 : w.cell? ⟨b, 1, none⟩ = some u1) (h2 : w.cell? ⟨b, 2, none⟩ = some u2) (h3 : w.cell? ⟨b, 3, none⟩ = some u3) (v0 v1 v2 v3 : Value) :
    (w.setCell ⟨b, 0, none⟩ v0).cell? ⟨b, 0, none⟩ = some v0 ∧ ((w.setCell ⟨b, 0, none⟩ v0).setCell ⟨b, 1, none⟩ v1).cell? ⟨b, 1, none⟩ = some v1 ∧
    (((w.setCell ⟨b, 0, none⟩ v0).setCell ⟨b, 1, none⟩ v1).setCell ⟨b, 2, none⟩ v2).cell? ⟨b, 2, none⟩ = some v2 ∧ ((((w.setCell ⟨b, 0, none⟩ v0).setCell ⟨b, 1, none⟩ v1).setCell ⟨b, 2, none⟩ v2).setCell ⟨b, 3, none⟩ v3).cell? ⟨b, 3, none⟩ = some v3 := by
  have o : ∀ (x : World) (i j : Nat) (v : Value), i ≠ j → (x.setCell ⟨b, i, none⟩ v).cell? ⟨b, j, none⟩ = x.cell? ⟨b, j, none⟩ := fun x i j v h =>
    World.cell?_setCell_other (w := x) (a := ⟨b, i, none⟩) (b := ⟨b, j, none⟩) (v := v) (h := by intro e; injection e with _ e2 _; omega)
  refine ⟨World.cell?_setCell_same (w := w) (a := ⟨b, 0, none⟩) (v := v0) (h := h0), ?_, ?_, ?_⟩
  · exact World.cell?_setCell_same (w := _) (a := ⟨b, 1, none⟩) (v := v1) (h := (o _ 0 1 _ (by omega)).trans h1)
  · exact World.cell?_setCell_same (w := _) (a := ⟨b, 2, none⟩) (v := v2) (h := (o _ 1 2 _ (by omega)).trans ((o _ 0 2 _ (by omega)).trans h2))
  · exact World.cell?_setCell_same (w := _) (a := ⟨b, 3, none⟩) (v := v3) (h := (o _ 2 3 _ (by omega)).trans ((o _ 1 3 _ (by omega)).trans ((o _ 0 3 _ (by omega)).trans h3)))
theorem rfin (w w1 : World) (g : Below (w.heap.size + 1) (w.alloc zeroT) w1) (v0 v1 v2 v3 : Value) : Below w.heap.size w ((((w1.setCell ⟨w.heap.size, 0, none⟩ v0).setCell ⟨w.heap.size, 1, none⟩ v1).setCell ⟨w.heap.size, 2, none⟩ v2).setCell ⟨w.heap.size, 3, none⟩ v3) :=
  ((((((Below.refl w.heap.size w).alloc (Nat.le_refl _) zeroT).trans (g.mono (by omega))).setCell (p := ⟨w.heap.size, 0, none⟩) (Nat.le_refl _) _).setCell (p := ⟨w.heap.size, 1, none⟩) (Nat.le_refl _) _).setCell (p := ⟨w.heap.size, 2, none⟩) (Nat.le_refl _) _).setCell (p := ⟨w.heap.size, 3, none⟩) (Nat.le_refl _) _
set_option linter.unusedSimpArgs false
set_option maxRecDepth 100000 in
set_option maxHeartbeats 3200000 in
theorem refToken_quo (s : ByteArray) (a : Nat) (ha : a < s.size) (hs : s.size ≤ 100000) (h34 : s[a] = 34) (w : World) :
    Calls Tryz.prog 93 #[.string s, .int .i64 (a : Int)] w fun e w' => e = .returned (refAns (tokM (s.data.toList.drop a)) a) ∧ Below w.heap.size w w' := by
  have hls := list_size s
  obtain ⟨l, hl⟩ : ∃ l, s.data.toList = l := ⟨_, rfl⟩
  have HQ := Lib.hid (refQuoted_any s a ha hs)
  rw [hl] at hls HQ ⊢
  have hal : a < l.length := by omega
  have hla : l[a] = 34 := by rw [← rget s l hl a ha hal]; exact h34
  have hdr : l.drop a = 34 :: l.drop (a + 1) := by rw [rdrop_cons l a hal, hla]
  rw [hdr]
  have HW := Lib.hid (fun (wr : World) => show Calls Tryz.prog 137 #[.int .u8 34] wr fun e w' => e = .returned (.bool false) ∧ wr = w' from word_any 34 34 rfl wr)
  have HG0 := Lib.hid (Below.refl (w.heap.size + 1) (w.alloc zeroT))
  have HBX := Lib.hid (rbox w)
  have HFN := Lib.hid (rfin w)
  have hai : (a : Int) < (s.size : Int) := by omega
  have hsj : (s.size : Int) ≤ 100000 := by omega
  cases hq : endQ (l.drop (a + 1)) with
  | none =>
    have HR := Lib.hid (tok_noend _ hq)
    rw [hq] at HQ
    clear hq hl hls hal hla hdr
    go_enter Tryz.func93, Tryz.ntmps93
    go_wp2_with (first | (refine (HW.out _).mono ?_; rintro e w' ⟨rfl, rfl⟩) | (refine (HQ.out _).mono ?_; rintro e w' ⟨rfl, rfl⟩))
    rw [HR.out]
    exact bodyPost_ret (v := refAns none a) (by simp [results, Tryz.results93, go_sem, refAns]) rfl ⟨rfl, (Below.refl _ _).alloc (Nat.le_refl _) _⟩
  | some k =>
    obtain ⟨hk1, hk2, hk3⟩ := endQ_at _ _ k (Nat.le_refl _) hq
    have hrl : (l.drop (a + 1)).length = l.length - (a + 1) := List.length_drop
    have hks : a + (k + 1) ≤ s.size := by omega
    have hksi : (a : Int) + ((k : Int) + 1) ≤ (s.size : Int) := by omega
    have hki1 : (1 : Int) ≤ (k : Int) := by omega
    have hex : (s.extract a (a + (k + 1))).data.toList = 34 :: ((l.drop (a + 1)).take (k - 1) ++ [34]) := by
      rw [S_extract, S_toList, hl, hdr, Nat.add_sub_cancel_left, List.take_succ_cons]
      congr 1
      conv => lhs; rw [hk3]
      rw [List.take_append, List.take_of_length_le (by rw [List.length_take]; omega), List.length_take, show k - min (k - 1) (l.drop (a + 1)).length = 1 by omega]
      rfl
    have HSA := Lib.hid (fun (wr : World) => refSaid_any (s.extract a (a + (k + 1))) _ hex (by rw [ByteArray.size_extract]; omega) wr)
    have HNO := Lib.hid (tok_nosaid _ k hq)
    have HYE := Lib.hid (tok_said _ k hq)
    rw [hq] at HQ
    have hkn : (((k + 1 : Nat) : Int) == 0) = false := by rw [beq_eq_false_iff_ne]; omega
    clear hq hl hls hal hla hdr hk1 hk2 hk3 hrl hex
    unfold qlen at HQ
    simp only at HQ
    go_enter Tryz.func93, Tryz.ntmps93
    go_wp2_with (first | (refine (HW.out _).mono ?_; rintro e w' ⟨rfl, rfl⟩) | (refine (HQ.out _).mono ?_; rintro e w' ⟨rfl, rfl⟩))
    refine (HSA.out _).mono ?_
    rintro e w2 ⟨hr, b2⟩
    have HB2 := Lib.hid (show Below (w.heap.size + 1) (w.alloc zeroT) w2 by simpa [zeroT] using b2)
    clear b2
    obtain ⟨⟨c0, c1, c2, c3⟩, f0, f1, f2, f3⟩ := HBX.out _ HB2.out
    rcases hr with ⟨t, ht, rfl⟩ | ⟨hn, rfl⟩
    · have htk := HYE.out t ht
      by_cases h64 : t.length ≤ 64
      · rw [if_pos h64] at htk
        have HR := Lib.hid htk
        rw [decide_eq_true h64]
        clear htk ht h64
        go_wp2_with fail
        rw [HR.out]
        obtain ⟨d0, d1, d2, d3⟩ := rput4 c0 c1 c2 c3 (.int .i64 3) (.string (S t)) (.int .i64 0) (.int .i64 (a : Int))
        exact bodyPost_ret (v := refAns (some ⟨3, t, 0, k + 1⟩) a) (by simp [results, d0, d1, d2, d3, Tryz.results93, go_sem, refAns]) rfl ⟨rfl, HFN.out _ HB2.out _ _ _ _⟩
      · rw [if_neg h64] at htk
        have HR := Lib.hid htk
        rw [decide_eq_false h64]
        clear htk ht h64
        go_wp2_with fail
        rw [HR.out]
        obtain ⟨d0, d1, d2, d3⟩ := rput4 c0 c1 c2 c3 (.int .i64 0) (.string ⟨#[]⟩) (.int .i64 0) (.int .i64 0)
        exact bodyPost_ret (v := refAns none a) (by simp [results, d0, d1, d2, d3, Tryz.results93, go_sem, refAns]) rfl ⟨rfl, HFN.out _ HB2.out _ _ _ _⟩
    · have HR := Lib.hid (HNO.out hn)
      clear hn
      go_wp2_with fail
      rw [HR.out]
      obtain ⟨d0, d1, d2, d3⟩ := rput4 c0 c1 c2 c3 (.int .i64 0) (.string ⟨#[]⟩) (.int .i64 0) (.int .i64 0)
      exact bodyPost_ret (v := refAns none a) (by simp [results, d0, d1, d2, d3, Tryz.results93, go_sem, refAns]) rfl ⟨rfl, HFN.out _ HB2.out _ _ _ _⟩
end Go.Proofs.YtabbdkdpmpjchaaGreatDoor.Lx

namespace Go.Proofs.YtabbdkdpmpjchaaGreatDoor.Lx
open Go.RowKit
open Va
theorem tok_digits (c : UInt8) (r : List UInt8) (h : digB c = true) : tokM (c :: r) = if digsOk ((c :: r).takeWhile digB) = true then some ⟨2, (c :: r).takeWhile digB, undig ((c :: r).takeWhile digB), ((c :: r).takeWhile digB).length⟩ else none := by
  have hc := (digB_iff c).1 h
  have h39 : c ≠ 39 := by rintro rfl; exact absurd h (by decide)
  have hl : letB c = false := by
    have : ∀ i : Fin 256, digB (UInt8.ofNat i.val) = true → letB (UInt8.ofNat i.val) = false := by decide +kernel
    have h1 := this ⟨c.toNat, c.toNat_lt⟩
    simp only [UInt8.ofNat_toNat] at h1
    exact h1 h
  rw [tokM_cons, if_neg h39, if_neg (by rw [hl]; decide), if_pos h]
theorem dig_word (c : UInt8) (h : digB c = true) : wordB c = true := by unfold wordB; rw [h]; simp
set_option linter.unusedSimpArgs false
set_option maxRecDepth 100000 in
set_option maxHeartbeats 6400000 in
theorem refToken_dig (s : ByteArray) (a : Nat) (ha : a < s.size) (hs : s.size ≤ 100000) (hdg : digB s[a] = true) (w : World) :
    Calls Tryz.prog 93 #[.string s, .int .i64 (a : Int)] w fun e w' => e = .returned (refAns (tokM (s.data.toList.drop a)) a) ∧ Below w.heap.size w w' := by
  have hls := list_size s
  obtain ⟨l, hl⟩ : ∃ l, s.data.toList = l := ⟨_, rfl⟩
  rw [hl] at hls ⊢
  have hal : a < l.length := by omega
  have hla := rget s l hl a ha hal
  obtain ⟨c, hc⟩ : ∃ c, s[a] = c := ⟨_, rfl⟩
  rw [hc] at hdg hla
  have hdr : l.drop a = c :: l.drop (a + 1) := by rw [rdrop_cons l a hal, ← hla]
  have htk := tok_digits c (l.drop (a + 1)) hdg
  rw [← hdr] at htk
  have hcb := (digB_iff c).1 hdg
  have n39 : ((c.toNat : Int) == 39) = false := rbyte_ne c 39 (by rintro rfl; exact absurd hdg (by decide))
  have k1 : (48 : Int) ≤ (c.toNat : Int) := by omega
  have k2 : (c.toNat : Int) ≤ 57 := by omega
  have k3 : ¬ (c.toNat : Int) < 48 := by omega
  have k4 : ¬ (57 : Int) < (c.toNat : Int) := by omega
  have HW := Lib.hid (fun (wr : World) => show Calls Tryz.prog 137 #[.int .u8 (c.toNat : Int)] wr fun e w' => e = .returned (.bool true) ∧ wr = w' from by
    have := word_any c c.toNat rfl wr
    rw [dig_word c hdg] at this
    exact this)
  have HG0 := Lib.hid (Below.refl (w.heap.size + 1) (w.alloc zeroT))
  have HBX := Lib.hid (rbox w)
  have HFN := Lib.hid (rfin w)
  have HTK := Lib.hid htk
  have HLS := Lib.hid hls
  have HT0 := Lib.hid (tw_start digB l a)
  have HGT := Lib.hid (fun (k : Nat) (hk : k < s.size) (hk2 : k < l.length) => rget s l hl k hk hk2)
  have hai : (a : Int) < (s.size : Int) := by omega
  have hsj : (s.size : Int) ≤ 100000 := by omega
  have HEX := Lib.hid (fun (n : Nat) => show s.extract a n = S ((l.drop a).take (n - a)) from by rw [S_extract, hl])
  have HCH := Lib.hid (show (l.drop a).takeWhile digB ≠ [] ∧ ∀ x ∈ (l.drop a).takeWhile digB, digB x = true from ⟨by rw [hdr, List.takeWhile_cons, if_pos hdg]; simp, mem_takeWhile digB _⟩)
  clear hl hls hdr htk hcb hla hdg hal
  go_enter Tryz.func93, Tryz.ntmps93
  go_wp2_with (refine (HW.out _).mono ?_; rintro e w' ⟨rfl, rfl⟩)
  go_loop [10] (fun v => ∃ n : Nat, v = .int .i64 n ∧ n ≤ s.size ∧ TwSt digB l a n) (fun v => s.size - (intOf v).toNat)
  case atStart => exact ⟨a, rfl, by omega, HT0.out⟩
  case round =>
    obtain ⟨n, rfl, hn, hst⟩ := hrel
    have HST := Lib.hid hst
    have hle := hst.le
    clear hst
    by_cases hin : ∃ (h : n < s.size), digB s[n] = true
    · obtain ⟨hlt, hd2⟩ := hin
      have hni : (n : Int) < (s.size : Int) := by omega
      have hnl : n < l.length := by have := HLS.out; omega
      have hg := HGT.out n hlt hnl
      have HN := Lib.hid (tw_step digB l a n HST.out hnl (by rw [← hg]; exact hd2))
      obtain ⟨c2, hc2⟩ : ∃ c2, s[n] = c2 := ⟨_, rfl⟩
      rw [hc2] at hd2
      have hb2 := (digB_iff c2).1 hd2
      have q1 : (48 : Int) ≤ (c2.toNat : Int) := by omega
      have q2 : (c2.toNat : Int) ≤ 57 := by omega
      clear hg hd2 hb2
      go_wp2_with fail
      go_round
      case rel => exact ⟨n + 1, by go_num, by omega, HN.out⟩
      case measure => simp [intOf]; omega
    · have hstop := tw_stop digB l a n HST.out (by
        by_cases h : n < s.size
        · have hnl : n < l.length := by have := HLS.out; omega
          refine .inr ⟨hnl, ?_⟩
          rw [← HGT.out n h hnl]
          cases hb : digB s[n] with
          | false => rfl
          | true => exact absurd ⟨h, hb⟩ hin
        · exact .inl (by have := HLS.out; omega))
      have hex := HEX.out n
      have hch := HCH.out
      have htk := HTK.out
      rw [hstop] at hch htk
      have hdl : ((l.drop a).take (n - a)).length = n - a := by rw [List.length_take, List.length_drop]; have := HLS.out; omega
      generalize (l.drop a).take (n - a) = d at *
      have hlen : (n : Int) - (a : Int) = (d.length : Int) := by omega
      have hnai : (a : Int) ≤ (n : Int) := by omega
      have hnsi : (n : Int) ≤ (s.size : Int) := by omega
      have hcase : ¬ n < s.size ∨ (∃ h : n < s.size, (s[n].toNat : Int) < 48) ∨ (∃ h : n < s.size, (57 : Int) < (s[n].toNat : Int)) := by
        by_cases h : n < s.size
        · by_cases h2 : s[n].toNat < 48
          · exact .inr (.inl ⟨h, by omega⟩)
          · by_cases h3 : 57 < s[n].toNat
            · exact .inr (.inr ⟨h, by omega⟩)
            · exact absurd ⟨h, (digB_iff _).2 ⟨by omega, by omega⟩⟩ hin
        · exact .inl h
      have HDG := Lib.hid (fun (wr : World) => refDigits_any (S d) d (S_toList d) hch.1 hch.2 (by rw [S_size]; omega) wr)
      clear hin hstop hch hdl
      cases hok : digsOk d with
      | true =>
        rw [if_pos hok] at htk
        have HR := Lib.hid htk
        have hD : digR2 d = .tuple #[.int .i64 (undig d : Int), .bool true] := by unfold digR2; rw [hok]; rfl
        rw [hD] at HDG
        clear htk hok hD
        have hcases : (¬ (n : Int) < (s.size : Int)) ∨ (∃ h : n < s.size, (n : Int) < (s.size : Int) ∧ ¬ (48 : Int) ≤ (s[n].toNat : Int)) ∨ (∃ h : n < s.size, (n : Int) < (s.size : Int) ∧ (48 : Int) ≤ (s[n].toNat : Int) ∧ ¬ (s[n].toNat : Int) ≤ 57) := by
          rcases hcase with h | ⟨h, h2⟩ | ⟨h, h2⟩
          · exact .inl (by omega)
          · exact .inr (.inl ⟨h, by omega, by omega⟩)
          · exact .inr (.inr ⟨h, by omega, by omega, by omega⟩)
        clear hcase
        rcases hcases with hni | ⟨hlt, hni, h2⟩ | ⟨hlt, hni, h1, h2⟩
        all_goals
          go_wp2_with (refine (HDG.out _).mono ?_; rintro e w' ⟨rfl, rfl⟩)
          rw [HR.out]
          exact bodyPost_ret (v := refAns (some ⟨2, d, undig d, d.length⟩) a) (by simp [results, Tryz.results93, go_sem, refAns]) rfl ⟨rfl, (Below.refl _ _).alloc (Nat.le_refl _) _⟩
      | false =>
        rw [if_neg (by rw [hok]; decide)] at htk
        have HR := Lib.hid htk
        have hD : digR2 d = .tuple #[.int .i64 0, .bool false] := by unfold digR2; rw [hok]; rfl
        rw [hD] at HDG
        clear htk hok hD
        have hcases : (¬ (n : Int) < (s.size : Int)) ∨ (∃ h : n < s.size, (n : Int) < (s.size : Int) ∧ ¬ (48 : Int) ≤ (s[n].toNat : Int)) ∨ (∃ h : n < s.size, (n : Int) < (s.size : Int) ∧ (48 : Int) ≤ (s[n].toNat : Int) ∧ ¬ (s[n].toNat : Int) ≤ 57) := by
          rcases hcase with h | ⟨h, h2⟩ | ⟨h, h2⟩
          · exact .inl (by omega)
          · exact .inr (.inl ⟨h, by omega, by omega⟩)
          · exact .inr (.inr ⟨h, by omega, by omega, by omega⟩)
        clear hcase
        rcases hcases with hni | ⟨hlt, hni, h2⟩ | ⟨hlt, hni, h1, h2⟩
        all_goals
          go_wp2_with (refine (HDG.out _).mono ?_; rintro e w' ⟨rfl, rfl⟩)
          rw [HR.out]
          exact bodyPost_ret (v := refAns none a) (by simp [results, Tryz.results93, go_sem, refAns]) rfl ⟨rfl, (Below.refl _ _).alloc (Nat.le_refl _) _⟩
end Go.Proofs.YtabbdkdpmpjchaaGreatDoor.Lx

namespace Go.Proofs.YtabbdkdpmpjchaaGreatDoor.Lx
open Go.RowKit
open Va
theorem tok_letter (c : UInt8) (r : List UInt8) (h : letB c = true) : tokM (c :: r) = if nameB ((c :: r).takeWhile wordB) = true then some ⟨1, (c :: r).takeWhile wordB, 0, ((c :: r).takeWhile wordB).length⟩ else none := by
  have h39 : c ≠ 39 := by rintro rfl; exact absurd h (by decide)
  rw [tokM_cons, if_neg h39, if_pos h]
theorem tok_tick (r : List UInt8) : tokM (39 :: r) = if nameB (r.takeWhile wordB) = true then some ⟨4, r.takeWhile wordB, 0, (r.takeWhile wordB).length + 1⟩ else none := by
  rw [tokM_cons, if_pos rfl]
theorem let_facts (c : UInt8) (h : letB c = true) : wordB c = true ∧ 57 < c.toNat ∧ c ≠ 95 ∧ c ≠ 39 := by
  have : ∀ i : Fin 256, letB (UInt8.ofNat i.val) = true → wordB (UInt8.ofNat i.val) = true ∧ 57 < i.val ∧ UInt8.ofNat i.val ≠ 95 ∧ UInt8.ofNat i.val ≠ 39 := by decide +kernel
  have h1 := this ⟨c.toNat, c.toNat_lt⟩
  simp only [UInt8.ofNat_toNat] at h1
  exact h1 h
set_option linter.unusedSimpArgs false
set_option maxRecDepth 100000 in
set_option maxHeartbeats 6400000 in
theorem refToken_let (s : ByteArray) (a : Nat) (ha : a < s.size) (hs : s.size ≤ 100000) (hdg : letB s[a] = true) (w : World) :
    Calls Tryz.prog 93 #[.string s, .int .i64 (a : Int)] w fun e w' => e = .returned (refAns (tokM (s.data.toList.drop a)) a) ∧ Below w.heap.size w w' := by
  have hls := list_size s
  obtain ⟨l, hl⟩ : ∃ l, s.data.toList = l := ⟨_, rfl⟩
  rw [hl] at hls ⊢
  have hal : a < l.length := by omega
  have hla := rget s l hl a ha hal
  obtain ⟨c, hc⟩ : ∃ c, s[a] = c := ⟨_, rfl⟩
  rw [hc] at hdg hla
  have hdr : l.drop a = c :: l.drop (a + 1) := by rw [rdrop_cons l a hal, ← hla]
  have htk := tok_letter c (l.drop (a + 1)) hdg
  rw [← hdr] at htk
  obtain ⟨f1, f2, f3, f4⟩ := let_facts c hdg
  have n39 : ((c.toNat : Int) == 39) = false := rbyte_ne c 39 f4
  have n95 : ((c.toNat : Int) == 95) = false := rbyte_ne c 95 f3
  have n95b : ((c.toNat : Int) != 95) = true := by simp only [bne, n95, Bool.not_false]
  have k1 : (57 : Int) < (c.toNat : Int) := by omega
  have k3 : ¬ (c.toNat : Int) < 48 := by omega
  have HW := Lib.hid (fun (wr : World) => show Calls Tryz.prog 137 #[.int .u8 (c.toNat : Int)] wr fun e w' => e = .returned (.bool true) ∧ wr = w' from by
    have := word_any c c.toNat rfl wr
    rw [f1] at this
    exact this)
  have HBX := Lib.hid (rbox w)
  have HTK := Lib.hid htk
  have HLS := Lib.hid hls
  have HT0 := Lib.hid (tw_start wordB l a)
  have HGT := Lib.hid (fun (k : Nat) (hk : k < s.size) (hk2 : k < l.length) => rget s l hl k hk hk2)
  have hai : (a : Int) < (s.size : Int) := by omega
  have hsj : (s.size : Int) ≤ 100000 := by omega
  have HEX := Lib.hid (fun (n : Nat) => show s.extract a n = S ((l.drop a).take (n - a)) from by rw [S_extract, hl])
  clear hl hls htk hal hla hdr hdg f1 f2 f3 f4
  go_enter Tryz.func93, Tryz.ntmps93
  go_wp2_with (refine (HW.out _).mono ?_; rintro e w' ⟨rfl, rfl⟩)
  go_loop [9] (fun v => ∃ n : Nat, v = .int .i64 n ∧ n ≤ s.size ∧ TwSt wordB l a n) (fun v => s.size - (intOf v).toNat)
  case atStart => exact ⟨a, by first | rfl | go_num, by omega, HT0.out⟩
  case round =>
    obtain ⟨n, rfl, hn, hst⟩ := hrel
    have HST := Lib.hid hst
    have hle := hst.le
    clear hst
    by_cases hin : ∃ (h : n < s.size), wordB s[n] = true
    · obtain ⟨hlt, hd2⟩ := hin
      have hni : (n : Int) < (s.size : Int) := by omega
      have hnl : n < l.length := by have := HLS.out; omega
      have hg := HGT.out n hlt hnl
      have HN := Lib.hid (tw_step wordB l a n HST.out hnl (by rw [← hg]; exact hd2))
      have hw2 := fun (wr : World) => word_any s[n] s[n].toNat rfl wr
      rw [hd2] at hw2
      have HW2 := Lib.hid hw2
      clear hg hd2 hw2
      go_wp2_with (refine (HW2.out _).mono ?_; rintro e w' ⟨rfl, rfl⟩)
      go_round
      case rel => exact ⟨n + 1, by go_num, by omega, HN.out⟩
      case measure => simp [intOf]; omega
    · have hstop := tw_stop wordB l a n HST.out (by
        by_cases h : n < s.size
        · have hnl : n < l.length := by have := HLS.out; omega
          refine .inr ⟨hnl, ?_⟩
          rw [← HGT.out n h hnl]
          cases hb : wordB s[n] with
          | false => rfl
          | true => exact absurd ⟨h, hb⟩ hin
        · exact .inl (by have := HLS.out; omega))
      have hex := HEX.out n
      have htk := HTK.out
      rw [hstop] at htk
      have hdl : ((l.drop a).take (n - a)).length = n - a := by rw [List.length_take, List.length_drop]; have := HLS.out; omega
      generalize (l.drop a).take (n - a) = d at *
      have hlen : (n : Int) - (a : Int) = ((d.length : Nat) : Int) := by omega
      have hnai : (a : Int) ≤ (n : Int) := by omega
      have hnsi : (n : Int) ≤ (s.size : Int) := by omega
      have hNM := refName_any (S d) (by rw [S_size]; omega)
      rw [S_toList] at hNM
      have HNM := Lib.hid hNM
      have hcase : ¬ (n : Int) < (s.size : Int) ∨ (∃ h : n < s.size, (n : Int) < (s.size : Int) ∧ wordB s[n] = false) := by
        by_cases h : n < s.size
        · refine .inr ⟨h, by omega, ?_⟩
          cases hb : wordB s[n] with
          | false => rfl
          | true => exact absurd ⟨h, hb⟩ hin
        · exact .inl (by omega)
      clear hin hstop hdl hNM
      cases hok : nameB d with
      | true =>
        rw [if_pos hok] at htk
        rw [hok] at HNM
        have HR := Lib.hid htk
        clear htk hok
        rcases hcase with hni | ⟨hlt, hni, hwf⟩
        · go_wp2_with (refine (HNM.out _).mono ?_; rintro e w' ⟨rfl, rfl⟩)
          rw [HR.out]
          exact bodyPost_ret (v := refAns (some ⟨1, d, 0, d.length⟩) a) (by simp [results, Tryz.results93, go_sem, refAns]) rfl ⟨rfl, (Below.refl _ _).alloc (Nat.le_refl _) _⟩
        · have hw2 := fun (wr : World) => word_any s[n] s[n].toNat rfl wr
          rw [hwf] at hw2
          have HW2 := Lib.hid hw2
          clear hw2 hwf
          go_wp2_with (first | (go_at_call 137; refine (HW2.out _).mono ?_; rintro e w' ⟨rfl, rfl⟩) | (go_at_call 68; refine (HNM.out _).mono ?_; rintro e w' ⟨rfl, rfl⟩))
          rw [HR.out]
          exact bodyPost_ret (v := refAns (some ⟨1, d, 0, d.length⟩) a) (by simp [results, Tryz.results93, go_sem, refAns]) rfl ⟨rfl, (Below.refl _ _).alloc (Nat.le_refl _) _⟩
      | false =>
        rw [if_neg (by rw [hok]; decide)] at htk
        rw [hok] at HNM
        have HR := Lib.hid htk
        clear htk hok
        rcases hcase with hni | ⟨hlt, hni, hwf⟩
        · go_wp2_with (refine (HNM.out _).mono ?_; rintro e w' ⟨rfl, rfl⟩)
          rw [HR.out]
          exact bodyPost_ret (v := refAns none a) (by simp [results, Tryz.results93, go_sem, refAns]) rfl ⟨rfl, (Below.refl _ _).alloc (Nat.le_refl _) _⟩
        · have hw2 := fun (wr : World) => word_any s[n] s[n].toNat rfl wr
          rw [hwf] at hw2
          have HW2 := Lib.hid hw2
          clear hw2 hwf
          go_wp2_with (first | (go_at_call 137; refine (HW2.out _).mono ?_; rintro e w' ⟨rfl, rfl⟩) | (go_at_call 68; refine (HNM.out _).mono ?_; rintro e w' ⟨rfl, rfl⟩))
          rw [HR.out]
          exact bodyPost_ret (v := refAns none a) (by simp [results, Tryz.results93, go_sem, refAns]) rfl ⟨rfl, (Below.refl _ _).alloc (Nat.le_refl _) _⟩
set_option linter.unusedSimpArgs false
set_option maxRecDepth 100000 in
set_option maxHeartbeats 6400000 in
theorem refToken_tick (s : ByteArray) (a : Nat) (ha : a < s.size) (hs : s.size ≤ 100000) (h39 : s[a] = 39) (w : World) :
    Calls Tryz.prog 93 #[.string s, .int .i64 (a : Int)] w fun e w' => e = .returned (refAns (tokM (s.data.toList.drop a)) a) ∧ Below w.heap.size w w' := by
  have hls := list_size s
  obtain ⟨l, hl⟩ : ∃ l, s.data.toList = l := ⟨_, rfl⟩
  rw [hl] at hls ⊢
  have hal : a < l.length := by omega
  have hla := rget s l hl a ha hal
  rw [h39] at hla
  have hdr : l.drop a = 39 :: l.drop (a + 1) := by rw [rdrop_cons l a hal, ← hla]
  have htk := tok_tick (l.drop (a + 1))
  rw [← hdr] at htk
  have HBX := Lib.hid (rbox w)
  have HTK := Lib.hid htk
  have HLS := Lib.hid hls
  have HT0 := Lib.hid (tw_start wordB l (a + 1))
  have HGT := Lib.hid (fun (k : Nat) (hk : k < s.size) (hk2 : k < l.length) => rget s l hl k hk hk2)
  have hai : (a : Int) < (s.size : Int) := by omega
  have hsj : (s.size : Int) ≤ 100000 := by omega
  have HEX := Lib.hid (fun (n : Nat) => show s.extract (a + 1) n = S ((l.drop (a + 1)).take (n - (a + 1))) from by rw [S_extract, hl])
  clear hl hls htk hal hla hdr
  go_enter Tryz.func93, Tryz.ntmps93
  go_wp2_with fail
  go_loop [9] (fun v => ∃ n : Nat, v = .int .i64 n ∧ n ≤ s.size ∧ TwSt wordB l (a + 1) n) (fun v => s.size - (intOf v).toNat)
  case atStart => exact ⟨(a + 1), by first | rfl | go_num, by omega, HT0.out⟩
  case round =>
    obtain ⟨n, rfl, hn, hst⟩ := hrel
    have HST := Lib.hid hst
    have hle := hst.le
    clear hst
    by_cases hin : ∃ (h : n < s.size), wordB s[n] = true
    · obtain ⟨hlt, hd2⟩ := hin
      have hni : (n : Int) < (s.size : Int) := by omega
      have hnl : n < l.length := by have := HLS.out; omega
      have hg := HGT.out n hlt hnl
      have HN := Lib.hid (tw_step wordB l (a + 1) n HST.out hnl (by rw [← hg]; exact hd2))
      have hw2 := fun (wr : World) => word_any s[n] s[n].toNat rfl wr
      rw [hd2] at hw2
      have HW2 := Lib.hid hw2
      clear hg hd2 hw2
      go_wp2_with (refine (HW2.out _).mono ?_; rintro e w' ⟨rfl, rfl⟩)
      go_round
      case rel => exact ⟨n + 1, by go_num, by omega, HN.out⟩
      case measure => simp [intOf]; omega
    · have hstop := tw_stop wordB l (a + 1) n HST.out (by
        by_cases h : n < s.size
        · have hnl : n < l.length := by have := HLS.out; omega
          refine .inr ⟨hnl, ?_⟩
          rw [← HGT.out n h hnl]
          cases hb : wordB s[n] with
          | false => rfl
          | true => exact absurd ⟨h, hb⟩ hin
        · exact .inl (by have := HLS.out; omega))
      have hex := HEX.out n
      have htk := HTK.out
      rw [hstop] at htk
      have hdl : ((l.drop (a + 1)).take (n - (a + 1))).length = n - (a + 1) := by rw [List.length_take, List.length_drop]; have := HLS.out; omega
      generalize (l.drop (a + 1)).take (n - (a + 1)) = d at *
      have hlen : (n : Int) - (a : Int) = ((d.length + 1 : Nat) : Int) := by omega
      have hnai : (a : Int) + 1 ≤ (n : Int) := by omega
      have hnsi : (n : Int) ≤ (s.size : Int) := by omega
      have hNM := refName_any (S d) (by rw [S_size]; omega)
      rw [S_toList] at hNM
      have HNM := Lib.hid hNM
      have hcase : ¬ (n : Int) < (s.size : Int) ∨ (∃ h : n < s.size, (n : Int) < (s.size : Int) ∧ wordB s[n] = false) := by
        by_cases h : n < s.size
        · refine .inr ⟨h, by omega, ?_⟩
          cases hb : wordB s[n] with
          | false => rfl
          | true => exact absurd ⟨h, hb⟩ hin
        · exact .inl (by omega)
      clear hin hstop hdl hNM
      cases hok : nameB d with
      | true =>
        rw [if_pos hok] at htk
        rw [hok] at HNM
        have HR := Lib.hid htk
        clear htk hok
        rcases hcase with hni | ⟨hlt, hni, hwf⟩
        · go_wp2_with (refine (HNM.out _).mono ?_; rintro e w' ⟨rfl, rfl⟩)
          rw [HR.out]
          exact bodyPost_ret (v := refAns (some ⟨4, d, 0, d.length + 1⟩) a) (by simp [results, Tryz.results93, go_sem, refAns]) rfl ⟨rfl, (Below.refl _ _).alloc (Nat.le_refl _) _⟩
        · have hw2 := fun (wr : World) => word_any s[n] s[n].toNat rfl wr
          rw [hwf] at hw2
          have HW2 := Lib.hid hw2
          clear hw2 hwf
          go_wp2_with (first | (go_at_call 137; refine (HW2.out _).mono ?_; rintro e w' ⟨rfl, rfl⟩) | (go_at_call 68; refine (HNM.out _).mono ?_; rintro e w' ⟨rfl, rfl⟩))
          rw [HR.out]
          exact bodyPost_ret (v := refAns (some ⟨4, d, 0, d.length + 1⟩) a) (by simp [results, Tryz.results93, go_sem, refAns]) rfl ⟨rfl, (Below.refl _ _).alloc (Nat.le_refl _) _⟩
      | false =>
        rw [if_neg (by rw [hok]; decide)] at htk
        rw [hok] at HNM
        have HR := Lib.hid htk
        clear htk hok
        rcases hcase with hni | ⟨hlt, hni, hwf⟩
        · go_wp2_with (refine (HNM.out _).mono ?_; rintro e w' ⟨rfl, rfl⟩)
          rw [HR.out]
          exact bodyPost_ret (v := refAns none a) (by simp [results, Tryz.results93, go_sem, refAns]) rfl ⟨rfl, (Below.refl _ _).alloc (Nat.le_refl _) _⟩
        · have hw2 := fun (wr : World) => word_any s[n] s[n].toNat rfl wr
          rw [hwf] at hw2
          have HW2 := Lib.hid hw2
          clear hw2 hwf
          go_wp2_with (first | (go_at_call 137; refine (HW2.out _).mono ?_; rintro e w' ⟨rfl, rfl⟩) | (go_at_call 68; refine (HNM.out _).mono ?_; rintro e w' ⟨rfl, rfl⟩))
          rw [HR.out]
          exact bodyPost_ret (v := refAns none a) (by simp [results, Tryz.results93, go_sem, refAns]) rfl ⟨rfl, (Below.refl _ _).alloc (Nat.le_refl _) _⟩
end Go.Proofs.YtabbdkdpmpjchaaGreatDoor.Lx

namespace Go.Proofs.YtabbdkdpmpjchaaGreatDoor.Lx
open Go.RowKit
open Va
theorem rfind_at (p : List UInt8 → Bool) (k : Nat) (hk : k < 27) (h0 : ∀ j, j < k → p (signs.getD j []) = false) (h : p (signs.getD k []) = true) : signs.find? p = some (signs.getD k []) := by
  have : ∀ (l : List (List UInt8)) (k : Nat), k < l.length → (∀ j, j < k → p (l.getD j []) = false) → p (l.getD k []) = true → l.find? p = some (l.getD k []) := by
    intro l
    induction l with
    | nil => intro k hk; simp at hk
    | cons a r ih =>
      intro k hk h0 h
      cases k with
      | zero => rw [List.find?_cons, show p a = true from h]; rfl
      | succ k =>
        rw [List.find?_cons, show p a = false from h0 0 (by omega)]
        exact ih k (by simpa using hk) (fun j hj => h0 (j + 1) (by omega)) h
  exact this signs k hk h0 h
theorem rfind_no (p : List UInt8 → Bool) (h0 : ∀ j, j < 27 → p (signs.getD j []) = false) : signs.find? p = none := by
  rw [List.find?_eq_none]
  intro x hx
  obtain ⟨j, hj, rfl⟩ := List.getElem_of_mem hx
  have := h0 j hj
  simp [List.getD, hj] at this
  simp [this]
theorem rsign_len (k : Nat) (hk : k < 27) : 1 ≤ (signs.getD k []).length ∧ (signs.getD k []).length ≤ 2 := by
  have : ∀ i : Fin 27, 1 ≤ (signs.getD i.val []).length ∧ (signs.getD i.val []).length ≤ 2 := by decide
  exact this ⟨k, hk⟩
theorem tok_other (c : UInt8) (r : List UInt8) (h39 : c ≠ 39) (hl : letB c = false) (hd : digB c = false) (h34 : c ≠ 34) : tokM (c :: r) = match signs.find? (fun s => s.isPrefixOf (c :: r)) with
      | none => none
      | some s => some ⟨5, s, 0, s.length⟩ := by
  rw [tokM_cons, if_neg h39, if_neg (by rw [hl]; decide), if_neg (by rw [hd]; decide), if_neg h34]
  rfl
def SgAt (w : World) (g : Nat) : Prop := ∀ k, k < 27 → w.cell? ⟨g, k, none⟩ = some (.string (S (signs.getD k [])))
set_option maxRecDepth 100000 in
set_option maxHeartbeats 1600000 in
theorem refSigns_any (w : World) :
    Calls Tryz.prog 141 #[] w fun e w' => (∃ g : Nat, e = .returned (.slice (some ⟨g, 0, none⟩) 27 27) ∧ SgAt w' g) ∧ Below w.heap.size w w' := by
  have hsg : SgAt (w.alloc (.cells (signs.map fun t => Value.string (S t)).toArray 9)) w.heap.size := fun k hk => by
    have hk' : k < signs.length := hk
    rw [cell_of_row _ w.heap.size k _ _ (0, 0) (heap_alloc_new w _), List.getElem?_toArray, List.getElem?_map, List.getElem?_eq_getElem hk']
    simp [List.getD, List.getElem?_eq_getElem hk']
  have HSG := Lib.hid hsg
  clear hsg
  go_enter Tryz.func141, Tryz.ntmps141
  go_wp2_with fail
  go_ret
  exact ⟨⟨_, rfl, HSG.out⟩, (Below.refl _ _).alloc (Nat.le_refl _) _⟩
set_option linter.unusedSimpArgs false
set_option maxRecDepth 100000 in
set_option maxHeartbeats 6400000 in
theorem refToken_sign (s : ByteArray) (a : Nat) (ha : a < s.size) (hs : s.size ≤ 100000) (h39 : s[a] ≠ 39) (hlb : letB s[a] = false) (hdb : digB s[a] = false) (h34 : s[a] ≠ 34) (w : World) :
    Calls Tryz.prog 93 #[.string s, .int .i64 (a : Int)] w fun e w' => e = .returned (refAns (tokM (s.data.toList.drop a)) a) ∧ Below w.heap.size w w' := by
  have hls := list_size s
  obtain ⟨l, hl⟩ : ∃ l, s.data.toList = l := ⟨_, rfl⟩
  rw [hl] at hls ⊢
  have hal : a < l.length := by omega
  have hla := rget s l hl a ha hal
  obtain ⟨c, hc⟩ : ∃ c, s[a] = c := ⟨_, rfl⟩
  rw [hc] at h39 hlb hdb h34 hla
  have hdr : l.drop a = c :: l.drop (a + 1) := by rw [rdrop_cons l a hal, ← hla]
  have htk := tok_other c (l.drop (a + 1)) h39 hlb hdb h34
  rw [← hdr] at htk
  have HTK := Lib.hid htk
  have n39 : ((c.toNat : Int) == 39) = false := rbyte_ne c 39 h39
  have n34 : ((c.toNat : Int) == 34) = false := rbyte_ne c 34 h34
  have HSI := Lib.hid refSigns_any
  have HBX := Lib.hid (rbox w)
  have HFN := Lib.hid (rfin w)
  have HLS := Lib.hid hls
  have hai : (a : Int) < (s.size : Int) := by omega
  have hsj : (s.size : Int) ≤ 100000 := by omega
  have HEX := Lib.hid (fun (n : Nat) => show s.extract a (a + n) = S ((l.drop a).take n) from by rw [S_extract, hl, Nat.add_sub_cancel_left])
  have hnd : ¬ (48 ≤ c.toNat ∧ c.toNat ≤ 57) := fun h => by rw [(digB_iff c).2 h] at hdb; cases hdb
  have hdi : ¬ (48 : Int) ≤ (c.toNat : Int) ∨ ((48 : Int) ≤ (c.toNat : Int) ∧ ¬ (c.toNat : Int) ≤ 57) := by omega
  have hword : (wordB c = false) ∨ (c = 95) := by
    by_cases h : c = 95
    · exact .inr h
    · refine .inl ?_
      unfold wordB
      rw [hlb, hdb]
      simpa using h
  have hwd := fun (wr : World) => word_any c c.toNat rfl wr
  have hcs : Hid (∀ wr : World, Calls Tryz.prog 137 #[.int .u8 (c.toNat : Int)] wr fun e w' => e = .returned (.bool (wordB c)) ∧ wr = w') := Lib.hid hwd
  clear hl hls hdr htk hla hlb hdb hal hwd h39 h34 hnd
  rcases hword with hw | rfl
  · rw [hw] at hcs
    have HW := hcs
    clear hw hcs
    rcases hdi with k1 | ⟨k1, k2⟩
    all_goals
      go_enter Tryz.func93, Tryz.ntmps93
      go_wp2_with (first | (go_at_call 137; refine (HW.out _).mono ?_; rintro e w' ⟨rfl, rfl⟩) | (go_at_call 141; refine (HSI.out _).mono ?_; rintro e w2 ⟨⟨g, rfl, hsg⟩, b2⟩; have HSG := Lib.hid hsg; have HB2 := Lib.hid (show Below (w.heap.size + 1) (w.alloc zeroT) w2 by simpa [zeroT] using b2); clear hsg b2))
      go_loop [147] (fun v => ∃ k : Nat, v = .int .i64 k ∧ k ≤ 27 ∧ Hid (∀ j, j < k → (signs.getD j []).isPrefixOf (l.drop a) = false)) (fun v => 27 - (intOf v).toNat)
      case atStart => exact ⟨0, rfl, by omega, Lib.hid (fun j hj => absurd hj (by omega))⟩
      case round =>
        obtain ⟨k, rfl, hk, HNO⟩ := hrel
        by_cases hlt : k < 27
        · have hki : (k : Int) < 27 := by omega
          have hcell := HSG.out k hlt
          obtain ⟨hs1, hs2⟩ := rsign_len k hlt
          have HAT := Lib.hid (fun h => rfind_at (fun p => p.isPrefixOf (l.drop a)) k hlt HNO.out h)
          have HNX := Lib.hid (fun (h : (signs.getD k []).isPrefixOf (l.drop a) = false) => show Hid (∀ j, j < k + 1 → (signs.getD j []).isPrefixOf (l.drop a) = false) from Lib.hid (fun j hj => by
            by_cases e : j = k
            · rw [e]; exact h
            · exact HNO.out j (by omega)))
          generalize signs.getD k [] = t at *
          obtain ⟨X, hX⟩ : ∃ X, X = S t := ⟨_, rfl⟩
          have hXz : X.size = t.length := by rw [hX, S_size]
          have hXi1 : (1 : Int) ≤ (X.size : Int) := by omega
          have hXi2 : (X.size : Int) ≤ 2 := by omega
          have hXl : X.toList = t := by rw [hX, ByteArray.toList_eq, S_toList]
          rw [← hX] at hcell
          have hex := HEX.out X.size
          have hpf : t.isPrefixOf (l.drop a) = true ↔ t = (l.drop a).take X.size := by rw [List.isPrefixOf_iff_prefix, List.prefix_iff_eq_take, hXz]
          by_cases hH : t.isPrefixOf (l.drop a) = true
          · have hA : a + X.size ≤ s.size := by
              have h1 := (List.isPrefixOf_iff_prefix.1 hH).length_le
              rw [List.length_drop] at h1
              have := HLS.out
              omega
            have hAi : (a : Int) + (X.size : Int) ≤ (s.size : Int) := by omega
            have heq : ((s.extract a (a + X.size)).toList == X.toList) = true := by
              rw [hex, hXl, ByteArray.toList_eq, S_toList, ← hpf.1 hH]; simp
            have hR := HTK.out
            rw [HAT.out hH] at hR
            have HR := Lib.hid hR
            have HXS := Lib.hid hX
            have HXZ := Lib.hid hXz
            obtain ⟨⟨c0, c1, c2, c3⟩, f0, f1, f2, f3⟩ := HBX.out _ HB2.out
            clear hH hpf hex hX hXz hXl hR hA
            go_wp2_with fail
            rw [HR.out]
            obtain ⟨d0, d1, d2, d3⟩ := rput4 c0 c1 c2 c3 (.int .i64 5) (.string X) (.int .i64 0) (.int .i64 (a : Int))
            exact bodyPost_ret (v := refAns (some ⟨5, t, 0, t.length⟩) a) (by simp [results, d0, d1, d2, d3, Tryz.results93, go_sem, refAns, HXS.out.symm, HXZ.out]) rfl ⟨rfl, HFN.out _ HB2.out _ _ _ _⟩
          · have hHf : t.isPrefixOf (l.drop a) = false := Bool.eq_false_iff.2 hH
            have HN := HNX.out hHf
            by_cases hA : a + X.size ≤ s.size
            · have hAi : (a : Int) + (X.size : Int) ≤ (s.size : Int) := by omega
              have heq : ((s.extract a (a + X.size)).toList == X.toList) = false := by
                rw [beq_eq_false_iff_ne, hex, hXl, ByteArray.toList_eq, S_toList]
                intro e
                exact hH (hpf.2 e.symm)
              clear hH hHf hpf hex hX hXz hXl hA
              go_wp2_with fail
              go_round
              case rel => exact ⟨k + 1, by go_num, by omega, HN⟩
              case measure => simp [intOf]; omega
            · have hAi : ¬ (a : Int) + (X.size : Int) ≤ (s.size : Int) := by omega
              clear hH hHf hpf hex hX hXz hXl hA
              go_wp2_with fail
              go_round
              case rel => exact ⟨k + 1, by go_num, by omega, HN⟩
              case measure => simp [intOf]; omega
        · obtain rfl : k = 27 := by omega
          have hR := HTK.out
          rw [rfind_no _ HNO.out] at hR
          have HR := Lib.hid hR
          obtain ⟨⟨c0, c1, c2, c3⟩, f0, f1, f2, f3⟩ := HBX.out _ HB2.out
          clear hR
          go_wp2_with fail
          rw [HR.out]
          obtain ⟨d0, d1, d2, d3⟩ := rput4 c0 c1 c2 c3 (.int .i64 0) (.string ⟨#[]⟩) (.int .i64 0) (.int .i64 0)
          exact bodyPost_ret (v := refAns none a) (by simp [results, d0, d1, d2, d3, Tryz.results93, go_sem, refAns]) rfl ⟨rfl, HFN.out _ HB2.out _ _ _ _⟩
  · have HW := Lib.hid (fun (wr : World) => show Calls Tryz.prog 137 #[.int .u8 95] wr fun e w' => e = .returned (.bool true) ∧ wr = w' from hcs.out wr)
    have hc95 : s[a] = 95 := hc
    clear hcs hdi n39 n34 hc
    go_enter Tryz.func93, Tryz.ntmps93
    go_wp2_with (first | (go_at_call 137; refine (HW.out _).mono ?_; rintro e w' ⟨rfl, rfl⟩) | (go_at_call 141; refine (HSI.out _).mono ?_; rintro e w2 ⟨⟨g, rfl, hsg⟩, b2⟩; have HSG := Lib.hid hsg; have HB2 := Lib.hid (show Below (w.heap.size + 1) (w.alloc zeroT) w2 by simpa [zeroT] using b2); clear hsg b2))
    go_loop [147] (fun v => ∃ k : Nat, v = .int .i64 k ∧ k ≤ 27 ∧ Hid (∀ j, j < k → (signs.getD j []).isPrefixOf (l.drop a) = false)) (fun v => 27 - (intOf v).toNat)
    case atStart => exact ⟨0, rfl, by omega, Lib.hid (fun j hj => absurd hj (by omega))⟩
    case round =>
      obtain ⟨k, rfl, hk, HNO⟩ := hrel
      by_cases hlt : k < 27
      · have hki : (k : Int) < 27 := by omega
        have hcell := HSG.out k hlt
        obtain ⟨hs1, hs2⟩ := rsign_len k hlt
        have HAT := Lib.hid (fun h => rfind_at (fun p => p.isPrefixOf (l.drop a)) k hlt HNO.out h)
        have HNX := Lib.hid (fun (h : (signs.getD k []).isPrefixOf (l.drop a) = false) => show Hid (∀ j, j < k + 1 → (signs.getD j []).isPrefixOf (l.drop a) = false) from Lib.hid (fun j hj => by
          by_cases e : j = k
          · rw [e]; exact h
          · exact HNO.out j (by omega)))
        generalize signs.getD k [] = t at *
        obtain ⟨X, hX⟩ : ∃ X, X = S t := ⟨_, rfl⟩
        have hXz : X.size = t.length := by rw [hX, S_size]
        have hXi1 : (1 : Int) ≤ (X.size : Int) := by omega
        have hXi2 : (X.size : Int) ≤ 2 := by omega
        have hXl : X.toList = t := by rw [hX, ByteArray.toList_eq, S_toList]
        rw [← hX] at hcell
        have hex := HEX.out X.size
        have hpf : t.isPrefixOf (l.drop a) = true ↔ t = (l.drop a).take X.size := by rw [List.isPrefixOf_iff_prefix, List.prefix_iff_eq_take, hXz]
        by_cases hH : t.isPrefixOf (l.drop a) = true
        · have hA : a + X.size ≤ s.size := by
            have h1 := (List.isPrefixOf_iff_prefix.1 hH).length_le
            rw [List.length_drop] at h1
            have := HLS.out
            omega
          have hAi : (a : Int) + (X.size : Int) ≤ (s.size : Int) := by omega
          have heq : ((s.extract a (a + X.size)).toList == X.toList) = true := by
            rw [hex, hXl, ByteArray.toList_eq, S_toList, ← hpf.1 hH]; simp
          have hR := HTK.out
          rw [HAT.out hH] at hR
          have HR := Lib.hid hR
          have HXS := Lib.hid hX
          have HXZ := Lib.hid hXz
          obtain ⟨⟨c0, c1, c2, c3⟩, f0, f1, f2, f3⟩ := HBX.out _ HB2.out
          clear hH hpf hex hX hXz hXl hR hA
          go_wp2_with fail
          rw [HR.out]
          obtain ⟨d0, d1, d2, d3⟩ := rput4 c0 c1 c2 c3 (.int .i64 5) (.string X) (.int .i64 0) (.int .i64 (a : Int))
          exact bodyPost_ret (v := refAns (some ⟨5, t, 0, t.length⟩) a) (by simp [results, d0, d1, d2, d3, Tryz.results93, go_sem, refAns, HXS.out.symm, HXZ.out]) rfl ⟨rfl, HFN.out _ HB2.out _ _ _ _⟩
        · have hHf : t.isPrefixOf (l.drop a) = false := Bool.eq_false_iff.2 hH
          have HN := HNX.out hHf
          by_cases hA : a + X.size ≤ s.size
          · have hAi : (a : Int) + (X.size : Int) ≤ (s.size : Int) := by omega
            have heq : ((s.extract a (a + X.size)).toList == X.toList) = false := by
              rw [beq_eq_false_iff_ne, hex, hXl, ByteArray.toList_eq, S_toList]
              intro e
              exact hH (hpf.2 e.symm)
            clear hH hHf hpf hex hX hXz hXl hA
            go_wp2_with fail
            go_round
            case rel => exact ⟨k + 1, by go_num, by omega, HN⟩
            case measure => simp [intOf]; omega
          · have hAi : ¬ (a : Int) + (X.size : Int) ≤ (s.size : Int) := by omega
            clear hH hHf hpf hex hX hXz hXl hA
            go_wp2_with fail
            go_round
            case rel => exact ⟨k + 1, by go_num, by omega, HN⟩
            case measure => simp [intOf]; omega
      · obtain rfl : k = 27 := by omega
        have hR := HTK.out
        rw [rfind_no _ HNO.out] at hR
        have HR := Lib.hid hR
        obtain ⟨⟨c0, c1, c2, c3⟩, f0, f1, f2, f3⟩ := HBX.out _ HB2.out
        clear hR
        go_wp2_with fail
        rw [HR.out]
        obtain ⟨d0, d1, d2, d3⟩ := rput4 c0 c1 c2 c3 (.int .i64 0) (.string ⟨#[]⟩) (.int .i64 0) (.int .i64 0)
        exact bodyPost_ret (v := refAns none a) (by simp [results, d0, d1, d2, d3, Tryz.results93, go_sem, refAns]) rfl ⟨rfl, HFN.out _ HB2.out _ _ _ _⟩
end Go.Proofs.YtabbdkdpmpjchaaGreatDoor.Lx

namespace Go.Proofs.YtabbdkdpmpjchaaGreatDoor.Lx
open Go.RowKit
open Va
theorem refToken_any (s : ByteArray) (a : Nat) (ha : a < s.size) (hs : s.size ≤ 100000) (w : World) :
    Calls Tryz.prog 93 #[.string s, .int .i64 (a : Int)] w fun e w' => e = .returned (refAns (tokM (s.data.toList.drop a)) a) ∧ Below w.heap.size w w' := by
  by_cases h39 : s[a] = 39
  · exact refToken_tick s a ha hs h39 w
  · cases hl : letB s[a] with
    | true => exact refToken_let s a ha hs hl w
    | false =>
      cases hd : digB s[a] with
      | true => exact refToken_dig s a ha hs hd w
      | false =>
        by_cases h34 : s[a] = 34
        · exact refToken_quo s a ha hs h34 w
        · exact refToken_sign s a ha hs h39 hl hd h34 w
def rtoksC (ts : List TA) : List Value := ts.flatMap fun t => [.int .i64 t.kind, .string (S t.text), .int .i64 t.num, .int .i64 (t.at_ : Int)]
theorem rtoksC_append (a b : List TA) : rtoksC (a ++ b) = rtoksC a ++ rtoksC b := by simp [rtoksC]
theorem rinfoTok : (Tryz.prog.info? 83).map (fun i => (i.zero, i.size, i.bytes)) = some (some (.agg #[.int .i64 0, .string ⟨#[]⟩, .int .i64 0, .int .i64 0]), 4, 40) := by kernel_rfl
def RToks (w : World) (B : Nat) (v : Value) (ts : List TA) : Prop := w.ownsRow B 83 4 v ts.length (rtoksC ts)
theorem RToks.kept {w w' : World} {B : Nat} {v : Value} {ts : List TA} (h : RToks w B v ts) (hb : Below w.heap.size w w') : RToks w' B v ts :=
  World.ownsRow.kept (row := none) h ⟨hb.os, hb.tape, hb.output, hb.size, fun k hk _ => hb.block k hk⟩ (Classical.em _)
theorem rapp_tok (B : Nat) (v : Value) (ts : List TA) (w : World) (h : RToks w B v ts) (hB : B ≤ w.heap.size) (hn : ts.length ≤ 100000) (k : Int) (t : List UInt8) (n : Int) (m : Nat) (H : Nat) (hH : w.heap.size = H) :
    ∃ v' w', (Builtin.append_ #[78, 78] 78 #[v, .slice (some ⟨H, 0, none⟩) 1 1]).run Tryz.prog (w.alloc (.cells #[.int .i64 k, .string (S t), .int .i64 n, .int .i64 (m : Int)] 83)) = .ok v' w' ∧
      RToks w' B v' (ts ++ [⟨k, t, n, m⟩]) ∧ Below B w w' ∧ w.heap.size < w'.heap.size := by
  subst hH
  obtain ⟨i0, hi, hz0, hz1, hz2⟩ := info_parts rinfoTok
  have hown := World.ownsRow.alloc h (.cells #[.int .i64 k, .string (S t), .int .i64 n, .int .i64 (m : Int)] 83)
  have hnews : ∀ j u, [Value.int .i64 k, .string (S t), .int .i64 n, .int .i64 (m : Int)][j]? = some u → (w.alloc (.cells #[.int .i64 k, .string (S t), .int .i64 n, .int .i64 (m : Int)] 83)).cell? ((⟨w.heap.size, 0, none⟩ : Addr).add j) = some u := by
    intro j u hj
    have hadd : (⟨w.heap.size, 0, none⟩ : Addr).add j = ⟨w.heap.size, j, none⟩ := by unfold Addr.add; split <;> simp_all
    rw [hadd, cell_of_row _ w.heap.size j _ _ (0, 0) (heap_alloc_new w _)]
    simpa using hj
  have h1 : ∀ u ∈ [Value.int .i64 k, .string (S t), .int .i64 n, .int .i64 (m : Int)], u.oneCell' = true := by
    intro u hu
    simp only [List.mem_cons, List.not_mem_nil, or_false] at hu
    rcases hu with rfl | rfl | rfl | rfl <;> rfl
  obtain ⟨v', w', hr, h2, h3, _⟩ := run_append_own (P := Tryz.prog) (w.alloc (.cells #[.int .i64 k, .string (S t), .int .i64 n, .int .i64 (m : Int)] 83)) B 78 78 83 i0 _ 4 40 Tryz.underlying78 hi hz0 hz1 hz2 rfl (by decide) v ts.length (rtoksC ts) hown ⟨w.heap.size, 0, none⟩ 1 1 [.int .i64 k, .string (S t), .int .i64 n, .int .i64 (m : Int)] rfl hnews h1 (by unfold maxLen; omega) (by omega) (by simp; omega)
  refine ⟨v', w', hr, ?_, ((Below.refl _ _).alloc hB _).grown h3 (by simp; omega) (fun k hk => (World.ownsRow.lt h k hk).1), ?_⟩
  · unfold RToks
    rw [rtoksC_append, List.length_append]
    exact h2
  · have := h3.size
    simp at this
    omega
def rscanR (B : Nat) (x : List TA × Option Nat) (e : Ending) (w' : World) : Prop := match x with
  | (ts, none) => ∃ v, e = .returned (.tuple #[v, .int .i64 0, .int .i64 0]) ∧ RToks w' B v ts
  | (_, some p) => e = .returned (.tuple #[.slice none 0 0, .int .i64 (p : Int), .int .i64 24])
structure RScLoop (l : List UInt8) (w : World) (v : Value) (ts : List TA) (m : Nat) (wr : World) : Prop where
  st : ScanSt l ts m
  len : ts.length ≤ m
  toks : RToks wr w.heap.size v ts
  below : Below w.heap.size w wr
set_option linter.unusedSimpArgs false
set_option maxRecDepth 100000 in
set_option maxHeartbeats 3200000 in
theorem refScan_any (s : ByteArray) (hs : s.size ≤ 8000) (w : World) :
    Calls Tryz.prog 54 #[.string s] w fun e w' => rscanR w.heap.size (scanM s.data.toList 0) e w' ∧ Below w.heap.size w w' := by
  have hls := list_size s
  obtain ⟨l, hl⟩ : ∃ l, s.data.toList = l := ⟨_, rfl⟩
  have HBM := Lib.hid (fun (m : Nat) (hm : m ≤ s.size) (wr : World) => refBlanks_any s m hm (by omega) wr)
  have HFI := Lib.hid (fun (m : Nat) (hm : m < s.size) (wr : World) => refToken_any s m hm (by omega) wr)
  rw [hl] at hls HBM HFI ⊢
  have hB0 := HBM.out 0 (by omega)
  rw [List.drop_zero] at hB0
  have HBL := Lib.hid (fun (wr : World) => show Calls Tryz.prog 92 #[.string s, .int .i64 0] wr fun e w' => e = .returned (.int .i64 (blk false l : Int)) ∧ wr = w' from hB0 wr)
  have HAP := Lib.hid (fun v ts wr (h : RToks wr w.heap.size v ts) (hB : w.heap.size ≤ wr.heap.size) (hn : ts.length ≤ 100000) k t n m H hH => rapp_tok w.heap.size v ts wr h hB hn k t n m H hH)
  have hbl := blk_le false l
  have HS0 := Lib.hid (scan_start l)
  have HLS := Lib.hid hls
  have hbi : ((blk false l : Nat) : Int) ≤ (s.size : Int) := by omega
  have hsi : (s.size : Int) ≤ 8000 := by omega
  generalize hb0 : blk false l = b0 at *
  clear hb0 hl hls hB0
  go_enter Tryz.func54, Tryz.ntmps54
  go_wp2_with fail
  refine (HBL.out _).mono ?_
  rintro e w1 ⟨rfl, rfl⟩
  go_wp2_with fail
  go_loopw [5, 6] (fun xo va wr => ∃ (ts : List TA) (m : Nat) (vo : Value), vo = xo ∧ va = .int .i64 m ∧ m ≤ s.size ∧ RScLoop l w vo ts m wr) (fun _ va _ => s.size - (intOf va).toNat)
  case atStart => exact ⟨[], b0, _, rfl, rfl, by omega, HS0.out, by simp, World.ownsRow_nil _ _ _ _, Below.refl _ _⟩
  case round =>
    obtain ⟨ts, m, vo, rfl, rfl, hm, hsc⟩ := hrel
    have HSC := Lib.hid hsc
    clear hsc
    by_cases hlt : m < s.size
    · have hmi : (m : Int) < (s.size : Int) := by omega
      have HF := Lib.hid (HFI.out m hlt)
      cases ht : tokM (l.drop m) with
      | none =>
        rw [ht] at HF
        have HR := Lib.hid (scan_bad l ts m HSC.out.st (by have := HLS.out; omega) ht)
        clear ht
        go_wp2_with fail
        refine (HF.out _).mono ?_
        rintro e w2 ⟨rfl, b2⟩
        have B2 := Lib.hid (HSC.out.below.trans (b2.mono HSC.out.below.size))
        clear b2
        unfold refAns
        go_wp2_with fail
        go_ret3
        rw [HR.out]
        exact ⟨rfl, B2.out.alloc (by have := B2.out.size; omega) _⟩
      | some t =>
        rw [ht] at HF
        obtain ⟨hf1, hf2⟩ := tok_fits l m t ht (by have := HLS.out; omega)
        have hst := scan_next l ts m HSC.out.st (by have := HLS.out; omega) t ht
        have hbl2 := blk_le false (l.drop (m + t.len))
        rw [List.length_drop] at hbl2
        have hf3 : m + t.len ≤ s.size := by have := HLS.out; omega
        have hf4 : m + t.len + blk false (l.drop (m + t.len)) ≤ s.size := by have := HLS.out; omega
        have HB2 := Lib.hid (HBM.out (m + t.len) hf3)
        have HST := Lib.hid hst
        obtain ⟨kd, tx, nm, z⟩ := t
        simp only at hf1 hf2 hf3 hf4 HST HB2 hbl2
        have hzi : (1 : Int) ≤ (z : Int) := by omega
        have hz0 : ((z : Int) == 0) = false := by rw [beq_eq_false_iff_ne]; omega
        have hz3 : (m : Int) + (z : Int) ≤ (s.size : Int) := by omega
        have hz4 : (m : Int) + (z : Int) + ((blk false (l.drop (m + z)) : Nat) : Int) ≤ (s.size : Int) := by omega
        have htl : ts.length ≤ 100000 := by have := HSC.out.len; omega
        have HB3 := Lib.hid (fun (wr : World) => show Calls Tryz.prog 92 #[.string s, .int .i64 ((m : Int) + (z : Int))] wr fun e w' => e = .returned (.int .i64 (blk false (l.drop (m + z)) : Int)) ∧ wr = w' from by
          have := HB2.out wr
          rw [show (((m + z : Nat)) : Int) = (m : Int) + (z : Int) by omega] at this
          exact this)
        generalize blk false (l.drop (m + z)) = bz at *
        clear ht hst hf1 hf2 hbl2 HB2
        go_wp2_with fail
        refine (HF.out _).mono ?_
        rintro e w2 ⟨rfl, b2⟩
        have B2 := Lib.hid (HSC.out.below.trans (b2.mono HSC.out.below.size))
        have T2 := Lib.hid (HSC.out.toks.kept b2)
        clear b2
        unfold refAns
        obtain ⟨v', w4, hrun, htk, hbw, hlt4⟩ := HAP.out vo ts (w2.alloc (.cells #[.int .i64 kd, .string (S tx), .int .i64 nm, .int .i64 (m : Int)] 83)) (World.ownsRow.alloc T2.out _) (by have := B2.out.size; simp; omega) htl kd tx nm m (w2.heap.size + 1) (by simp)
        have HRUN := Lib.hid hrun
        have HTK := Lib.hid htk
        have B4 := Lib.hid ((B2.out.alloc (by have := B2.out.size; omega) (.cells #[.int .i64 kd, .string (S tx), .int .i64 nm, .int .i64 (m : Int)] 83)).trans hbw)
        clear hrun htk hbw hlt4
        go_wp2_with (at_builtin; refine wpList_appR rfl _ _ _ _ rfl rfl rfl _ _ HRUN.out ?_)
        refine (HB3.out _).mono ?_
        rintro e w5 ⟨rfl, rfl⟩
        go_wp2_with fail
        go_roundw
        case rel => exact ⟨_, m + z + bz, _, rfl, by go_num, hf4, HST.out, by have := HSC.out.len; simp; omega, HTK.out, B4.out⟩
        case measure => simp [intOf]; omega
    · obtain rfl : m = s.size := by omega
      have HR := Lib.hid (scan_end l ts s.size HSC.out.st (by have := HLS.out; omega))
      have htl : ts.length ≤ 100000 := by have := HSC.out.len; omega
      obtain ⟨v', w4, hrun, htk, hbw, _⟩ := HAP.out vo ts wr HSC.out.toks HSC.out.below.size htl 0 [] 0 s.size wr.heap.size rfl
      have HRUN := Lib.hid hrun
      have HTK := Lib.hid htk
      have B4 := Lib.hid (HSC.out.below.trans hbw)
      clear hrun htk hbw
      go_wp2_with (at_builtin; refine wpList_appR rfl _ _ _ _ rfl rfl rfl _ _ HRUN.out ?_)
      go_ret3
      rw [HR.out]
      exact ⟨⟨_, rfl, HTK.out⟩, B4.out⟩
end Go.Proofs.YtabbdkdpmpjchaaGreatDoor.Lx
