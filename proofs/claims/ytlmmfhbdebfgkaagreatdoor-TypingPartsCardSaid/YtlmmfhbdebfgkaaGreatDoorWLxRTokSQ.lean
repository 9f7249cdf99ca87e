/-
  LxRTokS, LxRTokN.
-/
import Derived.Test.YtlmmfhbdebfgkaaGreatDoorWLxRTokPQ
import Derived.Test.YtlmmfhbdebfgkaaGreatDoorWTyNodeQ
set_option linter.unusedVariables false
set_option linter.unusedSimpArgs false
set_option maxRecDepth 100000
set_option maxHeartbeats 6400000
namespace Go.Proofs.YtlmmfhbdebfgkaaGreatDoor.Lx
open Go.RowKit
open Va
theorem rfind_at (p : List UInt8 → Bool) (k : Nat) (hk : k < 27) (h0 : ∀ j, j < k → p (signs.getD j []) = false) (h : p (signs.getD k []) = true) : signs.find? p = some (signs.getD k []) := by
  have : ∀ (l : List (List UInt8)) (k : Nat), k < l.length → (∀ j, j < k → p (l.getD j []) = false) → p (l.getD k []) = true → l.find? p = some (l.getD k []) := by
    intro l
    induction l with
    | nil => intro k hk; simp at hk
    | cons a r ih =>
      intro k hk h0 h
      cases k with
      | zero => rw [List.find?_cons, show p a = true from h]; rfl
      | succ k =>
        rw [List.find?_cons, show p a = false from h0 0 (by omega)]
        exact ih k (by simpa using hk) (fun j hj => h0 (j + 1) (by omega)) h
  exact this signs k hk h0 h
theorem rfind_no (p : List UInt8 → Bool) (h0 : ∀ j, j < 27 → p (signs.getD j []) = false) : signs.find? p = none := by
  rw [List.find?_eq_none]
  intro x hx
  obtain ⟨j, hj, rfl⟩ := List.getElem_of_mem hx
  have := h0 j hj
  simp [List.getD, hj] at this
  simp [this]
theorem rsign_len (k : Nat) (hk : k < 27) : 1 ≤ (signs.getD k []).length ∧ (signs.getD k []).length ≤ 2 := by
  have : ∀ i : Fin 27, 1 ≤ (signs.getD i.val []).length ∧ (signs.getD i.val []).length ≤ 2 := by decide
  exact this ⟨k, hk⟩
theorem tok_other (c : UInt8) (r : List UInt8) (h39 : c ≠ 39) (hl : letB c = false) (hd : digB c = false) (h34 : c ≠ 34) : tokM (c :: r) = match signs.find? (fun s => s.isPrefixOf (c :: r)) with
      | none => none
      | some s => some ⟨5, s, 0, s.length⟩ := by
  rw [tokM_cons, if_neg h39, if_neg (by rw [hl]; decide), if_neg (by rw [hd]; decide), if_neg h34]
  rfl
def SgAt (w : World) (g : Nat) : Prop := ∀ k, k < 27 → w.cell? ⟨g, k, none⟩ = some (.string (S (signs.getD k [])))
theorem refSigns_any (w : World) :
    Calls Tryz.prog 137 #[] w fun e w' => (∃ g : Nat, e = .returned (.slice (some ⟨g, 0, none⟩) 27 27) ∧ SgAt w' g) ∧ Below w.heap.size w w' := by
  have hsg : SgAt (w.alloc (.cells (signs.map fun t => Value.string (S t)).toArray 9)) w.heap.size := fun k hk => by
    have hk' : k < signs.length := hk
    rw [cell_of_row _ w.heap.size k _ _ (0, 0) (heap_alloc_new w _), List.getElem?_toArray, List.getElem?_map, List.getElem?_eq_getElem hk']
    simp [List.getD, List.getElem?_eq_getElem hk']
  have HSG := Lib.hid hsg
  clear hsg
  go_enter Tryz.func137, Tryz.ntmps137
  go_wp2_with fail
  go_ret
  exact ⟨⟨_, rfl, HSG.out⟩, (Below.refl _ _).alloc (Nat.le_refl _) _⟩
theorem refToken_sign (s : ByteArray) (a : Nat) (ha : a < s.size) (hs : s.size ≤ 100000) (h39 : s[a] ≠ 39) (hlb : letB s[a] = false) (hdb : digB s[a] = false) (h34 : s[a] ≠ 34) (w : World) :
    Calls Tryz.prog 82 #[.string s, .int .i64 (a : Int)] w fun e w' => e = .returned (refAns (tokM (s.data.toList.drop a)) a) ∧ Below w.heap.size w w' := by
  have hls := list_size s
  obtain ⟨l, hl⟩ : ∃ l, s.data.toList = l := ⟨_, rfl⟩
  rw [hl] at hls ⊢
  have hal : a < l.length := by omega
  have hla := rget s l hl a ha hal
  obtain ⟨c, hc⟩ : ∃ c, s[a] = c := ⟨_, rfl⟩
  rw [hc] at h39 hlb hdb h34 hla
  have hdr : l.drop a = c :: l.drop (a + 1) := by rw [rdrop_cons l a hal, ← hla]
  have htk := tok_other c (l.drop (a + 1)) h39 hlb hdb h34
  rw [← hdr] at htk
  have HTK := Lib.hid htk
  have n39 : ((c.toNat : Int) == 39) = false := rbyte_ne c 39 h39
  have n34 : ((c.toNat : Int) == 34) = false := rbyte_ne c 34 h34
  have HSI := Lib.hid refSigns_any
  have HBX := Lib.hid (rbox w)
  have HFN := Lib.hid (rfin w)
  have HLS := Lib.hid hls
  have hai : (a : Int) < (s.size : Int) := by omega
  have hsj : (s.size : Int) ≤ 100000 := by omega
  have HEX := Lib.hid (fun (n : Nat) => show s.extract a (a + n) = S ((l.drop a).take n) from by rw [S_extract, hl, Nat.add_sub_cancel_left])
  have hnd : ¬ (48 ≤ c.toNat ∧ c.toNat ≤ 57) := fun h => by rw [(digB_iff c).2 h] at hdb; cases hdb
  have hdi : ¬ (48 : Int) ≤ (c.toNat : Int) ∨ ((48 : Int) ≤ (c.toNat : Int) ∧ ¬ (c.toNat : Int) ≤ 57) := by omega
  have hword : (wordB c = false) ∨ (c = 95) := by
    by_cases h : c = 95
    · exact .inr h
    · refine .inl ?_
      unfold wordB
      rw [hlb, hdb]
      simpa using h
  have hwd := fun (wr : World) => word_any c c.toNat rfl wr
  have hcs : Hid (∀ wr : World, Calls Tryz.prog 133 #[.int .u8 (c.toNat : Int)] wr fun e w' => e = .returned (.bool (wordB c)) ∧ wr = w') := Lib.hid hwd
  clear hl hls hdr htk hla hlb hdb hal hwd h39 h34 hnd
  rcases hword with hw | rfl
  · rw [hw] at hcs
    have HW := hcs
    clear hw hcs
    rcases hdi with k1 | ⟨k1, k2⟩
    all_goals
      go_enter Tryz.func82, Tryz.ntmps82
      go_wp2_with (first | (go_at_call 133; refine (HW.out _).mono ?_; rintro e w' ⟨rfl, rfl⟩) | (go_at_call 137; refine (HSI.out _).mono ?_; rintro e w2 ⟨⟨g, rfl, hsg⟩, b2⟩; have HSG := Lib.hid hsg; have HB2 := Lib.hid (show Below (w.heap.size + 1) (w.alloc zeroT) w2 by simpa [zeroT] using b2); clear hsg b2))
      go_loop [147] (fun v => ∃ k : Nat, v = .int .i64 k ∧ k ≤ 27 ∧ Hid (∀ j, j < k → (signs.getD j []).isPrefixOf (l.drop a) = false)) (fun v => 27 - (intOf v).toNat)
      case atStart => exact ⟨0, rfl, by omega, Lib.hid (fun j hj => absurd hj (by omega))⟩
      case round =>
        obtain ⟨k, rfl, hk, HNO⟩ := hrel
        by_cases hlt : k < 27
        · have hki : (k : Int) < 27 := by omega
          have hcell := HSG.out k hlt
          obtain ⟨hs1, hs2⟩ := rsign_len k hlt
          have HAT := Lib.hid (fun h => rfind_at (fun p => p.isPrefixOf (l.drop a)) k hlt HNO.out h)
          have HNX := Lib.hid (fun (h : (signs.getD k []).isPrefixOf (l.drop a) = false) => show Hid (∀ j, j < k + 1 → (signs.getD j []).isPrefixOf (l.drop a) = false) from Lib.hid (fun j hj => by
            by_cases e : j = k
            · rw [e]; exact h
            · exact HNO.out j (by omega)))
          generalize signs.getD k [] = t at *
          obtain ⟨X, hX⟩ : ∃ X, X = S t := ⟨_, rfl⟩
          have hXz : X.size = t.length := by rw [hX, S_size]
          have hXi1 : (1 : Int) ≤ (X.size : Int) := by omega
          have hXi2 : (X.size : Int) ≤ 2 := by omega
          have hXl : X.toList = t := by rw [hX, ByteArray.toList_eq, S_toList]
          rw [← hX] at hcell
          have hex := HEX.out X.size
          have hpf : t.isPrefixOf (l.drop a) = true ↔ t = (l.drop a).take X.size := by rw [List.isPrefixOf_iff_prefix, List.prefix_iff_eq_take, hXz]
          by_cases hH : t.isPrefixOf (l.drop a) = true
          · have hA : a + X.size ≤ s.size := by
              have h1 := (List.isPrefixOf_iff_prefix.1 hH).length_le
              rw [List.length_drop] at h1
              have := HLS.out
              omega
            have hAi : (a : Int) + (X.size : Int) ≤ (s.size : Int) := by omega
            have heq : ((s.extract a (a + X.size)).toList == X.toList) = true := by
              rw [hex, hXl, ByteArray.toList_eq, S_toList, ← hpf.1 hH]; simp
            have hR := HTK.out
            rw [HAT.out hH] at hR
            have HR := Lib.hid hR
            have HXS := Lib.hid hX
            have HXZ := Lib.hid hXz
            obtain ⟨⟨c0, c1, c2, c3⟩, f0, f1, f2, f3⟩ := HBX.out _ HB2.out
            clear hH hpf hex hX hXz hXl hR hA
            go_wp2_with fail
            rw [HR.out]
            obtain ⟨d0, d1, d2, d3⟩ := rput4 c0 c1 c2 c3 (.int .i64 5) (.string X) (.int .i64 0) (.int .i64 (a : Int))
            exact bodyPost_ret (v := refAns (some ⟨5, t, 0, t.length⟩) a) (by simp [results, d0, d1, d2, d3, Tryz.results82, go_sem, refAns, HXS.out.symm, HXZ.out]) rfl ⟨rfl, HFN.out _ HB2.out _ _ _ _⟩
          · have hHf : t.isPrefixOf (l.drop a) = false := Bool.eq_false_iff.2 hH
            have HN := HNX.out hHf
            by_cases hA : a + X.size ≤ s.size
            · have hAi : (a : Int) + (X.size : Int) ≤ (s.size : Int) := by omega
              have heq : ((s.extract a (a + X.size)).toList == X.toList) = false := by
                rw [beq_eq_false_iff_ne, hex, hXl, ByteArray.toList_eq, S_toList]
                intro e
                exact hH (hpf.2 e.symm)
              clear hH hHf hpf hex hX hXz hXl hA
              go_wp2_with fail
              go_round
              case rel => exact ⟨k + 1, by go_num, by omega, HN⟩
              case measure => simp [intOf]; omega
            · have hAi : ¬ (a : Int) + (X.size : Int) ≤ (s.size : Int) := by omega
              clear hH hHf hpf hex hX hXz hXl hA
              go_wp2_with fail
              go_round
              case rel => exact ⟨k + 1, by go_num, by omega, HN⟩
              case measure => simp [intOf]; omega
        · obtain rfl : k = 27 := by omega
          have hR := HTK.out
          rw [rfind_no _ HNO.out] at hR
          have HR := Lib.hid hR
          obtain ⟨⟨c0, c1, c2, c3⟩, f0, f1, f2, f3⟩ := HBX.out _ HB2.out
          clear hR
          go_wp2_with fail
          rw [HR.out]
          obtain ⟨d0, d1, d2, d3⟩ := rput4 c0 c1 c2 c3 (.int .i64 0) (.string ⟨#[]⟩) (.int .i64 0) (.int .i64 0)
          exact bodyPost_ret (v := refAns none a) (by simp [results, d0, d1, d2, d3, Tryz.results82, go_sem, refAns]) rfl ⟨rfl, HFN.out _ HB2.out _ _ _ _⟩
  · have HW := Lib.hid (fun (wr : World) => show Calls Tryz.prog 133 #[.int .u8 95] wr fun e w' => e = .returned (.bool true) ∧ wr = w' from hcs.out wr)
    have hc95 : s[a] = 95 := hc
    clear hcs hdi n39 n34 hc
    go_enter Tryz.func82, Tryz.ntmps82
    go_wp2_with (first | (go_at_call 133; refine (HW.out _).mono ?_; rintro e w' ⟨rfl, rfl⟩) | (go_at_call 137; refine (HSI.out _).mono ?_; rintro e w2 ⟨⟨g, rfl, hsg⟩, b2⟩; have HSG := Lib.hid hsg; have HB2 := Lib.hid (show Below (w.heap.size + 1) (w.alloc zeroT) w2 by simpa [zeroT] using b2); clear hsg b2))
    go_loop [147] (fun v => ∃ k : Nat, v = .int .i64 k ∧ k ≤ 27 ∧ Hid (∀ j, j < k → (signs.getD j []).isPrefixOf (l.drop a) = false)) (fun v => 27 - (intOf v).toNat)
    case atStart => exact ⟨0, rfl, by omega, Lib.hid (fun j hj => absurd hj (by omega))⟩
    case round =>
      obtain ⟨k, rfl, hk, HNO⟩ := hrel
      by_cases hlt : k < 27
      · have hki : (k : Int) < 27 := by omega
        have hcell := HSG.out k hlt
        obtain ⟨hs1, hs2⟩ := rsign_len k hlt
        have HAT := Lib.hid (fun h => rfind_at (fun p => p.isPrefixOf (l.drop a)) k hlt HNO.out h)
        have HNX := Lib.hid (fun (h : (signs.getD k []).isPrefixOf (l.drop a) = false) => show Hid (∀ j, j < k + 1 → (signs.getD j []).isPrefixOf (l.drop a) = false) from Lib.hid (fun j hj => by
          by_cases e : j = k
          · rw [e]; exact h
          · exact HNO.out j (by omega)))
        generalize signs.getD k [] = t at *
        obtain ⟨X, hX⟩ : ∃ X, X = S t := ⟨_, rfl⟩
        have hXz : X.size = t.length := by rw [hX, S_size]
        have hXi1 : (1 : Int) ≤ (X.size : Int) := by omega
        have hXi2 : (X.size : Int) ≤ 2 := by omega
        have hXl : X.toList = t := by rw [hX, ByteArray.toList_eq, S_toList]
        rw [← hX] at hcell
        have hex := HEX.out X.size
        have hpf : t.isPrefixOf (l.drop a) = true ↔ t = (l.drop a).take X.size := by rw [List.isPrefixOf_iff_prefix, List.prefix_iff_eq_take, hXz]
        by_cases hH : t.isPrefixOf (l.drop a) = true
        · have hA : a + X.size ≤ s.size := by
            have h1 := (List.isPrefixOf_iff_prefix.1 hH).length_le
            rw [List.length_drop] at h1
            have := HLS.out
            omega
          have hAi : (a : Int) + (X.size : Int) ≤ (s.size : Int) := by omega
          have heq : ((s.extract a (a + X.size)).toList == X.toList) = true := by
            rw [hex, hXl, ByteArray.toList_eq, S_toList, ← hpf.1 hH]; simp
          have hR := HTK.out
          rw [HAT.out hH] at hR
          have HR := Lib.hid hR
          have HXS := Lib.hid hX
          have HXZ := Lib.hid hXz
          obtain ⟨⟨c0, c1, c2, c3⟩, f0, f1, f2, f3⟩ := HBX.out _ HB2.out
          clear hH hpf hex hX hXz hXl hR hA
          go_wp2_with fail
          rw [HR.out]
          obtain ⟨d0, d1, d2, d3⟩ := rput4 c0 c1 c2 c3 (.int .i64 5) (.string X) (.int .i64 0) (.int .i64 (a : Int))
          exact bodyPost_ret (v := refAns (some ⟨5, t, 0, t.length⟩) a) (by simp [results, d0, d1, d2, d3, Tryz.results82, go_sem, refAns, HXS.out.symm, HXZ.out]) rfl ⟨rfl, HFN.out _ HB2.out _ _ _ _⟩
        · have hHf : t.isPrefixOf (l.drop a) = false := Bool.eq_false_iff.2 hH
          have HN := HNX.out hHf
          by_cases hA : a + X.size ≤ s.size
          · have hAi : (a : Int) + (X.size : Int) ≤ (s.size : Int) := by omega
            have heq : ((s.extract a (a + X.size)).toList == X.toList) = false := by
              rw [beq_eq_false_iff_ne, hex, hXl, ByteArray.toList_eq, S_toList]
              intro e
              exact hH (hpf.2 e.symm)
            clear hH hHf hpf hex hX hXz hXl hA
            go_wp2_with fail
            go_round
            case rel => exact ⟨k + 1, by go_num, by omega, HN⟩
            case measure => simp [intOf]; omega
          · have hAi : ¬ (a : Int) + (X.size : Int) ≤ (s.size : Int) := by omega
            clear hH hHf hpf hex hX hXz hXl hA
            go_wp2_with fail
            go_round
            case rel => exact ⟨k + 1, by go_num, by omega, HN⟩
            case measure => simp [intOf]; omega
      · obtain rfl : k = 27 := by omega
        have hR := HTK.out
        rw [rfind_no _ HNO.out] at hR
        have HR := Lib.hid hR
        obtain ⟨⟨c0, c1, c2, c3⟩, f0, f1, f2, f3⟩ := HBX.out _ HB2.out
        clear hR
        go_wp2_with fail
        rw [HR.out]
        obtain ⟨d0, d1, d2, d3⟩ := rput4 c0 c1 c2 c3 (.int .i64 0) (.string ⟨#[]⟩) (.int .i64 0) (.int .i64 0)
        exact bodyPost_ret (v := refAns none a) (by simp [results, d0, d1, d2, d3, Tryz.results82, go_sem, refAns]) rfl ⟨rfl, HFN.out _ HB2.out _ _ _ _⟩
end Go.Proofs.YtlmmfhbdebfgkaaGreatDoor.Lx
namespace Go.Proofs.YtlmmfhbdebfgkaaGreatDoor.Lx
open Go.RowKit
open Va
theorem tok_letter (c : UInt8) (r : List UInt8) (h : letB c = true) : tokM (c :: r) = if nameB ((c :: r).takeWhile wordB) = true then some ⟨1, (c :: r).takeWhile wordB, 0, ((c :: r).takeWhile wordB).length⟩ else none := by
  have h39 : c ≠ 39 := by rintro rfl; exact absurd h (by decide)
  rw [tokM_cons, if_neg h39, if_pos h]
theorem tok_tick (r : List UInt8) : tokM (39 :: r) = if nameB (r.takeWhile wordB) = true then some ⟨4, r.takeWhile wordB, 0, (r.takeWhile wordB).length + 1⟩ else none := by
  rw [tokM_cons, if_pos rfl]
theorem let_facts (c : UInt8) (h : letB c = true) : wordB c = true ∧ 57 < c.toNat ∧ c ≠ 95 ∧ c ≠ 39 := by
  have : ∀ i : Fin 256, letB (UInt8.ofNat i.val) = true → wordB (UInt8.ofNat i.val) = true ∧ 57 < i.val ∧ UInt8.ofNat i.val ≠ 95 ∧ UInt8.ofNat i.val ≠ 39 := by decide +kernel
  have h1 := this ⟨c.toNat, c.toNat_lt⟩
  simp only [UInt8.ofNat_toNat] at h1
  exact h1 h
theorem refToken_let (s : ByteArray) (a : Nat) (ha : a < s.size) (hs : s.size ≤ 100000) (hdg : letB s[a] = true) (w : World) :
    Calls Tryz.prog 82 #[.string s, .int .i64 (a : Int)] w fun e w' => e = .returned (refAns (tokM (s.data.toList.drop a)) a) ∧ Below w.heap.size w w' := by
  have hls := list_size s
  obtain ⟨l, hl⟩ : ∃ l, s.data.toList = l := ⟨_, rfl⟩
  rw [hl] at hls ⊢
  have hal : a < l.length := by omega
  have hla := rget s l hl a ha hal
  obtain ⟨c, hc⟩ : ∃ c, s[a] = c := ⟨_, rfl⟩
  rw [hc] at hdg hla
  have hdr : l.drop a = c :: l.drop (a + 1) := by rw [rdrop_cons l a hal, ← hla]
  have htk := tok_letter c (l.drop (a + 1)) hdg
  rw [← hdr] at htk
  obtain ⟨f1, f2, f3, f4⟩ := let_facts c hdg
  have n39 : ((c.toNat : Int) == 39) = false := rbyte_ne c 39 f4
  have n95 : ((c.toNat : Int) == 95) = false := rbyte_ne c 95 f3
  have n95b : ((c.toNat : Int) != 95) = true := by simp only [bne, n95, Bool.not_false]
  have k1 : (57 : Int) < (c.toNat : Int) := by omega
  have k3 : ¬ (c.toNat : Int) < 48 := by omega
  have HW := Lib.hid (fun (wr : World) => show Calls Tryz.prog 133 #[.int .u8 (c.toNat : Int)] wr fun e w' => e = .returned (.bool true) ∧ wr = w' from by
    have := word_any c c.toNat rfl wr
    rw [f1] at this
    exact this)
  have HBX := Lib.hid (rbox w)
  have HTK := Lib.hid htk
  have HLS := Lib.hid hls
  have HT0 := Lib.hid (tw_start wordB l a)
  have HGT := Lib.hid (fun (k : Nat) (hk : k < s.size) (hk2 : k < l.length) => rget s l hl k hk hk2)
  have hai : (a : Int) < (s.size : Int) := by omega
  have hsj : (s.size : Int) ≤ 100000 := by omega
  have HEX := Lib.hid (fun (n : Nat) => show s.extract a n = S ((l.drop a).take (n - a)) from by rw [S_extract, hl])
  clear hl hls htk hal hla hdr hdg f1 f2 f3 f4
  go_enter Tryz.func82, Tryz.ntmps82
  go_wp2_with (refine (HW.out _).mono ?_; rintro e w' ⟨rfl, rfl⟩)
  go_loop [9] (fun v => ∃ n : Nat, v = .int .i64 n ∧ n ≤ s.size ∧ TwSt wordB l a n) (fun v => s.size - (intOf v).toNat)
  case atStart => exact ⟨a, by first | rfl | go_num, by omega, HT0.out⟩
  case round =>
    obtain ⟨n, rfl, hn, hst⟩ := hrel
    have HST := Lib.hid hst
    have hle := hst.le
    clear hst
    by_cases hin : ∃ (h : n < s.size), wordB s[n] = true
    · obtain ⟨hlt, hd2⟩ := hin
      have hni : (n : Int) < (s.size : Int) := by omega
      have hnl : n < l.length := by have := HLS.out; omega
      have hg := HGT.out n hlt hnl
      have HN := Lib.hid (tw_step wordB l a n HST.out hnl (by rw [← hg]; exact hd2))
      have hw2 := fun (wr : World) => word_any s[n] s[n].toNat rfl wr
      rw [hd2] at hw2
      have HW2 := Lib.hid hw2
      clear hg hd2 hw2
      go_wp2_with (refine (HW2.out _).mono ?_; rintro e w' ⟨rfl, rfl⟩)
      go_round
      case rel => exact ⟨n + 1, by go_num, by omega, HN.out⟩
      case measure => simp [intOf]; omega
    · have hstop := tw_stop wordB l a n HST.out (by
        by_cases h : n < s.size
        · have hnl : n < l.length := by have := HLS.out; omega
          refine .inr ⟨hnl, ?_⟩
          rw [← HGT.out n h hnl]
          cases hb : wordB s[n] with
          | false => rfl
          | true => exact absurd ⟨h, hb⟩ hin
        · exact .inl (by have := HLS.out; omega))
      have hex := HEX.out n
      have htk := HTK.out
      rw [hstop] at htk
      have hdl : ((l.drop a).take (n - a)).length = n - a := by rw [List.length_take, List.length_drop]; have := HLS.out; omega
      generalize (l.drop a).take (n - a) = d at *
      have hlen : (n : Int) - (a : Int) = ((d.length : Nat) : Int) := by omega
      have hnai : (a : Int) ≤ (n : Int) := by omega
      have hnsi : (n : Int) ≤ (s.size : Int) := by omega
      have hNM := refName_any (S d) (by rw [S_size]; omega)
      rw [S_toList] at hNM
      have HNM := Lib.hid hNM
      have hcase : ¬ (n : Int) < (s.size : Int) ∨ (∃ h : n < s.size, (n : Int) < (s.size : Int) ∧ wordB s[n] = false) := by
        by_cases h : n < s.size
        · refine .inr ⟨h, by omega, ?_⟩
          cases hb : wordB s[n] with
          | false => rfl
          | true => exact absurd ⟨h, hb⟩ hin
        · exact .inl (by omega)
      clear hin hstop hdl hNM
      cases hok : nameB d with
      | true =>
        rw [if_pos hok] at htk
        rw [hok] at HNM
        have HR := Lib.hid htk
        clear htk hok
        rcases hcase with hni | ⟨hlt, hni, hwf⟩
        · go_wp2_with (refine (HNM.out _).mono ?_; rintro e w' ⟨rfl, rfl⟩)
          rw [HR.out]
          exact bodyPost_ret (v := refAns (some ⟨1, d, 0, d.length⟩) a) (by simp [results, Tryz.results82, go_sem, refAns]) rfl ⟨rfl, (Below.refl _ _).alloc (Nat.le_refl _) _⟩
        · have hw2 := fun (wr : World) => word_any s[n] s[n].toNat rfl wr
          rw [hwf] at hw2
          have HW2 := Lib.hid hw2
          clear hw2 hwf
          go_wp2_with (first | (go_at_call 133; refine (HW2.out _).mono ?_; rintro e w' ⟨rfl, rfl⟩) | (go_at_call 98; refine (HNM.out _).mono ?_; rintro e w' ⟨rfl, rfl⟩))
          rw [HR.out]
          exact bodyPost_ret (v := refAns (some ⟨1, d, 0, d.length⟩) a) (by simp [results, Tryz.results82, go_sem, refAns]) rfl ⟨rfl, (Below.refl _ _).alloc (Nat.le_refl _) _⟩
      | false =>
        rw [if_neg (by rw [hok]; decide)] at htk
        rw [hok] at HNM
        have HR := Lib.hid htk
        clear htk hok
        rcases hcase with hni | ⟨hlt, hni, hwf⟩
        · go_wp2_with (refine (HNM.out _).mono ?_; rintro e w' ⟨rfl, rfl⟩)
          rw [HR.out]
          exact bodyPost_ret (v := refAns none a) (by simp [results, Tryz.results82, go_sem, refAns]) rfl ⟨rfl, (Below.refl _ _).alloc (Nat.le_refl _) _⟩
        · have hw2 := fun (wr : World) => word_any s[n] s[n].toNat rfl wr
          rw [hwf] at hw2
          have HW2 := Lib.hid hw2
          clear hw2 hwf
          go_wp2_with (first | (go_at_call 133; refine (HW2.out _).mono ?_; rintro e w' ⟨rfl, rfl⟩) | (go_at_call 98; refine (HNM.out _).mono ?_; rintro e w' ⟨rfl, rfl⟩))
          rw [HR.out]
          exact bodyPost_ret (v := refAns none a) (by simp [results, Tryz.results82, go_sem, refAns]) rfl ⟨rfl, (Below.refl _ _).alloc (Nat.le_refl _) _⟩
theorem refToken_tick (s : ByteArray) (a : Nat) (ha : a < s.size) (hs : s.size ≤ 100000) (h39 : s[a] = 39) (w : World) :
    Calls Tryz.prog 82 #[.string s, .int .i64 (a : Int)] w fun e w' => e = .returned (refAns (tokM (s.data.toList.drop a)) a) ∧ Below w.heap.size w w' := by
  have hls := list_size s
  obtain ⟨l, hl⟩ : ∃ l, s.data.toList = l := ⟨_, rfl⟩
  rw [hl] at hls ⊢
  have hal : a < l.length := by omega
  have hla := rget s l hl a ha hal
  rw [h39] at hla
  have hdr : l.drop a = 39 :: l.drop (a + 1) := by rw [rdrop_cons l a hal, ← hla]
  have htk := tok_tick (l.drop (a + 1))
  rw [← hdr] at htk
  have HBX := Lib.hid (rbox w)
  have HTK := Lib.hid htk
  have HLS := Lib.hid hls
  have HT0 := Lib.hid (tw_start wordB l (a + 1))
  have HGT := Lib.hid (fun (k : Nat) (hk : k < s.size) (hk2 : k < l.length) => rget s l hl k hk hk2)
  have hai : (a : Int) < (s.size : Int) := by omega
  have hsj : (s.size : Int) ≤ 100000 := by omega
  have HEX := Lib.hid (fun (n : Nat) => show s.extract (a + 1) n = S ((l.drop (a + 1)).take (n - (a + 1))) from by rw [S_extract, hl])
  clear hl hls htk hal hla hdr
  go_enter Tryz.func82, Tryz.ntmps82
  go_wp2_with fail
  go_loop [9] (fun v => ∃ n : Nat, v = .int .i64 n ∧ n ≤ s.size ∧ TwSt wordB l (a + 1) n) (fun v => s.size - (intOf v).toNat)
  case atStart => exact ⟨(a + 1), by first | rfl | go_num, by omega, HT0.out⟩
  case round =>
    obtain ⟨n, rfl, hn, hst⟩ := hrel
    have HST := Lib.hid hst
    have hle := hst.le
    clear hst
    by_cases hin : ∃ (h : n < s.size), wordB s[n] = true
    · obtain ⟨hlt, hd2⟩ := hin
      have hni : (n : Int) < (s.size : Int) := by omega
      have hnl : n < l.length := by have := HLS.out; omega
      have hg := HGT.out n hlt hnl
      have HN := Lib.hid (tw_step wordB l (a + 1) n HST.out hnl (by rw [← hg]; exact hd2))
      have hw2 := fun (wr : World) => word_any s[n] s[n].toNat rfl wr
      rw [hd2] at hw2
      have HW2 := Lib.hid hw2
      clear hg hd2 hw2
      go_wp2_with (refine (HW2.out _).mono ?_; rintro e w' ⟨rfl, rfl⟩)
      go_round
      case rel => exact ⟨n + 1, by go_num, by omega, HN.out⟩
      case measure => simp [intOf]; omega
    · have hstop := tw_stop wordB l (a + 1) n HST.out (by
        by_cases h : n < s.size
        · have hnl : n < l.length := by have := HLS.out; omega
          refine .inr ⟨hnl, ?_⟩
          rw [← HGT.out n h hnl]
          cases hb : wordB s[n] with
          | false => rfl
          | true => exact absurd ⟨h, hb⟩ hin
        · exact .inl (by have := HLS.out; omega))
      have hex := HEX.out n
      have htk := HTK.out
      rw [hstop] at htk
      have hdl : ((l.drop (a + 1)).take (n - (a + 1))).length = n - (a + 1) := by rw [List.length_take, List.length_drop]; have := HLS.out; omega
      generalize (l.drop (a + 1)).take (n - (a + 1)) = d at *
      have hlen : (n : Int) - (a : Int) = ((d.length + 1 : Nat) : Int) := by omega
      have hnai : (a : Int) + 1 ≤ (n : Int) := by omega
      have hnsi : (n : Int) ≤ (s.size : Int) := by omega
      have hNM := refName_any (S d) (by rw [S_size]; omega)
      rw [S_toList] at hNM
      have HNM := Lib.hid hNM
      have hcase : ¬ (n : Int) < (s.size : Int) ∨ (∃ h : n < s.size, (n : Int) < (s.size : Int) ∧ wordB s[n] = false) := by
        by_cases h : n < s.size
        · refine .inr ⟨h, by omega, ?_⟩
          cases hb : wordB s[n] with
          | false => rfl
          | true => exact absurd ⟨h, hb⟩ hin
        · exact .inl (by omega)
      clear hin hstop hdl hNM
      cases hok : nameB d with
      | true =>
        rw [if_pos hok] at htk
        rw [hok] at HNM
        have HR := Lib.hid htk
        clear htk hok
        rcases hcase with hni | ⟨hlt, hni, hwf⟩
        · go_wp2_with (refine (HNM.out _).mono ?_; rintro e w' ⟨rfl, rfl⟩)
          rw [HR.out]
          exact bodyPost_ret (v := refAns (some ⟨4, d, 0, d.length + 1⟩) a) (by simp [results, Tryz.results82, go_sem, refAns]) rfl ⟨rfl, (Below.refl _ _).alloc (Nat.le_refl _) _⟩
        · have hw2 := fun (wr : World) => word_any s[n] s[n].toNat rfl wr
          rw [hwf] at hw2
          have HW2 := Lib.hid hw2
          clear hw2 hwf
          go_wp2_with (first | (go_at_call 133; refine (HW2.out _).mono ?_; rintro e w' ⟨rfl, rfl⟩) | (go_at_call 98; refine (HNM.out _).mono ?_; rintro e w' ⟨rfl, rfl⟩))
          rw [HR.out]
          exact bodyPost_ret (v := refAns (some ⟨4, d, 0, d.length + 1⟩) a) (by simp [results, Tryz.results82, go_sem, refAns]) rfl ⟨rfl, (Below.refl _ _).alloc (Nat.le_refl _) _⟩
      | false =>
        rw [if_neg (by rw [hok]; decide)] at htk
        rw [hok] at HNM
        have HR := Lib.hid htk
        clear htk hok
        rcases hcase with hni | ⟨hlt, hni, hwf⟩
        · go_wp2_with (refine (HNM.out _).mono ?_; rintro e w' ⟨rfl, rfl⟩)
          rw [HR.out]
          exact bodyPost_ret (v := refAns none a) (by simp [results, Tryz.results82, go_sem, refAns]) rfl ⟨rfl, (Below.refl _ _).alloc (Nat.le_refl _) _⟩
        · have hw2 := fun (wr : World) => word_any s[n] s[n].toNat rfl wr
          rw [hwf] at hw2
          have HW2 := Lib.hid hw2
          clear hw2 hwf
          go_wp2_with (first | (go_at_call 133; refine (HW2.out _).mono ?_; rintro e w' ⟨rfl, rfl⟩) | (go_at_call 98; refine (HNM.out _).mono ?_; rintro e w' ⟨rfl, rfl⟩))
          rw [HR.out]
          exact bodyPost_ret (v := refAns none a) (by simp [results, Tryz.results82, go_sem, refAns]) rfl ⟨rfl, (Below.refl _ _).alloc (Nat.le_refl _) _⟩
end Go.Proofs.YtlmmfhbdebfgkaaGreatDoor.Lx
