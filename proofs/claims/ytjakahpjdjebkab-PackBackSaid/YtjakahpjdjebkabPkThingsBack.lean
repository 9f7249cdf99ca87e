/-
  The walk over the law that things, one behind the other, are read as they were written.
-/
import Derived.Test.YtjakahpjdjebkabPkThings
import Derived.Deep.RegionHeld3
namespace Go.Proofs.Ytjakahpjdjebkab.Pk
open Go.RowKit

/-- Things in a row in memory. -/
def Row3 (w : World) (b off len : Nat) (D : Nat → Th) : Prop :=
  ∀ i, i < len → w.cell? ⟨b, off + i * 3, none⟩ = some (.int .i64 (D i).what) ∧ w.cell? ⟨b, off + i * 3 + 1, none⟩ = some (.int .u64 ((D i).n : Int)) ∧ w.cell? ⟨b, off + i * 3 + 2, none⟩ = some (.string (D i).s)
/-- It may be. -/
structure ThOk (t : Th) : Prop where
  n : t.n < 2 ^ 64
  s : t.s.size ≤ maxLen

/-- The bytes of the things from number i on, k of them. -/
def bytesOf (D : Nat → Th) : Nat → Nat → List UInt8
  | _, 0 => []
  | i, k + 1 => tb (D i) ++ bytesOf D (i + 1) k

theorem bytesOf_snoc (D : Nat → Th) (k : Nat) : ∀ i, bytesOf D i (k + 1) = bytesOf D i k ++ tb (D (i + k)) := by
  induction k with
  | zero => intro i; simp [bytesOf]
  | succ k ih =>
    intro i
    have := ih (i + 1)
    show tb (D i) ++ bytesOf D (i + 1) (k + 1) = tb (D i) ++ bytesOf D (i + 1) k ++ _
    rw [this, List.append_assoc, show i + 1 + k = i + (k + 1) by omega]

theorem tb_len (t : Th) (hs : t.s.size ≤ 1000) : (tb t).length ≤ 1010 := by
  unfold tb
  have h1 := enc_len (zz (wrap64 (t.n : Int)))
  have h2 := enc_len t.n
  have h3 := enc_len t.s.data.toList.length
  have h4 : t.s.data.toList.length = t.s.size := by simp
  split
  · omega
  · unfold truthL; split <;> simp
  · unfold encX; rw [List.length_append]; omega
  · omega
theorem bytesOf_len (D : Nat → Th) (k : Nat) : ∀ i, (∀ j, j < i + k → (D j).s.size ≤ 1000) → (bytesOf D i k).length ≤ k * 1010 := by
  induction k with
  | zero => intro i _; simp [bytesOf]
  | succ k ih =>
    intro i h
    have h1 := tb_len (D i) (h i (by omega))
    have h2 := ih (i + 1) (fun j hj => h j (by omega))
    show (tb (D i) ++ bytesOf D (i + 1) k).length ≤ _
    rw [List.length_append]
    omega

theorem Only.cell {b : Nat} {w w' : World} (h : Only b w w') {p : Addr} {v : Value} (hc : w.cell? p = some v) (hne : p.block ≠ b) : w'.cell? p = some v :=
  (World.cell?_of_block (h.block p.block (World.block_lt_of_cell? w _ hc) (by simpa using hne))).trans hc

theorem dN (n : Nat) (rest : List UInt8) : decN (enc (zz (wrap64 (n : Int))) ++ rest) = (wrap64 (n : Int), (enc (zz (wrap64 (n : Int)))).length, 0) := by
  rw [decN_of _ _ _ _ (dec_enc _ (zz_lt _ (wrap64_range _).1 (wrap64_range _).2) rest), unz_zz]
theorem dT (c : Bool) (rest : List UInt8) : decT (truthL c ++ rest) = (c, 1, 0) := by
  cases c <;> rfl
theorem drop_own (a rest : List UInt8) : (a ++ rest).drop a.length = rest := by simp

/-- What the second loop works on. -/
structure Ready (w w1 : World) (b : Nat) (len : Nat) (D : Nat → Th) : Prop where
  bel : Below w.heap.size w w1
  few : len ≤ 100
  small : ∀ j, j < len → (D j).s.size ≤ 1000

set_option maxRecDepth 100000 in
set_option maxHeartbeats 4000000 in
theorem PackBack_some (b off len cap : Nat) (D : Nat → Th) (hpos : 0 < len) (hcap : len ≤ cap) (hm : cap ≤ maxLen) (w : World) (hr : Row3 w b off len D) (hok : ∀ i, i < len → ThOk (D i)) :
    Calls Try.prog 4 #[.slice (some ⟨b, off, none⟩) len cap] w fun e w' => e = .returned (.bool true) ∧ Below w.heap.size w w' := by
  have hb : b < w.heap.size := World.block_lt_of_cell? w _ (hr 0 hpos).1
  unfold maxLen at hm
  have hlm : len ≤ 9223372036854775807 := by omega
  have HR := Lib.hid hr
  have HOK := Lib.hid hok
  clear hr hok hm
  go_enter Try.func4, Try.ntmps4
  go_wp2_with fail
  refine (awake_any _).mono ?_
  rintro e w1 ⟨rfl, b1⟩
  have B1 := Lib.hid b1
  clear b1
  go_wp2_with fail
  go_loopw [3, 5, 14] (fun s t i wr => ∃ k : Nat, k ≤ len ∧ i = .int .i64 k ∧ s = .string (S (bytesOf D 0 k)) ∧ Below w.heap.size w wr ∧ Hid ((0 < k → len ≤ 100) ∧ ∀ j, j < k → (D j).s.size ≤ 1000)) (fun _ _ i _ => len - (intOf i).toNat)
  case atStart => exact ⟨0, by omega, rfl, rfl, B1.out, ⟨by omega, by omega⟩⟩
  case round =>
    obtain ⟨k, hk, rfl, rfl, hbel, HK⟩ := hrel
    have HB := Lib.hid hbel
    by_cases hlt : k < len
    · obtain ⟨c0, c1, c2⟩ := HR.out k hlt
      have d0 := (hbel.cell (p := ⟨b, off + k * 3, none⟩) hb).trans c0
      have d1 := (hbel.cell (p := ⟨b, off + k * 3 + 1, none⟩) hb).trans c1
      have d2 := (hbel.cell (p := ⟨b, off + k * 3 + 2, none⟩) hb).trans c2
      clear c0 c1 c2 hbel
      by_cases h100 : 100 < len
      · go_wp2_with fail
        refine (awake_any _).mono ?_
        rintro e w2 ⟨rfl, b2⟩
        have B2 := Lib.hid (two (HB.out.alloc HB.out.size _) b2)
        clear b2
        go_wp2_with fail
        go_ret
        exact ⟨rfl, B2.out⟩
      · have h100' : len ≤ 100 := by omega
        clear h100
        by_cases hsz : 1000 < (D k).s.size
        · go_wp2_with fail
          refine (awake_any _).mono ?_
          rintro e w2 ⟨rfl, b2⟩
          have B2 := Lib.hid (two (HB.out.alloc HB.out.size _) b2)
          clear b2
          go_wp2_with fail
          go_ret
          exact ⟨rfl, B2.out⟩
        · have hsz' : (D k).s.size ≤ 1000 := by omega
          have l1 := bytesOf_len D k 0 (fun j hj => HK.out.2 j (by omega))
          have hS1 : (S (bytesOf D 0 k)).size ≤ 101000 := by rw [S_size]; omega
          have hS2 : (S (tb (D k))).size ≤ 1010 := by rw [S_size]; exact tb_len _ hsz'
          have hcat : S (bytesOf D 0 k) ++ S (tb (D k)) = S (bytesOf D 0 (k + 1)) := by
            rw [S_append, bytesOf_snoc, Nat.zero_add]
          have HCAT := Lib.hid hcat
          have HSZ := Lib.hid hsz'
          clear hcat l1 hsz
          go_wp2_with fail
          refine (bytes_any (D k) (HOK.out k hlt).n HSZ.out _).mono ?_
          rintro e w2 ⟨rfl, b2⟩
          have B2 := Lib.hid (two (HB.out.alloc HB.out.size _) b2)
          clear b2 d0 d1 d2
          go_wp2_with fail
          go_roundw
          case rel =>
            refine ⟨k + 1, by omega, by go_num, congrArg Value.string HCAT.out, B2.out, fun _ => h100', fun j hj => ?_⟩
            by_cases e : j = k
            · subst e; exact HSZ.out
            · exact HK.out.2 j (by omega)
          case measure => simp [intOf]; omega
    · obtain rfl : k = len := by omega
      go_wp2_with fail
      refine (new_any _ _).mono ?_
      rintro e w2 ⟨rfl, r2, b2, s2⟩
      rw [S_toList] at r2
      have hRlo : w.heap.size ≤ wr.heap.size := hbel.size
      have hb2 : Below w.heap.size w w2 := two hbel b2
      generalize wr.heap.size = R at *
      have R2 := Lib.hid r2
      have HB2 := Lib.hid hb2
      clear r2 b2 s2 hbel hb2
      go_wp2_with fail
      go_loopw [8, 9, 37] (fun t z i wr => ∃ j : Nat, j ≤ k ∧ i = .int .i64 j ∧ Hid (RdAt wr R (bytesOf D j (k - j)) 0) ∧ Below w.heap.size w wr) (fun _ _ i _ => k - (intOf i).toNat)
      case atStart => exact ⟨0, by omega, rfl, R2, HB2.out⟩
      case round =>
        obtain ⟨j, hj, rfl, HRD, hbel⟩ := hrel
        by_cases hlt2 : j < k
        · obtain ⟨c0, c1, c2⟩ := HR.out j hlt2
          have d0 := (hbel.cell (p := ⟨b, off + j * 3, none⟩) hb).trans c0
          have d1 := (hbel.cell (p := ⟨b, off + j * 3 + 1, none⟩) hb).trans c1
          have d2 := (hbel.cell (p := ⟨b, off + j * 3 + 2, none⟩) hb).trans c2
          have hsplit : bytesOf D j (k - j) = tb (D j) ++ bytesOf D (j + 1) (k - (j + 1)) := by
            rw [show k - j = (k - (j + 1)) + 1 by omega]; rfl
          have hrd := HRD.out
          rw [hsplit] at hrd
          have hlen : (tb (D j) ++ bytesOf D (j + 1) (k - (j + 1))).length ≤ 1000000 := by
            rw [← hsplit]
            have := bytesOf_len D (k - j) j (fun i hi => HK.out.2 i (by omega))
            have := HK.out.1 (by omega)
            omega
          have hRlt := hrd.lt
          have HTn := (HOK.out j hlt2).n
          have HTs := HK.out.2 j hlt2
          clear c0 c1 c2 hsplit HRD
          have HB := Lib.hid hbel
          clear hbel
          generalize hrest : bytesOf D (j + 1) (k - (j + 1)) = rest at *
          have HREST := Lib.hid hrest
          clear hrest
          obtain ⟨t, ht⟩ : ∃ t, D j = t := ⟨_, rfl⟩
          rw [ht] at d0 d1 d2 hrd hlen HTn HTs
          clear ht
          obtain ⟨x, n, s⟩ := t
          simp only at d0 d1 d2 hrd hlen HTn HTs
          have HN : U64 n := ⟨HTn⟩
          clear HTn
          have hj1 := hlt2
          rcases tmod4 x with h | h | h | h | h | h | h
          · have ht : tb ⟨x, n, s⟩ = enc (zz (wrap64 (n : Int))) := by simp [tb, kind, h]
            rw [ht] at hrd hlen
            have hd := dN n rest
            have HD := Lib.hid hd
            have hrd2 : RdAt (wr.alloc (.cells #[.int .i64 x, .int .u64 (n : Int), .string s] 32)).drew R _ 0 := hrd.below ((Below.refl _ _).alloc (Nat.le_refl _) _).drew
            have HRD := Lib.hid hrd2
            have HLEN := Lib.hid hlen
            have HNE := Lib.hid hRlt
            have HDR := Lib.hid (drop_own (enc (zz (wrap64 (n : Int)))) rest)
            clear ht hd hrd hrd2 hlen hRlt
            have hww : (wrap64 (n : Int) == IntKind.i64.wrap (n : Int)) = true := by rw [IntKind.wrap_i64]; unfold wrap64; simp
            go_wp2_with fail
            go_region_held3 (fun w' => w'.cell? ⟨wr.heap.size, 1, none⟩ = some (.int .u64 (n : Int))) (first | exact Only.cell (by assumption) (by assumption) (by simp; have := HNE.out; omega) | assumption | (simp; done)) ((go_at_call 18; refine (rNumber_ok R _ HLEN.out _ _ HD.out _ HRD.out).mono ?_; rintro e w' ⟨rfl, r1, o1⟩; have rq := Lib.hid r1; have oq := Lib.hid o1; clear r1))
            all_goals
              go_wp2_with fail
              refine ⟨?_, by simp [intOf]; omega⟩
              · refine ⟨j + 1, by omega, by go_num, ?_, ?_⟩
                · have hq := rq.out
                  rw [HDR.out, ← HREST.out] at hq
                  exact hq
                · exact Only.below (HB.out.alloc HB.out.size _).drew oq.out (by have := HB.out.size; simp; omega) hRlo
          · have ht : tb ⟨x, n, s⟩ = enc (zz (wrap64 (n : Int))) := by simp [tb, kind, h]
            rw [ht] at hrd hlen
            have hd := dN n rest
            have HD := Lib.hid hd
            have hrd2 : RdAt (wr.alloc (.cells #[.int .i64 x, .int .u64 (n : Int), .string s] 32)).drew R _ 0 := hrd.below ((Below.refl _ _).alloc (Nat.le_refl _) _).drew
            have HRD := Lib.hid hrd2
            have HLEN := Lib.hid hlen
            have HNE := Lib.hid hRlt
            have HDR := Lib.hid (drop_own (enc (zz (wrap64 (n : Int)))) rest)
            clear ht hd hrd hrd2 hlen hRlt
            have hww : (wrap64 (n : Int) == IntKind.i64.wrap (n : Int)) = true := by rw [IntKind.wrap_i64]; unfold wrap64; simp
            go_wp2_with fail
            go_region_held3 (fun w' => w'.cell? ⟨wr.heap.size, 1, none⟩ = some (.int .u64 (n : Int))) (first | exact Only.cell (by assumption) (by assumption) (by simp; have := HNE.out; omega) | assumption | (simp; done)) ((go_at_call 18; refine (rNumber_ok R _ HLEN.out _ _ HD.out _ HRD.out).mono ?_; rintro e w' ⟨rfl, r1, o1⟩; have rq := Lib.hid r1; have oq := Lib.hid o1; clear r1))
            all_goals
              go_wp2_with fail
              refine ⟨?_, by simp [intOf]; omega⟩
              · refine ⟨j + 1, by omega, by go_num, ?_, ?_⟩
                · have hq := rq.out
                  rw [HDR.out, ← HREST.out] at hq
                  exact hq
                · exact Only.below (HB.out.alloc HB.out.size _).drew oq.out (by have := HB.out.size; simp; omega) hRlo
          · have ht : tb ⟨x, n, s⟩ = truthL (decide (n % 2 = 1)) := by simp [tb, kind, h]
            rw [ht] at hrd hlen
            have hd := dT (decide (n % 2 = 1)) rest
            have HD := Lib.hid hd
            have hrd2 : RdAt (wr.alloc (.cells #[.int .i64 x, .int .u64 (n : Int), .string s] 32)).drew R _ 0 := hrd.below ((Below.refl _ _).alloc (Nat.le_refl _) _).drew
            have HRD := Lib.hid hrd2
            have HLEN := Lib.hid hlen
            have HNE := Lib.hid hRlt
            have HDR := Lib.hid (drop_own (truthL (decide (n % 2 = 1))) rest)
            clear ht hd hrd hrd2 hlen hRlt
            have htt : (decide (n % 2 = 1) == ((n : Int).tmod 2 == 1)) = true := by
              rw [Int.tmod_eq_emod_of_nonneg (by omega), beq_iff_eq, Bool.eq_iff_iff]; simp; omega
            have htl : (truthL (decide (n % 2 = 1))).length = 1 := by unfold truthL; split <;> rfl
            have HTL1 := Lib.hid htl
            clear htl
            go_wp2_with fail
            go_region_held3 (fun w' => w'.cell? ⟨wr.heap.size, 1, none⟩ = some (.int .u64 (n : Int))) (first | exact Only.cell (by assumption) (by assumption) (by simp; have := HNE.out; omega) | assumption | (simp; done)) ((go_at_call 19; refine (rTruth_ok R _ HLEN.out _ _ HD.out _ HRD.out).mono ?_; rintro e w' ⟨rfl, r1, o1⟩; have rq := Lib.hid r1; have oq := Lib.hid o1; clear r1))
            all_goals
              go_wp2_with fail
              refine ⟨?_, by simp [intOf]; omega⟩
              · refine ⟨j + 1, by omega, by go_num, ?_, ?_⟩
                · have hq : RdAt w' R ((truthL (decide (n % 2 = 1)) ++ rest).drop (truthL (decide (n % 2 = 1))).length) 0 := by rw [HTL1.out]; exact rq.out
                  rw [HDR.out, ← HREST.out] at hq
                  exact hq
                · exact Only.below (HB.out.alloc HB.out.size _).drew oq.out (by have := HB.out.size; simp; omega) hRlo
          · have ht : tb ⟨x, n, s⟩ = truthL (decide (n % 2 = 1)) := by simp [tb, kind, h]
            rw [ht] at hrd hlen
            have hd := dT (decide (n % 2 = 1)) rest
            have HD := Lib.hid hd
            have hrd2 : RdAt (wr.alloc (.cells #[.int .i64 x, .int .u64 (n : Int), .string s] 32)).drew R _ 0 := hrd.below ((Below.refl _ _).alloc (Nat.le_refl _) _).drew
            have HRD := Lib.hid hrd2
            have HLEN := Lib.hid hlen
            have HNE := Lib.hid hRlt
            have HDR := Lib.hid (drop_own (truthL (decide (n % 2 = 1))) rest)
            clear ht hd hrd hrd2 hlen hRlt
            have htt : (decide (n % 2 = 1) == ((n : Int).tmod 2 == 1)) = true := by
              rw [Int.tmod_eq_emod_of_nonneg (by omega), beq_iff_eq, Bool.eq_iff_iff]; simp; omega
            have htl : (truthL (decide (n % 2 = 1))).length = 1 := by unfold truthL; split <;> rfl
            have HTL1 := Lib.hid htl
            clear htl
            go_wp2_with fail
            go_region_held3 (fun w' => w'.cell? ⟨wr.heap.size, 1, none⟩ = some (.int .u64 (n : Int))) (first | exact Only.cell (by assumption) (by assumption) (by simp; have := HNE.out; omega) | assumption | (simp; done)) ((go_at_call 19; refine (rTruth_ok R _ HLEN.out _ _ HD.out _ HRD.out).mono ?_; rintro e w' ⟨rfl, r1, o1⟩; have rq := Lib.hid r1; have oq := Lib.hid o1; clear r1))
            all_goals
              go_wp2_with fail
              refine ⟨?_, by simp [intOf]; omega⟩
              · refine ⟨j + 1, by omega, by go_num, ?_, ?_⟩
                · have hq : RdAt w' R ((truthL (decide (n % 2 = 1)) ++ rest).drop (truthL (decide (n % 2 = 1))).length) 0 := by rw [HTL1.out]; exact rq.out
                  rw [HDR.out, ← HREST.out] at hq
                  exact hq
                · exact Only.below (HB.out.alloc HB.out.size _).drew oq.out (by have := HB.out.size; simp; omega) hRlo
          · have ht : tb ⟨x, n, s⟩ = encX s.data.toList := by simp [tb, kind, h]
            rw [ht] at hrd hlen
            have hd := decX_enc s.data.toList rest (by simp; omega) 1000 (by simp; omega)
            have HD := Lib.hid hd
            have hrd2 : RdAt (wr.alloc (.cells #[.int .i64 x, .int .u64 (n : Int), .string s] 32)).drew R _ 0 := hrd.below ((Below.refl _ _).alloc (Nat.le_refl _) _).drew
            have HRD := Lib.hid hrd2
            have HLEN := Lib.hid hlen
            have HNE := Lib.hid hRlt
            have HDR := Lib.hid (drop_own (encX s.data.toList) rest)
            clear ht hd hrd hrd2 hlen hRlt
            have hsl := S_list s
            go_wp2_with fail
            go_region_held3 (fun w' => w'.cell? ⟨wr.heap.size, 2, none⟩ = some (.string s)) (first | exact Only.cell (by assumption) (by assumption) (by simp; have := HNE.out; omega) | assumption | (simp; done)) ((go_at_call 20; refine (rText_ok R _ HLEN.out 1000 (by omega) (by omega) _ _ HD.out _ HRD.out).mono ?_; rintro e w' ⟨rfl, r1, o1⟩; have rq := Lib.hid r1; have oq := Lib.hid o1; clear r1))
            all_goals
              go_wp2_with fail
              refine ⟨?_, by simp [intOf]; omega⟩
              · refine ⟨j + 1, by omega, by go_num, ?_, ?_⟩
                · have hq := rq.out
                  rw [HDR.out, ← HREST.out] at hq
                  exact hq
                · exact Only.below (HB.out.alloc HB.out.size _).drew oq.out (by have := HB.out.size; simp; omega) hRlo
          · have ht : tb ⟨x, n, s⟩ = encX s.data.toList := by simp [tb, kind, h]
            rw [ht] at hrd hlen
            have hd := decX_enc s.data.toList rest (by simp; omega) 1000 (by simp; omega)
            have HD := Lib.hid hd
            have hrd2 : RdAt (wr.alloc (.cells #[.int .i64 x, .int .u64 (n : Int), .string s] 32)).drew R _ 0 := hrd.below ((Below.refl _ _).alloc (Nat.le_refl _) _).drew
            have HRD := Lib.hid hrd2
            have HLEN := Lib.hid hlen
            have HNE := Lib.hid hRlt
            have HDR := Lib.hid (drop_own (encX s.data.toList) rest)
            clear ht hd hrd hrd2 hlen hRlt
            have hsl := S_list s
            go_wp2_with fail
            go_region_held3 (fun w' => w'.cell? ⟨wr.heap.size, 2, none⟩ = some (.string s)) (first | exact Only.cell (by assumption) (by assumption) (by simp; have := HNE.out; omega) | assumption | (simp; done)) ((go_at_call 20; refine (rText_ok R _ HLEN.out 1000 (by omega) (by omega) _ _ HD.out _ HRD.out).mono ?_; rintro e w' ⟨rfl, r1, o1⟩; have rq := Lib.hid r1; have oq := Lib.hid o1; clear r1))
            all_goals
              go_wp2_with fail
              refine ⟨?_, by simp [intOf]; omega⟩
              · refine ⟨j + 1, by omega, by go_num, ?_, ?_⟩
                · have hq := rq.out
                  rw [HDR.out, ← HREST.out] at hq
                  exact hq
                · exact Only.below (HB.out.alloc HB.out.size _).drew oq.out (by have := HB.out.size; simp; omega) hRlo
          · have ht : tb ⟨x, n, s⟩ = enc n := by simp [tb, kind, h]
            rw [ht] at hrd hlen
            have hd := dec_enc n HN.lt rest
            have HD := Lib.hid hd
            have hrd2 : RdAt (wr.alloc (.cells #[.int .i64 x, .int .u64 (n : Int), .string s] 32)).drew R _ 0 := hrd.below ((Below.refl _ _).alloc (Nat.le_refl _) _).drew
            have HRD := Lib.hid hrd2
            have HLEN := Lib.hid hlen
            have HNE := Lib.hid hRlt
            have HDR := Lib.hid (drop_own (enc n) rest)
            clear ht hd hrd hrd2 hlen hRlt
            go_wp2_with fail
            go_region_held3 (fun w' => w'.cell? ⟨wr.heap.size, 1, none⟩ = some (.int .u64 (n : Int))) (first | exact Only.cell (by assumption) (by assumption) (by simp; have := HNE.out; omega) | assumption | (simp; done)) ((go_at_call 21; refine (rCount_ok R _ HLEN.out _ _ HD.out _ HRD.out).mono ?_; rintro e w' ⟨rfl, r1, o1⟩; have rq := Lib.hid r1; have oq := Lib.hid o1; clear r1))
            all_goals
              go_wp2_with fail
              refine ⟨?_, by simp [intOf]; omega⟩
              · refine ⟨j + 1, by omega, by go_num, ?_, ?_⟩
                · have hq := rq.out
                  rw [HDR.out, ← HREST.out] at hq
                  exact hq
                · exact Only.below (HB.out.alloc HB.out.size _).drew oq.out (by have := HB.out.size; simp; omega) hRlo
        · obtain rfl : j = k := by omega
          have hrd := HRD.out
          rw [Nat.sub_self] at hrd
          have HRD2 : Hid (RdAt wr R [] 0) := hrd
          have HB := Lib.hid hbel
          clear hrd HRD hbel
          go_wp2_with fail
          refine (awake_any _).mono ?_
          rintro e w3 ⟨rfl, b3⟩
          have R3 := Lib.hid (HRD2.out.below b3)
          have B3 := Lib.hid (two HB.out b3)
          clear b3
          go_wp2_with fail
          refine (end_any R [] 0 _ R3.out).mono ?_
          rintro e w4 ⟨rfl, rfl⟩
          go_wp2_with fail
          refine (left_ok R [] _ R3.out).mono ?_
          rintro e w4 ⟨rfl, rfl⟩
          go_wp2_with fail
          go_ret
          exact ⟨rfl, B3.out⟩

set_option maxRecDepth 100000 in
/-- No things at all. -/
theorem PackBack_none (a : Option Addr) (cap : Nat) (w : World) :
    Calls Try.prog 4 #[.slice a 0 cap] w fun e w' => e = .returned (.bool true) ∧ Below w.heap.size w w' := by
  go_enter Try.func4, Try.ntmps4
  go_wp2_with fail
  refine (awake_any _).mono ?_
  rintro e w1 ⟨rfl, b1⟩
  have B1 := Lib.hid b1
  clear b1
  go_wp2_with fail
  refine wp_loop_rounds 1 ?_
  rw [rounds_succ]
  go_wp2_with fail
  refine (new_any _ _).mono ?_
  rintro e w2 ⟨rfl, r2, b2, s2⟩
  have R2 : Hid (RdAt w2 w1.heap.size [] 0) := r2
  have B2 := Lib.hid (two B1.out b2)
  clear r2 b2 s2
  go_wp2_with fail
  refine wp_loop_rounds 1 ?_
  rw [rounds_succ]
  go_wp2_with fail
  refine (awake_any _).mono ?_
  rintro e w3 ⟨rfl, b3⟩
  have R3 := Lib.hid (R2.out.below b3)
  have B3 := Lib.hid (two B2.out b3)
  clear b3
  go_wp2_with fail
  refine (end_any _ [] 0 _ R3.out).mono ?_
  rintro e w4 ⟨rfl, rfl⟩
  go_wp2_with fail
  refine (left_ok _ [] _ R3.out).mono ?_
  rintro e w4 ⟨rfl, rfl⟩
  go_wp2_with fail
  go_ret
  exact ⟨rfl, B3.out⟩

end Go.Proofs.Ytjakahpjdjebkab.Pk
