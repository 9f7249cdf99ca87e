/-
  LxUint, LxUnesc.
-/
import Derived.Test.YtlmmfhbdebfgkaaGreatDoorYLxBackQ
import Derived.Test.YtlmmfhbdebfgkaaGreatDoorYLxGoodQ
import Derived.Lib.ConvBytes
namespace Go.Proofs.YtlmmfhbdebfgkaaGreatDoor.Lx
open Go.RowKit
open Va
theorem low_bits (c : UInt8) : bits .or .u8 (c.toNat : Int) 32 = ((low c).toNat : Int) := by
  have : ∀ i : Fin 256, bits .or .u8 (i.val : Int) 32 = ((low (UInt8.ofNat i.val)).toNat : Int) := by decide +kernel
  have h := this ⟨c.toNat, c.toNat_lt⟩
  simpa using h
theorem low_any (c : UInt8) (w : World) :
    Calls Tryz.prog 229 #[.int .u8 (c.toNat : Int)] w fun e w' => e = .returned (.int .u8 ((low c).toNat : Int)) ∧ w = w' := by
  refine (Tryz.internal_strconv_lower (c.toNat : Int) w).mono ?_
  rintro e w' ⟨rfl, rfl⟩
  exact ⟨by rw [low_bits], rfl⟩
def hexF : Nat → List UInt8 → Option Nat
  | acc, [] => some acc
  | acc, c :: r => match hexD c with
    | some d => hexF (acc * 16 + d) r
    | none => none
theorem hexF_two (a b : UInt8) : hexF 0 [a, b] = hexP a b := by
  unfold hexP
  simp only [hexF]
  cases hexD a with
  | none => rfl
  | some x =>
    cases hexD b with
    | none => rfl
    | some y => simp only [Nat.zero_mul, Nat.zero_add, Nat.mul_comm]
def puV (o : Option Nat) : Value := match o with
  | some n => .tuple #[.int .u64 (n : Int), .nilIface]
  | none => .tuple #[.int .u64 0, .iface 234 (.int .i64 2)]
set_option linter.unusedSimpArgs false
set_option maxRecDepth 100000 in
set_option maxHeartbeats 8000000 in
theorem inner_any (a b : UInt8) (w : World) :
    Calls Tryz.prog 199 #[.string (S [a, b]), .int .i64 16, .int .i64 8] w fun e w' => e = .returned (puV (hexP a b)) ∧ Below w.heap.size w w' := by
  have hcv := Lib.run_convert_string_bytes (P := Tryz.prog) w 9 67 5 (S [a, b]) (u := .string) Tryz.underlying9 Tryz.underlying67 Tryz.underlying5
  have hz : (S [a, b]).size = 2 := rfl
  have hemp : (S [a, b]).toList = [a, b] := by rw [ByteArray.toList_eq, S_toList]
  have hB : ∀ j, j < 2 → (Lib.bytesWorld w 5 (S [a, b])).cell? ⟨w.heap.size, j, none⟩ = some (.int .u8 ((([a, b] : List UInt8).getD j 0).toNat : Int)) := fun j hj => by
    have := Lib.bytesWorld_cell w 5 (S [a, b]) j (by rw [hz]; exact hj)
    rw [S_toList] at this
    exact this
  have HBEL := Lib.hid (show Below w.heap.size w (Lib.bytesWorld w 5 (S [a, b])) from Go.Joins.below_bytesWorld _ _ _ _ (Nat.le_refl _))
  obtain ⟨W1, hW1⟩ : ∃ W1, W1 = Lib.bytesWorld w 5 (S [a, b]) := ⟨_, rfl⟩
  rw [← hW1] at hcv hB HBEL
  clear hW1
  rw [← hexF_two a b]
  have hl2 : ([a, b] : List UInt8).length = 2 := rfl
  obtain ⟨t, ht⟩ : ∃ t, t = S [a, b] := ⟨_, rfl⟩
  have HT := Lib.hid ht
  rw [← ht] at hcv hz hemp ⊢
  clear ht
  generalize ([a, b] : List UInt8) = bs at *
  have hne : t.toList.isEmpty = false := by rw [hemp]; cases bs with | nil => simp at hl2 | cons => rfl
  have hne2 : (t.toList = []) = False := by rw [hemp]; cases bs with | nil => simp at hl2 | cons => simp
  have HB := Lib.hid hB
  have HL2 := Lib.hid hl2
  clear hemp hl2 hB
  have hl2n := HL2.out
  obtain ⟨o, ho⟩ : ∃ o, o = hexF 0 bs := ⟨_, rfl⟩
  have HO := Lib.hid ho
  rw [← ho]
  have hzi : t.size = 2 := hz
  clear ho hl2n
  go_enter Tryz.func199, Tryz.ntmps199
  go_wp2_with fail
  go_loop [12, 13, 101] (fun vu vn vi => ∃ (k : Nat) (a : Int), vu = .bool false ∧ vn = .int .u64 a ∧ vi = .int .i64 k ∧ k ≤ 2 ∧ 0 ≤ a ∧ a ≤ 255 ∧ Hid ((k = 0 → a = 0) ∧ (k < 2 → a ≤ 15)) ∧ Hid (hexF a.toNat (bs.drop k) = o))
    (fun _ _ vi => 2 - (intOf vi).toNat)
  case atStart => exact ⟨0, 0, rfl, rfl, rfl, by omega, by omega, by omega, Lib.hid ⟨fun _ => rfl, fun _ => by omega⟩, Lib.hid HO.out.symm⟩
  case round =>
    obtain ⟨k, a, rfl, rfl, rfl, hk, a0, a1, a2, HH⟩ := hrel
    by_cases hkn : k < 2
    · have a3 : a ≤ 15 := a2.out.2 hkn
      have AZ := Lib.hid a2.out.1
      have hc := HB.out k hkn
      have hdrop : bs.drop k = bs[k]'(by have := HL2.out; omega) :: bs.drop (k + 1) := List.drop_eq_getElem_cons (by have := HL2.out; omega)
      have hget : bs.getD k 0 = bs[k]'(by have := HL2.out; omega) := by simp [List.getD, List.getElem?_eq_getElem (show k < bs.length by have := HL2.out; omega)]
      rw [hget] at hc
      generalize bs[k]'(by have := HL2.out; omega) = c at hc hdrop
      have hc256 : (c.toNat : Int) < 256 := byte_lt c
      have HST := Lib.hid (show hexF a.toNat (c :: bs.drop (k + 1)) = o by rw [← hdrop]; exact HH.out)
      have hk1 : k + 1 = 1 ∨ k + 1 = 2 := by omega
      clear hget a1 a2 HH hdrop
      by_cases hdig : 48 ≤ c.toNat ∧ c.toNat ≤ 57
      · have hd0 : (48 : Int) ≤ (c.toNat : Int) := by omega
        have hd1 : (c.toNat : Int) ≤ 57 := by omega
        have hv : hexD c = some (c.toNat - 48) := by unfold hexD; rw [if_pos hdig]
        have HN := Lib.hid (show hexF (a * 16 + ((c.toNat : Int) - 48)).toNat (bs.drop (k + 1)) = o by
          have := HST.out
          simp only [hexF, hv] at this
          rw [← this]
          congr 1
          omega)
        clear hdig hv
        go_wp2_with fail
        go_round
        case rel => exact ⟨k + 1, a * 16 + ((c.toNat : Int) - 48), rfl, (by first | rfl | (congr 1; omega)), by go_num, by omega, by omega, by omega, Lib.hid ⟨fun h => absurd h (by omega), fun h => by have := AZ.out (by omega); omega⟩, HN⟩
        case measure => simp [intOf]; omega
      · have hndig : ¬ (48 ≤ (c.toNat : Int) ∧ (c.toNat : Int) ≤ 57) := by omega
        have HL := Lib.hid (low_any c)
        have hlw : ((low c).toNat : Int) < 256 := byte_lt (low c)
        by_cases haf : 97 ≤ (low c).toNat ∧ (low c).toNat ≤ 102
        · have hv : hexD c = some ((low c).toNat - 87) := by unfold hexD; rw [if_neg hdig, if_pos haf]
          have HN := Lib.hid (show hexF (a * 16 + (((low c).toNat : Int) - 97 + 10)).toNat (bs.drop (k + 1)) = o by
            have := HST.out
            simp only [hexF, hv] at this
            rw [← this]
            congr 1
            omega)
          have h0 : (97 : Int) ≤ ((low c).toNat : Int) := by omega
          have h1 : ((low c).toNat : Int) ≤ 102 := by omega
          have n95 : ((c.toNat : Int) == 95) = false := by
            rw [beq_eq_false_iff_ne]
            intro e
            obtain rfl : c = 95 := UInt8.toNat_inj.1 (show c.toNat = 95 by omega)
            exact absurd haf.2 (by decide)
          generalize ((low c).toNat : Int) = v at *
          clear hdig hv haf
          go_wp2_with (refine (HL.out _).mono ?_; rintro e w' ⟨rfl, rfl⟩)
          all_goals
            go_round
            case rel => exact ⟨k + 1, a * 16 + (v - 97 + 10), rfl, (by first | rfl | (congr 1; omega)), by go_num, by omega, by omega, by omega, Lib.hid ⟨fun h => absurd h (by omega), fun h => by have := AZ.out (by omega); omega⟩, HN⟩
            case measure => simp [intOf]; omega
        · have hv : hexD c = none := by unfold hexD; rw [if_neg hdig, if_neg haf]
          obtain rfl : o = none := by
            have := HST.out
            simp only [hexF, hv] at this
            exact this.symm
          clear hdig hv HST HO
          have hnaf : ¬ (97 ≤ ((low c).toNat : Int) ∧ ((low c).toNat : Int) ≤ 102) := by omega
          clear haf
          by_cases h95 : c = 95
          · subst h95
            have HL5 := Lib.hid (fun (wr : World) => show Calls Tryz.prog 229 #[.int .u8 95] wr fun e w' => e = .returned (.int .u8 127) ∧ wr = w' from low_any 95 wr)
            have hc5 : W1.cell? ⟨w.heap.size, k, none⟩ = some (.int .u8 95) := hc
            clear HL hc hnaf hlw hndig hc256
            go_wp2_with (refine (HL5.out _).mono ?_; rintro e w' ⟨rfl, rfl⟩)
            all_goals go_ret2
            all_goals exact ⟨rfl, HBEL.out⟩
          · have n95 : ((c.toNat : Int) == 95) = false := by
              rw [beq_eq_false_iff_ne]
              intro e
              exact h95 (UInt8.toNat_inj.1 (show c.toNat = 95 by omega))
            clear h95
            generalize ((low c).toNat : Int) = v at *
            go_wp2_with (refine (HL.out _).mono ?_; rintro e w' ⟨rfl, rfl⟩)
            all_goals go_ret2
            all_goals exact ⟨rfl, HBEL.out⟩
    · obtain rfl : k = 2 := by omega
      have HE := Lib.hid (show some a.toNat = o by
        have := HH.out
        rw [List.drop_eq_nil_of_le (by have := HL2.out; omega)] at this
        exact this)
      have HP := Lib.hid (show puV o = .tuple #[.int .u64 a, .nilIface] by
        rw [← HE.out]
        show (Value.tuple #[.int .u64 (a.toNat : Int), .nilIface]) = _
        rw [Int.toNat_of_nonneg a0])
      go_wp2_with fail
      go_ret2
      exact ⟨by rw [HP.out]; rfl, HBEL.out⟩
end Go.Proofs.YtlmmfhbdebfgkaaGreatDoor.Lx
namespace Go.Proofs.YtlmmfhbdebfgkaaGreatDoor.Lx
open Go.RowKit
open Va
set_option linter.unusedSimpArgs false
set_option maxRecDepth 100000 in
set_option maxHeartbeats 1600000 in
theorem parse16_some (a b : UInt8) (n : Nat) (h : hexP a b = some n) (w : World) :
    Calls Tryz.prog 204 #[.string (S [a, b]), .int .i64 16, .int .i64 8] w fun e w' => e = .returned (.tuple #[.int .u64 (n : Int), .nilIface]) ∧ Below w.heap.size w w' := by
  have HI := Lib.hid (inner_any a b)
  rw [h] at HI
  generalize S [a, b] = t at *
  clear h
  go_enter Tryz.func204, Tryz.ntmps204
  go_wp2_with fail
  refine (HI.out _).mono ?_
  rintro e w1 ⟨rfl, b1⟩
  have B1 := Lib.hid b1
  clear b1
  unfold puV
  go_wp2_with fail
  go_ret2
  exact ⟨rfl, B1.out⟩
set_option linter.unusedSimpArgs false
set_option maxRecDepth 100000 in
set_option maxHeartbeats 1600000 in
theorem parse16_none (a b : UInt8) (h : hexP a b = none) (w : World) (he : ErrAt w 6) :
    Calls Tryz.prog 204 #[.string (S [a, b]), .int .i64 16, .int .i64 8] w fun e w' => (∃ t p, e = .returned (.tuple #[.int .u64 0, .iface t (.pointer (some p))])) ∧ Below w.heap.size w w' := by
  have HI := Lib.hid (inner_any a b)
  rw [h] at HI
  have hz : (S [a, b]).size = 2 := rfl
  have HE := Lib.hid (fun (wr : World) (hb : Below w.heap.size w wr) => he.below hb)
  have HT := Lib.hid (fun (wr : World) (hb : Below w.heap.size w wr) => show Calls Tryz.prog 163 #[.string ⟨#[80, 97, 114, 115, 101, 85, 105, 110, 116]⟩, .string (S [a, b]), .int .i64 16, .int .i64 8, .iface 234 (.int .i64 2)] wr fun e w' => (∃ t p, e = .returned (.iface t (.pointer (some p)))) ∧ Below wr.heap.size wr w' from by
    obtain ⟨ev, h1, h2, _⟩ := he.below hb
    refine (Tryz.strconv_toError_syntax _ (S [a, b]) 16 8 ev wr (by rw [hz]; omega) h1 h2).mono ?_
    rintro e w' ⟨N, rfl, _, _, hb⟩
    exact ⟨⟨_, _, rfl⟩, hb⟩)
  generalize S [a, b] = t at *
  clear h he hz
  go_enter Tryz.func204, Tryz.ntmps204
  go_wp2_with fail
  refine (HI.out _).mono ?_
  rintro e w1 ⟨rfl, b1⟩
  have B1 := Lib.hid b1
  clear b1
  unfold puV
  go_wp2_with fail
  refine (HT.out _ B1.out).mono ?_
  rintro e w2 ⟨⟨t2, p2, rfl⟩, b2⟩
  have B2 := Lib.hid b2
  clear b2
  go_wp2_with fail
  go_ret2
  exact ⟨⟨_, _, rfl⟩, two B1.out B2.out⟩
theorem byte_ne (c d : UInt8) (h : c ≠ d) : ((c.toNat : Int) == (d.toNat : Int)) = false := by
  rw [beq_eq_false_iff_ne]
  intro e
  exact h (UInt8.toNat_inj.1 (by omega))
theorem S_get (s : ByteArray) (l : List UInt8) (h : s.data.toList = l) (k : Nat) (hk : k < s.size) (c : UInt8) (hc : l[k]? = some c) : s[k] = c := by
  have := getElem_list s k hk
  rw [← this, h]
  simp [List.getD, hc]
def unV (x : UInt8 × Nat) : Value := .tuple #[.int .u8 (x.1.toNat : Int), .int .i64 (x.2 : Int)]
set_option linter.unusedSimpArgs false
set_option maxRecDepth 100000 in
set_option maxHeartbeats 3200000 in
theorem unescape_any (s : ByteArray) (hs : s.size ≤ 100000) (hs1 : 1 ≤ s.size) (w : World) (he : ErrAt w 6) :
    Calls Tryz.prog 164 #[.string s] w fun e w' => e = .returned (unV (unescM s.data.toList)) ∧ Below w.heap.size w w' := by
  have hls := list_size s
  obtain ⟨l, hl⟩ : ∃ l, s.data.toList = l := ⟨_, rfl⟩
  rw [hl] at hls ⊢
  have hsi : (1 : Int) ≤ (s.size : Int) := by omega
  match l, hl, hls with
  | [], _, hls => simp at hls; omega
  | [c], hl, hls =>
    have h0 : s[0] = c := S_get s _ hl 0 (by omega) c rfl
    have hz : s.size = 1 := by simpa using hls.symm
    clear hl hls
    by_cases hc : c = 92
    · subst hc
      have hR := Lib.hid (show unV (unescM [92]) = .tuple #[.int .u8 92, .int .i64 1] from rfl)
      go_enter Tryz.func164, Tryz.ntmps164
      go_wp2_with fail
      go_ret2
      exact ⟨by rw [hR.out]; rfl, Below.refl _ _⟩
    · have hcb : ((c.toNat : Int) == 92) = false := byte_ne c 92 hc
      have hcn : ((c.toNat : Int) != 92) = true := by simp only [bne, hcb, Bool.not_false]
      have hR := Lib.hid (show unV (unescM [c]) = .tuple #[.int .u8 (c.toNat : Int), .int .i64 1] from rfl)
      clear hc
      go_enter Tryz.func164, Tryz.ntmps164
      go_wp2_with fail
      go_ret2
      exact ⟨by rw [hR.out]; rfl, Below.refl _ _⟩
  | c :: d :: r, hl, hls =>
    have h0 : s[0] = c := S_get s _ hl 0 (by omega) c rfl
    have hl2 : 2 ≤ s.size := by simp at hls; omega
    have h1 : s[1]'hl2 = d := S_get s _ hl 1 hl2 d rfl
    have hz : (2 : Int) ≤ (s.size : Int) := by simp at hls; omega
    have hz2 : ¬ (s.size : Int) < 2 := by omega
    by_cases hc : c = 92
    · subst hc
      by_cases hd : d = 120
      · subst hd
        match r, hl, hls with
        | [], hl, hls =>
          have hz4 : ¬ (4 : Int) ≤ (s.size : Int) := by simp at hls; omega
          have hR := Lib.hid (show unV (unescM [92, 120]) = .tuple #[.int .u8 120, .int .i64 2] from rfl)
          clear hl hls
          go_enter Tryz.func164, Tryz.ntmps164
          go_wp2_with fail
          go_ret2
          exact ⟨by rw [hR.out]; rfl, Below.refl _ _⟩
        | [a], hl, hls =>
          have hz4 : ¬ (4 : Int) ≤ (s.size : Int) := by simp at hls; omega
          have hR := Lib.hid (show unV (unescM [92, 120, a]) = .tuple #[.int .u8 120, .int .i64 2] from rfl)
          clear hl hls
          go_enter Tryz.func164, Tryz.ntmps164
          go_wp2_with fail
          go_ret2
          exact ⟨by rw [hR.out]; rfl, Below.refl _ _⟩
        | a :: b :: r, hl, hls =>
          have hz4 : (4 : Int) ≤ (s.size : Int) := by simp at hls; omega
          have hex : s.extract 2 4 = S [a, b] := by rw [S_extract, hl]; rfl
          cases hp : hexP a b with
          | none =>
            have hR := Lib.hid (show unV (unescM (92 :: 120 :: a :: b :: r)) = .tuple #[.int .u8 120, .int .i64 2] by rw [unescM_nohex a b r hp]; rfl)
            have HP := Lib.hid (parse16_none a b hp w he)
            clear hl hls hp
            go_enter Tryz.func164, Tryz.ntmps164
            go_wp2_with fail
            refine HP.out.mono ?_
            rintro e w1 ⟨⟨t1, p1, rfl⟩, b1⟩
            have B1 := Lib.hid b1
            clear b1
            go_wp2_with fail
            go_ret2
            exact ⟨by rw [hR.out]; rfl, B1.out⟩
          | some n =>
            have hn := hexP_lt hp
            have hn8 : (n : Int) < 256 := by omega
            have hR := Lib.hid (show unV (unescM (92 :: 120 :: a :: b :: r)) = .tuple #[.int .u8 (n : Int), .int .i64 4] by
              rw [unescM_hex a b r n hp]
              show Value.tuple #[.int .u8 (((UInt8.ofNat n).toNat : Nat) : Int), .int .i64 4] = _
              rw [UInt8.toNat_ofNat_of_lt' (by simpa using hn)])
            have HP := Lib.hid (parse16_some a b n hp w)
            clear hl hls hp hn
            go_enter Tryz.func164, Tryz.ntmps164
            go_wp2_with fail
            refine HP.out.mono ?_
            rintro e w1 ⟨rfl, b1⟩
            have B1 := Lib.hid b1
            clear b1
            go_wp2_with fail
            go_ret2
            exact ⟨by rw [hR.out]; rfl, B1.out⟩
      · have hdb : ((d.toNat : Int) == 120) = false := byte_ne d 120 hd
        have hR := Lib.hid (show unV (unescM (92 :: d :: r)) = .tuple #[.int .u8 (d.toNat : Int), .int .i64 2] by rw [unescM_two d r hd]; rfl)
        clear hl hls hd
        go_enter Tryz.func164, Tryz.ntmps164
        go_wp2_with fail
        go_ret2
        exact ⟨by rw [hR.out]; rfl, Below.refl _ _⟩
    · have hcb : ((c.toNat : Int) == 92) = false := byte_ne c 92 hc
      have hcn : ((c.toNat : Int) != 92) = true := by simp only [bne, hcb, Bool.not_false]
      have hR := Lib.hid (show unV (unescM (c :: d :: r)) = .tuple #[.int .u8 (c.toNat : Int), .int .i64 1] by rw [unescM_plain c _ hc]; rfl)
      clear hl hls hc
      go_enter Tryz.func164, Tryz.ntmps164
      go_wp2_with fail
      go_ret2
      exact ⟨by rw [hR.out]; rfl, Below.refl _ _⟩
end Go.Proofs.YtlmmfhbdebfgkaaGreatDoor.Lx
