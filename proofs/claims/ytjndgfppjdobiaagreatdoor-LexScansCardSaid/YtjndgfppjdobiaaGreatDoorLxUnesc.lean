/-
  A byte behind a backslash, or one that stands for itself: the program's reader of it.
-/
import Derived.Test.YtjndgfppjdobiaaGreatDoorLxUint
namespace Go.Proofs.YtjndgfppjdobiaaGreatDoor.Lx
open Go.RowKit
open Va

set_option linter.unusedSimpArgs false
set_option maxRecDepth 100000 in
set_option maxHeartbeats 1600000 in
theorem parse16_some (a b : UInt8) (n : Nat) (h : hexP a b = some n) (w : World) :
    Calls Tryz.prog 73 #[.string (S [a, b]), .int .i64 16, .int .i64 8] w fun e w' => e = .returned (.tuple #[.int .u64 (n : Int), .nilIface]) ∧ Below w.heap.size w w' := by
  have HI := Lib.hid (inner_any a b)
  rw [h] at HI
  generalize S [a, b] = t at *
  clear h
  go_enter Tryz.func73, Tryz.ntmps73
  go_wp2_with fail
  refine (HI.out _).mono ?_
  rintro e w1 ⟨rfl, b1⟩
  have B1 := Lib.hid b1
  clear b1
  unfold puV
  go_wp2_with fail
  go_ret2
  exact ⟨rfl, B1.out⟩
set_option linter.unusedSimpArgs false
set_option maxRecDepth 100000 in
set_option maxHeartbeats 1600000 in
theorem parse16_none (a b : UInt8) (h : hexP a b = none) (w : World) (he : ErrAt w 4) :
    Calls Tryz.prog 73 #[.string (S [a, b]), .int .i64 16, .int .i64 8] w fun e w' => (∃ t p, e = .returned (.tuple #[.int .u64 0, .iface t (.pointer (some p))])) ∧ Below w.heap.size w w' := by
  have HI := Lib.hid (inner_any a b)
  rw [h] at HI
  have hz : (S [a, b]).size = 2 := rfl
  have HE := Lib.hid (fun (wr : World) (hb : Below w.heap.size w wr) => he.below hb)
  have HT := Lib.hid (fun (wr : World) (hb : Below w.heap.size w wr) => show Calls Tryz.prog 52 #[.string ⟨#[80, 97, 114, 115, 101, 85, 105, 110, 116]⟩, .string (S [a, b]), .int .i64 16, .int .i64 8, .iface 95 (.int .i64 2)] wr fun e w' => (∃ t p, e = .returned (.iface t (.pointer (some p)))) ∧ Below wr.heap.size wr w' from by
    obtain ⟨ev, h1, h2, _⟩ := he.below hb
    refine (Tryz.strconv_toError_syntax _ (S [a, b]) 16 8 ev wr (by rw [hz]; omega) h1 h2).mono ?_
    rintro e w' ⟨N, rfl, _, _, hb⟩
    exact ⟨⟨_, _, rfl⟩, hb⟩)
  generalize S [a, b] = t at *
  clear h he hz
  go_enter Tryz.func73, Tryz.ntmps73
  go_wp2_with fail
  refine (HI.out _).mono ?_
  rintro e w1 ⟨rfl, b1⟩
  have B1 := Lib.hid b1
  clear b1
  unfold puV
  go_wp2_with fail
  refine (HT.out _ B1.out).mono ?_
  rintro e w2 ⟨⟨t2, p2, rfl⟩, b2⟩
  have B2 := Lib.hid b2
  clear b2
  go_wp2_with fail
  go_ret2
  exact ⟨⟨_, _, rfl⟩, two B1.out B2.out⟩

theorem byte_ne (c d : UInt8) (h : c ≠ d) : ((c.toNat : Int) == (d.toNat : Int)) = false := by
  rw [beq_eq_false_iff_ne]
  intro e
  exact h (UInt8.toNat_inj.1 (by omega))
theorem S_get (s : ByteArray) (l : List UInt8) (h : s.data.toList = l) (k : Nat) (hk : k < s.size) (c : UInt8) (hc : l[k]? = some c) : s[k] = c := by
  have := getElem_list s k hk
  rw [← this, h]
  simp [List.getD, hc]
/-- What the reader returns. -/
def unV (x : UInt8 × Nat) : Value := .tuple #[.int .u8 (x.1.toNat : Int), .int .i64 (x.2 : Int)]

set_option linter.unusedSimpArgs false
set_option maxRecDepth 100000 in
set_option maxHeartbeats 3200000 in
theorem unescape_any (s : ByteArray) (hs : s.size ≤ 100000) (hs1 : 1 ≤ s.size) (w : World) (he : ErrAt w 4) :
    Calls Tryz.prog 53 #[.string s] w fun e w' => e = .returned (unV (unescM s.data.toList)) ∧ Below w.heap.size w w' := by
  have hls := list_size s
  obtain ⟨l, hl⟩ : ∃ l, s.data.toList = l := ⟨_, rfl⟩
  rw [hl] at hls ⊢
  have hsi : (1 : Int) ≤ (s.size : Int) := by omega
  match l, hl, hls with
  | [], _, hls => simp at hls; omega
  | [c], hl, hls =>
    have h0 : s[0] = c := S_get s _ hl 0 (by omega) c rfl
    have hz : s.size = 1 := by simpa using hls.symm
    clear hl hls
    by_cases hc : c = 92
    · subst hc
      have hR := Lib.hid (show unV (unescM [92]) = .tuple #[.int .u8 92, .int .i64 1] from rfl)
      go_enter Tryz.func53, Tryz.ntmps53
      go_wp2_with fail
      go_ret2
      exact ⟨by rw [hR.out]; rfl, Below.refl _ _⟩
    · have hcb : ((c.toNat : Int) == 92) = false := byte_ne c 92 hc
      have hcn : ((c.toNat : Int) != 92) = true := by simp only [bne, hcb, Bool.not_false]
      have hR := Lib.hid (show unV (unescM [c]) = .tuple #[.int .u8 (c.toNat : Int), .int .i64 1] from rfl)
      clear hc
      go_enter Tryz.func53, Tryz.ntmps53
      go_wp2_with fail
      go_ret2
      exact ⟨by rw [hR.out]; rfl, Below.refl _ _⟩
  | c :: d :: r, hl, hls =>
    have h0 : s[0] = c := S_get s _ hl 0 (by omega) c rfl
    have hl2 : 2 ≤ s.size := by simp at hls; omega
    have h1 : s[1]'hl2 = d := S_get s _ hl 1 hl2 d rfl
    have hz : (2 : Int) ≤ (s.size : Int) := by simp at hls; omega
    have hz2 : ¬ (s.size : Int) < 2 := by omega
    by_cases hc : c = 92
    · subst hc
      by_cases hd : d = 120
      · subst hd
        match r, hl, hls with
        | [], hl, hls =>
          have hz4 : ¬ (4 : Int) ≤ (s.size : Int) := by simp at hls; omega
          have hR := Lib.hid (show unV (unescM [92, 120]) = .tuple #[.int .u8 120, .int .i64 2] from rfl)
          clear hl hls
          go_enter Tryz.func53, Tryz.ntmps53
          go_wp2_with fail
          go_ret2
          exact ⟨by rw [hR.out]; rfl, Below.refl _ _⟩
        | [a], hl, hls =>
          have hz4 : ¬ (4 : Int) ≤ (s.size : Int) := by simp at hls; omega
          have hR := Lib.hid (show unV (unescM [92, 120, a]) = .tuple #[.int .u8 120, .int .i64 2] from rfl)
          clear hl hls
          go_enter Tryz.func53, Tryz.ntmps53
          go_wp2_with fail
          go_ret2
          exact ⟨by rw [hR.out]; rfl, Below.refl _ _⟩
        | a :: b :: r, hl, hls =>
          have hz4 : (4 : Int) ≤ (s.size : Int) := by simp at hls; omega
          have hex : s.extract 2 4 = S [a, b] := by rw [S_extract, hl]; rfl
          cases hp : hexP a b with
          | none =>
            have hR := Lib.hid (show unV (unescM (92 :: 120 :: a :: b :: r)) = .tuple #[.int .u8 120, .int .i64 2] by rw [unescM_nohex a b r hp]; rfl)
            have HP := Lib.hid (parse16_none a b hp w he)
            clear hl hls hp
            go_enter Tryz.func53, Tryz.ntmps53
            go_wp2_with fail
            refine HP.out.mono ?_
            rintro e w1 ⟨⟨t1, p1, rfl⟩, b1⟩
            have B1 := Lib.hid b1
            clear b1
            go_wp2_with fail
            go_ret2
            exact ⟨by rw [hR.out]; rfl, B1.out⟩
          | some n =>
            have hn := hexP_lt hp
            have hn8 : (n : Int) < 256 := by omega
            have hR := Lib.hid (show unV (unescM (92 :: 120 :: a :: b :: r)) = .tuple #[.int .u8 (n : Int), .int .i64 4] by
              rw [unescM_hex a b r n hp]
              show Value.tuple #[.int .u8 (((UInt8.ofNat n).toNat : Nat) : Int), .int .i64 4] = _
              rw [UInt8.toNat_ofNat_of_lt' (by simpa using hn)])
            have HP := Lib.hid (parse16_some a b n hp w)
            clear hl hls hp hn
            go_enter Tryz.func53, Tryz.ntmps53
            go_wp2_with fail
            refine HP.out.mono ?_
            rintro e w1 ⟨rfl, b1⟩
            have B1 := Lib.hid b1
            clear b1
            go_wp2_with fail
            go_ret2
            exact ⟨by rw [hR.out]; rfl, B1.out⟩
      · have hdb : ((d.toNat : Int) == 120) = false := byte_ne d 120 hd
        have hR := Lib.hid (show unV (unescM (92 :: d :: r)) = .tuple #[.int .u8 (d.toNat : Int), .int .i64 2] by rw [unescM_two d r hd]; rfl)
        clear hl hls hd
        go_enter Tryz.func53, Tryz.ntmps53
        go_wp2_with fail
        go_ret2
        exact ⟨by rw [hR.out]; rfl, Below.refl _ _⟩
    · have hcb : ((c.toNat : Int) == 92) = false := byte_ne c 92 hc
      have hcn : ((c.toNat : Int) != 92) = true := by simp only [bne, hcb, Bool.not_false]
      have hR := Lib.hid (show unV (unescM (c :: d :: r)) = .tuple #[.int .u8 (c.toNat : Int), .int .i64 1] by rw [unescM_plain c _ hc]; rfl)
      clear hl hls hc
      go_enter Tryz.func53, Tryz.ntmps53
      go_wp2_with fail
      go_ret2
      exact ⟨by rw [hR.out]; rfl, Below.refl _ _⟩

end Go.Proofs.YtjndgfppjdobiaaGreatDoor.Lx
