/-
  LxBlk, LxRun.
-/
import Derived.Test.YtlmmfhbdebfgkaaGreatDoorWLxTokQ
import Derived.Test.YtlmmfhbdebfgkaaGreatDoorWVlNameQ
import Derived.Test.YtlmmfhbdebfgkaaGreatDoorWTyNodeQ
set_option linter.unusedVariables false
set_option linter.unusedSimpArgs false
set_option maxRecDepth 100000
set_option maxHeartbeats 1600000
namespace Go.Proofs.YtlmmfhbdebfgkaaGreatDoor.Lx
open Va
def aft : List UInt8 → List UInt8
  | [] => []
  | c :: r => if c = 10 then r else aft r
theorem aft_le : ∀ l, (aft l).length ≤ l.length - 1
  | [] => by simp [aft]
  | c :: r => by
    unfold aft
    have := aft_le r
    split <;> simp; omega
def trimW (l : List UInt8) : List UInt8 := l.dropWhile whiteB
theorem trimW_le (l : List UInt8) : (trimW l).length ≤ l.length := (List.dropWhile_sublist _).length_le
theorem blk_trim : ∀ l, blk false l = (l.length - (trimW l).length) + blk false (trimW l)
  | [] => by simp [blk, trimW]
  | c :: r => by
    unfold trimW
    rw [List.dropWhile_cons]
    by_cases h : whiteB c = true
    · rw [if_pos h, blk_f, if_pos h, blk_trim r]
      have := trimW_le r
      unfold trimW at this ⊢
      simp only [List.length_cons]
      omega
    · rw [if_neg h]; simp
theorem blk_aft : ∀ l, blk true l = (l.length - (aft l).length) + blk false (aft l)
  | [] => by simp [blk, aft]
  | c :: r => by
    rw [blk_t]
    unfold aft
    by_cases h : c = 10
    · rw [if_pos h, if_pos h]; simp only [List.length_cons]; omega
    · rw [if_neg h, if_neg h, blk_aft r]
      have := aft_le r
      simp only [List.length_cons]
      omega
theorem trimW_head (l : List UInt8) : ∀ c r, trimW l = c :: r → whiteB c = false := by
  intro c r h
  unfold trimW at h
  induction l with
  | nil => simp at h
  | cons d l ih =>
    rw [List.dropWhile_cons] at h
    by_cases hd : whiteB d = true
    · rw [if_pos hd] at h; exact ih h
    · rw [if_neg hd] at h; cases h; simpa using hd
def comB (l : List UInt8) : Bool := [47, 47].isPrefixOf l
theorem blk_com (l : List UInt8) (h : comB l = true) : blk false l = (l.length - (aft l).length) + blk false (aft l) ∧ (aft l).length + 2 ≤ l.length := by
  match l, h with
  | [], h => simp [comB, List.isPrefixOf] at h
  | [_], h => simp [comB, List.isPrefixOf] at h
  | c :: d :: r, h =>
    have h' : c = 47 ∧ d = 47 := by
      simp [comB, List.isPrefixOf] at h; exact ⟨h.1.symm, h.2.symm⟩
    obtain ⟨rfl, rfl⟩ := h'
    have h1 := aft_le r
    have e1 : aft (47 :: 47 :: r) = aft r := rfl
    rw [blk_f, if_neg (by decide), if_pos ⟨rfl, rfl⟩, blk_t, if_neg (by decide), blk_aft r, e1]
    simp only [List.length_cons]
    omega
theorem blk_none (l : List UInt8) (h : comB (trimW l) = false) : blk false (trimW l) = 0 := by
  cases e : trimW l with
  | nil => rfl
  | cons c r =>
    have hw := trimW_head l c r e
    rw [blk_f, if_neg (by rw [hw]; decide), if_neg]
    rintro ⟨rfl, h2⟩
    rw [e] at h
    cases r with
    | nil => simp at h2
    | cons d s =>
      have : d = 47 := by simpa using h2
      subst this
      simp [comB, List.isPrefixOf] at h
theorem blk_round (s l : List UInt8) (hl : l.length ≤ s.length) (h : blk false s = (s.length - l.length) + blk false l) (hc : comB (trimW l) = true) :
    (aft (trimW l)).length ≤ s.length ∧ blk false s = (s.length - (aft (trimW l)).length) + blk false (aft (trimW l)) ∧ (aft (trimW l)).length < l.length := by
  have h1 := trimW_le l
  obtain ⟨h2, h3⟩ := blk_com _ hc
  have h4 := blk_trim l
  omega
theorem blk_done (s l : List UInt8) (hl : l.length ≤ s.length) (h : blk false s = (s.length - l.length) + blk false l) (hc : comB (trimW l) = false) :
    blk false s = s.length - (trimW l).length := by
  have h1 := trimW_le l
  have h2 := blk_none l hc
  have h4 := blk_trim l
  omega
end Go.Proofs.YtlmmfhbdebfgkaaGreatDoor.Lx
namespace Go.Proofs.YtlmmfhbdebfgkaaGreatDoor.Lx
open Go.RowKit
open Va
theorem lxLetter_any (c : Int) (w : World) : Calls Tryz.prog 71 #[.int .i32 c] w fun e w' => e = .returned (.bool (letR c)) ∧ w = w' := by
  by_cases h1 : 65 ≤ c
  · by_cases h2 : c ≤ 90
    · have HR := Lib.hid (show true = letR c by unfold letR; simp [h1, h2])
      go_enter Tryz.func71, Tryz.ntmps71
      go_wp2_with fail
      go_ret
      exact ⟨ret_b HR.out, rfl⟩
    · by_cases h3 : 97 ≤ c
      · by_cases h4 : c ≤ 122
        · have HR := Lib.hid (show true = letR c by unfold letR; simp [h3, h4])
          go_enter Tryz.func71, Tryz.ntmps71
          go_wp2_with fail
          go_ret
          exact ⟨ret_b HR.out, rfl⟩
        · have HR := Lib.hid (show false = letR c by unfold letR; simp [h2, h4])
          go_enter Tryz.func71, Tryz.ntmps71
          go_wp2_with fail
          go_ret
          exact ⟨ret_b HR.out, rfl⟩
      · have HR := Lib.hid (show false = letR c by unfold letR; simp [h2, h3])
        go_enter Tryz.func71, Tryz.ntmps71
        go_wp2_with fail
        go_ret
        exact ⟨ret_b HR.out, rfl⟩
  · have h3 : ¬ 97 ≤ c := by omega
    have HR := Lib.hid (show false = letR c by unfold letR; simp [h1, h3])
    go_enter Tryz.func71, Tryz.ntmps71
    go_wp2_with fail
    go_ret
    exact ⟨ret_b HR.out, rfl⟩
theorem lxDigit_any (c : Int) (w : World) : Calls Tryz.prog 73 #[.int .i32 c] w fun e w' => e = .returned (.bool (digR c)) ∧ w = w' := by
  by_cases h1 : 48 ≤ c
  · by_cases h2 : c ≤ 57
    · have HR := Lib.hid (show true = digR c by unfold digR; simp [h1, h2])
      go_enter Tryz.func73, Tryz.ntmps73
      go_wp2_with fail
      go_ret
      exact ⟨ret_b HR.out, rfl⟩
    · have HR := Lib.hid (show false = digR c by unfold digR; simp [h2])
      go_enter Tryz.func73, Tryz.ntmps73
      go_wp2_with fail
      go_ret
      exact ⟨ret_b HR.out, rfl⟩
  · have HR := Lib.hid (show false = digR c by unfold digR; simp [h1])
    go_enter Tryz.func73, Tryz.ntmps73
    go_wp2_with fail
    go_ret
    exact ⟨ret_b HR.out, rfl⟩
def wordR (c : Int) : Bool := letR c || (digR c || c == 95)
theorem wordR_byte (c : UInt8) : (letB c || (digB c || c == 95)) = wordB c := by unfold wordB; rw [Bool.or_assoc]
theorem inName_any (c : Int) (w : World) : Calls Tryz.prog 124 #[.int .i32 c] w fun e w' => e = .returned (.bool (wordR c)) ∧ w = w' := by
  have HL := Lib.hid (lxLetter_any c)
  have HD := Lib.hid (lxDigit_any c)
  cases hl : letR c with
  | true =>
    have HR := Lib.hid (show true = wordR c by unfold wordR; rw [hl]; rfl)
    rw [hl] at HL
    clear hl
    go_enter Tryz.func124, Tryz.ntmps124
    go_wp2_with fail
    refine (HL.out _).mono ?_
    rintro e w' ⟨rfl, rfl⟩
    go_wp2_with fail
    go_ret
    exact ⟨ret_b HR.out, rfl⟩
  | false =>
    rw [hl] at HL
    cases hd : digR c with
    | true =>
      have HR := Lib.hid (show true = wordR c by unfold wordR; rw [hl, hd]; rfl)
      rw [hd] at HD
      clear hl hd
      go_enter Tryz.func124, Tryz.ntmps124
      go_wp2_with fail
      refine (HL.out _).mono ?_
      rintro e w' ⟨rfl, rfl⟩
      go_wp2_with fail
      refine (HD.out _).mono ?_
      rintro e w' ⟨rfl, rfl⟩
      go_wp2_with fail
      go_ret
      exact ⟨ret_b HR.out, rfl⟩
    | false =>
      have HR := Lib.hid (show (c == 95) = wordR c by unfold wordR; rw [hl, hd]; rfl)
      rw [hd] at HD
      clear hl hd
      go_enter Tryz.func124, Tryz.ntmps124
      go_wp2_with fail
      refine (HL.out _).mono ?_
      rintro e w' ⟨rfl, rfl⟩
      go_wp2_with fail
      refine (HD.out _).mono ?_
      rintro e w' ⟨rfl, rfl⟩
      go_wp2_with fail
      go_ret
      exact ⟨ret_b HR.out, rfl⟩
theorem tw_at (p : UInt8 → Bool) (l : List UInt8) (k : Nat) (hk : k < l.length) (h : (l.take k).all p = true) (h2 : p l[k] = false) : (l.takeWhile p).length = k := by
  have e : l = l.take k ++ l[k] :: l.drop (k + 1) := by
    rw [← List.drop_eq_getElem_cons hk, List.take_append_drop]
  conv => lhs; rw [e]
  rw [List.takeWhile_append_of_pos (fun a ha => List.all_eq_true.1 h a ha), List.takeWhile_cons, h2]
  simp; omega
theorem tw_all (p : UInt8 → Bool) (l : List UInt8) (h : l.all p = true) : (l.takeWhile p).length = l.length := by
  have := List.takeWhile_append_of_pos (p := p) (l₁ := l) (l₂ := []) (fun a ha => List.all_eq_true.1 h a ha)
  rw [List.append_nil, List.takeWhile_nil, List.append_nil] at this
  rw [this]
theorem rune_word (s : ByteArray) (pos : Nat) (h : pos < s.size) : wordR (runeB s pos) = wordB s[pos] := by
  obtain ⟨r1, r2, r3⟩ := rune_let s pos h
  unfold wordR
  rw [r1, r2, r3, wordR_byte]
theorem rune_dig (s : ByteArray) (pos : Nat) (h : pos < s.size) : digR (runeB s pos) = digB s[pos] := (rune_let s pos h).2.1
theorem runWord_any (s : ByteArray) (hs : s.size ≤ 100000) (w : World) :
    Calls Tryz.prog 123 #[.string s, .func (.func 124) #[] #[]] w fun e w' => e = .returned (.int .i64 ((s.data.toList.takeWhile wordB).length : Int)) ∧ Below w.heap.size w w' := by
  have HF := Lib.hid inName_any
  have hls := list_size s
  have HLS := Lib.hid hls
  clear hls
  go_enter Tryz.func123, Tryz.ntmps123
  go_wp2_with fail
  go_loopw [] (fun wr => ∃ pos : Nat, wr.heap[w.heap.size]? = some (.stringIter s pos) ∧ Below w.heap.size w wr ∧ pos ≤ s.size ∧ Hid ((s.data.toList.take pos).all wordB = true)) (fun wr => s.size - wr.iterPos w.heap.size)
  case atStart => exact ⟨0, World.iter_heap w s 0, (Below.refl _ _).alloc (Nat.le_refl _) _, by omega, Lib.hid (by simp)⟩
  case round =>
    obtain ⟨pos, hit, hbw, hps, HK⟩ := hrel
    have HBW := Lib.hid hbw
    clear hbw
    by_cases hp : pos < s.size
    · have hnx : ∀ ty, (Instr.next (.pointer (some ⟨w.heap.size, 0, none⟩)) true ty).run Tryz.prog wr = _ := fun ty => Lib.run_next_any_at wr w.heap.size s pos ty hit hp
      have hit2 := Lib.iterAt_heap wr w.heap.size s pos (pos + (Utf8.decode s pos).2) hit
      have hbw2 := Lib.below_iterAt HBW.out (k := w.heap.size) (Nat.le_refl _) s (pos + (Utf8.decode s pos).2)
      have hm : wr.iterPos w.heap.size = pos := by simp [World.iterPos, hit]
      have HM := Lib.hid hm
      have hb := rune_word s pos hp
      have hrn : ((Utf8.decode s pos).1 : Int) = runeB s pos := rfl
      rw [hrn] at hnx
      have hlow : wordB s[pos] = true → (Utf8.decode s pos).2 = 1 := fun h => (rune_low s pos hp (letB_low (by first | exact .inr (.inl h) | simpa [wordB, digB, or_assoc] using h))).2
      have hall : (s.data.toList.take (pos + 1)).all wordB = wordB s[pos] := by
        rw [List.take_succ_eq_append_getElem (by rw [HLS.out]; exact hp), List.all_append, HK.out]
        simp only [List.all_cons, List.all_nil, Bool.and_true, Bool.true_and]; rfl
      have htw : wordB s[pos] = false → (s.data.toList.takeWhile wordB).length = pos := fun h => tw_at wordB _ pos (by rw [HLS.out]; exact hp) HK.out (by exact h)
      have HIT := Lib.hid hit2
      have HB2 := Lib.hid hbw2
      have HLOW := Lib.hid hlow
      have HALL := Lib.hid hall
      have HTW := Lib.hid htw
      have HC := Lib.hid (HF.out (runeB s pos))
      have HBY := Lib.hid hb
      clear hit hit2 hbw2 hm hb hrn hlow hall htw
      generalize hW1 : wr.iterAt w.heap.size s (pos + (Utf8.decode s pos).2) = W1 at *
      clear hW1
      generalize runeB s pos = rn at *
      cases hpb : wordB s[pos] with
      | true =>
        have hc := HC.out
        rw [HBY.out, hpb] at hc
        have HC2 := Lib.hid hc
        have HP := Lib.hid hpb
        clear hc hpb
        go_wp2_with fail
        refine (HC2.out _).mono ?_
        rintro e w' ⟨rfl, rfl⟩
        go_wp2_with fail
        go_roundw
        case rel =>
          have e1 := HLOW.out HP.out
          exact ⟨pos + 1, by rw [← e1]; exact HIT.out, HB2.out, by omega, Lib.hid (by rw [HALL.out, HP.out])⟩
        case measure =>
          have e1 := HLOW.out HP.out
          have e2 : W1.iterPos w.heap.size = pos + 1 := by rw [← e1]; simp [World.iterPos, HIT.out]
          rw [e2, HM.out]; omega
      | false =>
        have hc := HC.out
        rw [HBY.out, hpb] at hc
        have HC2 := Lib.hid hc
        have HR := Lib.hid (show (pos : Int) = ((s.data.toList.takeWhile wordB).length : Int) by rw [HTW.out hpb])
        clear hc hpb
        go_wp2_with fail
        refine (HC2.out _).mono ?_
        rintro e w' ⟨rfl, rfl⟩
        go_wp2_with fail
        go_ret
        exact ⟨ret_i HR.out, HB2.out⟩
    · obtain rfl : pos = s.size := by omega
      have hnx : ∀ ty, (Instr.next (.pointer (some ⟨w.heap.size, 0, none⟩)) true ty).run Tryz.prog wr = _ := fun ty => Lib.run_next_end_at wr w.heap.size s s.size ty hit hp
      have HR := Lib.hid (show (s.size : Int) = ((s.data.toList.takeWhile wordB).length : Int) by
        have h1 := HK.out
        rw [List.take_of_length_le (by rw [HLS.out]; exact Nat.le_refl _)] at h1
        rw [tw_all wordB _ h1, HLS.out])
      clear hit
      go_wp2_with fail
      go_ret
      exact ⟨ret_i HR.out, HBW.out⟩
theorem runDig_any (s : ByteArray) (hs : s.size ≤ 100000) (w : World) :
    Calls Tryz.prog 123 #[.string s, .func (.func 73) #[] #[]] w fun e w' => e = .returned (.int .i64 ((s.data.toList.takeWhile digB).length : Int)) ∧ Below w.heap.size w w' := by
  have HF := Lib.hid lxDigit_any
  have hls := list_size s
  have HLS := Lib.hid hls
  clear hls
  go_enter Tryz.func123, Tryz.ntmps123
  go_wp2_with fail
  go_loopw [] (fun wr => ∃ pos : Nat, wr.heap[w.heap.size]? = some (.stringIter s pos) ∧ Below w.heap.size w wr ∧ pos ≤ s.size ∧ Hid ((s.data.toList.take pos).all digB = true)) (fun wr => s.size - wr.iterPos w.heap.size)
  case atStart => exact ⟨0, World.iter_heap w s 0, (Below.refl _ _).alloc (Nat.le_refl _) _, by omega, Lib.hid (by simp)⟩
  case round =>
    obtain ⟨pos, hit, hbw, hps, HK⟩ := hrel
    have HBW := Lib.hid hbw
    clear hbw
    by_cases hp : pos < s.size
    · have hnx : ∀ ty, (Instr.next (.pointer (some ⟨w.heap.size, 0, none⟩)) true ty).run Tryz.prog wr = _ := fun ty => Lib.run_next_any_at wr w.heap.size s pos ty hit hp
      have hit2 := Lib.iterAt_heap wr w.heap.size s pos (pos + (Utf8.decode s pos).2) hit
      have hbw2 := Lib.below_iterAt HBW.out (k := w.heap.size) (Nat.le_refl _) s (pos + (Utf8.decode s pos).2)
      have hm : wr.iterPos w.heap.size = pos := by simp [World.iterPos, hit]
      have HM := Lib.hid hm
      have hb := rune_dig s pos hp
      have hrn : ((Utf8.decode s pos).1 : Int) = runeB s pos := rfl
      rw [hrn] at hnx
      have hlow : digB s[pos] = true → (Utf8.decode s pos).2 = 1 := fun h => (rune_low s pos hp (letB_low (by first | exact .inr (.inl h) | simpa [wordB, digB, or_assoc] using h))).2
      have hall : (s.data.toList.take (pos + 1)).all digB = digB s[pos] := by
        rw [List.take_succ_eq_append_getElem (by rw [HLS.out]; exact hp), List.all_append, HK.out]
        simp only [List.all_cons, List.all_nil, Bool.and_true, Bool.true_and]; rfl
      have htw : digB s[pos] = false → (s.data.toList.takeWhile digB).length = pos := fun h => tw_at digB _ pos (by rw [HLS.out]; exact hp) HK.out (by exact h)
      have HIT := Lib.hid hit2
      have HB2 := Lib.hid hbw2
      have HLOW := Lib.hid hlow
      have HALL := Lib.hid hall
      have HTW := Lib.hid htw
      have HC := Lib.hid (HF.out (runeB s pos))
      have HBY := Lib.hid hb
      clear hit hit2 hbw2 hm hb hrn hlow hall htw
      generalize hW1 : wr.iterAt w.heap.size s (pos + (Utf8.decode s pos).2) = W1 at *
      clear hW1
      generalize runeB s pos = rn at *
      cases hpb : digB s[pos] with
      | true =>
        have hc := HC.out
        rw [HBY.out, hpb] at hc
        have HC2 := Lib.hid hc
        have HP := Lib.hid hpb
        clear hc hpb
        go_wp2_with fail
        refine (HC2.out _).mono ?_
        rintro e w' ⟨rfl, rfl⟩
        go_wp2_with fail
        go_roundw
        case rel =>
          have e1 := HLOW.out HP.out
          exact ⟨pos + 1, by rw [← e1]; exact HIT.out, HB2.out, by omega, Lib.hid (by rw [HALL.out, HP.out])⟩
        case measure =>
          have e1 := HLOW.out HP.out
          have e2 : W1.iterPos w.heap.size = pos + 1 := by rw [← e1]; simp [World.iterPos, HIT.out]
          rw [e2, HM.out]; omega
      | false =>
        have hc := HC.out
        rw [HBY.out, hpb] at hc
        have HC2 := Lib.hid hc
        have HR := Lib.hid (show (pos : Int) = ((s.data.toList.takeWhile digB).length : Int) by rw [HTW.out hpb])
        clear hc hpb
        go_wp2_with fail
        refine (HC2.out _).mono ?_
        rintro e w' ⟨rfl, rfl⟩
        go_wp2_with fail
        go_ret
        exact ⟨ret_i HR.out, HB2.out⟩
    · obtain rfl : pos = s.size := by omega
      have hnx : ∀ ty, (Instr.next (.pointer (some ⟨w.heap.size, 0, none⟩)) true ty).run Tryz.prog wr = _ := fun ty => Lib.run_next_end_at wr w.heap.size s s.size ty hit hp
      have HR := Lib.hid (show (s.size : Int) = ((s.data.toList.takeWhile digB).length : Int) by
        have h1 := HK.out
        rw [List.take_of_length_le (by rw [HLS.out]; exact Nat.le_refl _)] at h1
        rw [tw_all digB _ h1, HLS.out])
      clear hit
      go_wp2_with fail
      go_ret
      exact ⟨ret_i HR.out, HBW.out⟩
end Go.Proofs.YtlmmfhbdebfgkaaGreatDoor.Lx
