/-
  VaPrintB, VaRows, EvIdx, VlApp.
-/
import Derived.Test.YtlmmfhbdebfgkaaGreatDoorVVaOrdQ
import Derived.Test.YtlmmfhbdebfgkaaGreatDoorVVaRightQ
import Derived.Test.YtlmmfhbdebfgkaaGreatDoorVExResQ
import Derived.Laws.AppendOwn
set_option linter.unusedVariables false
set_option linter.unusedSimpArgs false
set_option maxRecDepth 100000
set_option maxHeartbeats 4000000
namespace Go.Proofs.YtlmmfhbdebfgkaaGreatDoor.Va
open Go.RowKit
theorem decZ_len (n : Int) (h1 : -9223372036854775808 ≤ n) (h2 : n ≤ 9223372036854775807) : (decZ n).length ≤ 20 := by
  unfold decZ
  split
  · rw [List.length_cons]; have := digs_len19 n.natAbs (by omega); omega
  · have := digs_len19 n.toNat (by omega); omega
theorem numsT_snoc : ∀ (l : List Int) (n : Int), numsT (l ++ [n]) = if l = [] then decZ n else numsT l ++ 44 :: 32 :: decZ n
  | [], n => rfl
  | [m], n => rfl
  | m :: m2 :: r, n => by
    have ih := numsT_snoc (m2 :: r) n
    rw [if_neg (by simp)] at ih ⊢
    show decZ m ++ 44 :: 32 :: numsT ((m2 :: r) ++ [n]) = _
    rw [ih]
    show _ = (decZ m ++ 44 :: 32 :: numsT (m2 :: r)) ++ 44 :: 32 :: decZ n
    simp
theorem numsT_len (l : List Int) (h : ∀ n ∈ l, -9223372036854775808 ≤ n ∧ n ≤ 9223372036854775807) : (numsT l).length ≤ 22 * l.length := by
  induction l with
  | nil => simp [numsT]
  | cons n r ih =>
    have h1 := decZ_len n (h n (by simp)).1 (h n (by simp)).2
    have h2 := ih (fun m hm => h m (by simp [hm]))
    cases r with
    | nil => show (decZ n).length ≤ _; simp; omega
    | cons m r =>
      show (decZ n ++ 44 :: 32 :: numsT (m :: r)).length ≤ _
      simp only [List.length_append, List.length_cons] at h2 ⊢
      omega
structure VIn (v : V) : Prop where
  num : -9223372036854775808 ≤ v.num ∧ v.num ≤ 9223372036854775807
  text : v.text.length ≤ 100000
  list : v.list.length ≤ 1000
  nums : ∀ n ∈ v.list, -9223372036854775808 ≤ n ∧ n ≤ 9223372036854775807
theorem refPrint_list (n : Int) (t : List UInt8) (l : List Int) (hl : l.length ≤ 1000) (hn : ∀ n ∈ l, -9223372036854775808 ≤ n ∧ n ≤ 9223372036854775807) (a : Option Addr) (cap : Nat) (w : World) (hx : NumsAt w a l) :
    Calls Tryz.prog 101 #[valC ⟨5, n, t, l⟩ a cap] w fun e w' => e = .returned (.string (S (91 :: (numsT l ++ [93])))) ∧ Below w.heap.size w w' := by
  have HX := Lib.hid hx
  have HN := Lib.hid hn
  have HB0 := Lib.hid ((Below.refl w.heap.size w).alloc (Nat.le_refl _) (.cells #[.int .i64 5, .int .i64 n, .string (S t), .slice a l.length cap] 52))
  unfold valC
  simp only
  clear hx hn
  go_enter Tryz.func101, Tryz.ntmps101
  go_wp2_with fail
  go_loopw [6, 93] (fun s i wr => ∃ k : Nat, k ≤ l.length ∧ i = .int .i64 k ∧ s = .string (S (91 :: numsT (l.take k))) ∧ Below w.heap.size w wr) (fun _ i _ => l.length - (intOf i).toNat)
  case atStart => exact ⟨0, by omega, rfl, rfl, HB0.out⟩
  case round =>
    obtain ⟨k, hk, rfl, rfl, hb⟩ := hrel
    have HB := Lib.hid hb
    have hln := numsT_len (l.take k) (fun m hm => HN.out m (List.mem_of_mem_take hm))
    rw [List.length_take] at hln
    have hsz : (S (91 :: numsT (l.take k))).size ≤ 22001 := by rw [S_size, List.length_cons]; omega
    clear hb hln
    by_cases hlt : k < l.length
    · obtain ⟨g, off, rfl, hc, hgl⟩ := HX.out k hlt
      have r1 := (HB.out.cell (p := ⟨g, off + k, none⟩) hgl).trans hc
      have hm := HN.out (l.getD k 0) (by simp [List.getD, hlt])
      have hts : l.take (k + 1) = l.take k ++ [l.getD k 0] := by
        rw [List.take_succ_eq_append_getElem hlt]; simp [List.getD, hlt]
      have hsn := numsT_snoc (l.take k) (l.getD k 0)
      rw [← hts] at hsn
      have hdl := decZ_len _ hm.1 hm.2
      have hdec := fun w => dec_any (l.getD k 0) w hm.1 hm.2
      have HDEC := Lib.hid hdec
      have hki : (k : Int) < (l.length : Int) := by omega
      have hds : (S (decZ (l.getD k 0))).size ≤ 20 := by rw [S_size]; exact hdl
      have hS1 : S (decZ (l.getD k 0)) = S (decZ (l.getD k 0)) := rfl
      by_cases hk0 : k = 0
      · subst hk0
        rw [List.take_zero, if_pos rfl] at hsn
        have hres : S (91 :: numsT (l.take 0)) ++ S (decZ (l.getD 0 0)) = S (91 :: numsT (l.take (0 + 1))) := by
          rw [S_append, hsn]; rfl
        have hadd : ∀ w, (Op.stringOp .add (S (91 :: numsT (l.take 0))) (S (decZ (l.getD 0 0)))).run Tryz.prog w = .ok (.string (S (91 :: numsT (l.take (0 + 1))))) w := fun w => by
          rw [run_string_add_sum w _ _ (by omega), hres]
        have HADD := Lib.hid hadd
        clear hres hts hsn hdl hdec hm hS1 hc hadd
        generalize S (decZ (l.getD 0 0)) = d at *
        generalize S (91 :: numsT (l.take 0)) = s0 at *
        generalize hs1 : S (91 :: numsT (l.take (0 + 1))) = s1 at *
        have HS1 := Lib.hid hs1
        rw [Nat.add_zero] at r1
        clear hs1
        generalize l.getD 0 0 = u at *
        have hadd := HADD.out
        go_wp2_with fail
        refine (HDEC.out _).mono ?_
        rintro e w1 ⟨rfl, b1⟩
        have HB1 := Lib.hid (HB.out.trans (b1.mono HB.out.size))
        clear b1
        go_wp2_with fail
        go_roundw
        case rel => exact ⟨0 + 1, by omega, by go_num, by rw [HS1.out], HB1.out⟩
        case measure => simp [intOf]; omega
      · rw [if_neg (fun e => by have h7 : (l.take k).length = k := by { rw [List.length_take]; omega }
                                rw [e] at h7; exact hk0 h7.symm)] at hsn
        have hres1 : S (91 :: numsT (l.take k)) ++ (⟨#[44, 32]⟩ : ByteArray) = S (91 :: numsT (l.take k) ++ [44, 32]) := by
          show _ ++ S [44, 32] = _
          rw [S_append]
        have hsz2 : (S (91 :: numsT (l.take k) ++ [44, 32])).size ≤ 22003 := by
          rw [S_size] at hsz ⊢; rw [List.length_append]; simp only [List.length_cons, List.length_nil] at hsz ⊢; omega
        have hres2 : S (91 :: numsT (l.take k) ++ [44, 32]) ++ S (decZ (l.getD k 0)) = S (91 :: numsT (l.take (k + 1))) := by
          rw [S_append, hsn]; simp
        have hadd1 : ∀ w, (Op.stringOp .add (S (91 :: numsT (l.take k))) ⟨#[44, 32]⟩).run Tryz.prog w = .ok (.string (S (91 :: numsT (l.take k) ++ [44, 32]))) w := fun w => by
          rw [run_string_add_sum w _ _ (by have : (⟨#[44, 32]⟩ : ByteArray).size = 2 := rfl; omega), hres1]
        have hadd2 : ∀ w, (Op.stringOp .add (S (91 :: numsT (l.take k) ++ [44, 32])) (S (decZ (l.getD k 0)))).run Tryz.prog w = .ok (.string (S (91 :: numsT (l.take (k + 1))))) w := fun w => by
          rw [run_string_add_sum w _ _ (by omega), hres2]
        have hk1 : 0 < k := by omega
        clear hres1 hres2 hts hsn hdl hdec hm hS1 hc hk0
        generalize S (91 :: numsT (l.take k) ++ [44, 32]) = sm at *
        generalize S (decZ (l.getD k 0)) = d at *
        generalize S (91 :: numsT (l.take k)) = s0 at *
        generalize hs1 : S (91 :: numsT (l.take (k + 1))) = s1 at *
        have HS1 := Lib.hid hs1
        clear hs1
        generalize l.getD k 0 = u at *
        go_wp2_with fail
        refine (HDEC.out _).mono ?_
        rintro e w1 ⟨rfl, b1⟩
        have HB1 := Lib.hid (HB.out.trans (b1.mono HB.out.size))
        clear b1
        go_wp2_with fail
        go_roundw
        case rel => exact ⟨k + 1, by omega, by go_num, by rw [HS1.out], HB1.out⟩
        case measure => simp [intOf]; omega
    · obtain rfl : k = l.length := by omega
      rw [List.take_length] at hsz ⊢
      have hres : S (91 :: numsT l) ++ (⟨#[93]⟩ : ByteArray) = S (91 :: (numsT l ++ [93])) := by
        show _ ++ S [93] = _
        rw [S_append]; rfl
      have hadd : ∀ w, (Op.stringOp .add (S (91 :: numsT l)) ⟨#[93]⟩).run Tryz.prog w = .ok (.string (S (91 :: (numsT l ++ [93])))) w := fun w => by
        rw [run_string_add_sum w _ _ (by have : (⟨#[93]⟩ : ByteArray).size = 1 := rfl; omega), hres]
      clear hres
      go_wp2_with fail
      go_ret
      exact ⟨ret_s rfl, HB.out⟩
theorem refPrint_any (v : V) (ok : VIn v) (hr : rightB v = true) (a : Option Addr) (cap : Nat) (w : World) (hx : NumsAt w a v.list) :
    Calls Tryz.prog 101 #[valC v a cap] w fun e w' => e = .returned (.string (S (printV v))) ∧ Below w.heap.size w w' := by
  have hc := right_cases hr
  obtain ⟨k, n, t, l⟩ := v
  have h1 := ok.num
  have h2 := ok.text
  have h3 := ok.list
  have h4 := ok.nums
  simp only at h1 h2 h3 h4 hc hx
  clear ok hr
  rcases hc with ⟨rfl, rfl, rfl, rfl⟩ | ⟨rfl, rfl, rfl⟩ | ⟨rfl, hn, rfl, rfl⟩ | ⟨rfl, rfl, rfl⟩ | ⟨rfl, rfl, hnm, rfl⟩ | ⟨rfl, rfl, rfl⟩
  · clear h1 h2 h3 h4 hx
    unfold valC
    simp only
    go_enter Tryz.func101, Tryz.ntmps101
    go_wp2_with fail
    go_ret
    exact ⟨ret_s rfl, (Below.refl _ _).alloc (Nat.le_refl _) _⟩
  · have hd := fun w => dec_any n w h1.1 h1.2
    have HD := Lib.hid hd
    clear h1 h2 h3 h4 hx hd
    unfold valC
    simp only
    go_enter Tryz.func101, Tryz.ntmps101
    go_wp2_with fail
    refine (HD.out _).mono ?_
    rintro e w1 ⟨rfl, b1⟩
    have HB1 := Lib.hid (((Below.refl w.heap.size w).alloc (Nat.le_refl _) (.cells #[.int .i64 1, .int .i64 n, .string (S []), .slice a 0 cap] 52)).trans (b1.mono (by simp)))
    clear b1
    go_wp2_with fail
    go_ret
    exact ⟨ret_s rfl, HB1.out⟩
  · clear h1 h2 h3 h4 hx
    rcases hn with rfl | rfl
    all_goals
      unfold valC
      simp only
      go_enter Tryz.func101, Tryz.ntmps101
      go_wp2_with fail
      go_ret
      exact ⟨ret_s rfl, (Below.refl _ _).alloc (Nat.le_refl _) _⟩
  · exact refPrint_text 0 t [] h2 a cap w
  · have hres : (⟨#[39]⟩ : ByteArray) ++ S t = S (39 :: t) := by
      show S [39] ++ _ = _
      rw [S_append]; rfl
    have hts : (S t).size = t.length := S_size t
    have hadd : ∀ w, (Op.stringOp .add ⟨#[39]⟩ (S t)).run Tryz.prog w = .ok (.string (S (39 :: t))) w := fun w => by
      rw [run_string_add_sum w _ _ (by have : (⟨#[39]⟩ : ByteArray).size = 1 := rfl; omega), hres]
    clear h1 h2 h3 h4 hx hnm hres hts
    unfold valC
    simp only
    go_enter Tryz.func101, Tryz.ntmps101
    go_wp2_with fail
    go_ret
    exact ⟨ret_s rfl, (Below.refl _ _).alloc (Nat.le_refl _) _⟩
  · exact refPrint_list 0 [] l h3 h4 a cap w hx
end Go.Proofs.YtlmmfhbdebfgkaaGreatDoor.Va
namespace Go.Proofs.YtlmmfhbdebfgkaaGreatDoor.Va
open Go.RowKit
def ValAt (w : World) (b o : Nat) (v : V) : Prop := ∃ a cap, w.cell? ⟨b, o, none⟩ = some (.int .i64 v.kind) ∧ w.cell? ⟨b, o + 1, none⟩ = some (.int .i64 v.num) ∧ w.cell? ⟨b, o + 2, none⟩ = some (.string (S v.text)) ∧
  w.cell? ⟨b, o + 3, none⟩ = some (.slice a v.list.length cap) ∧ NumsAt w a v.list
def ValsAt (w : World) (a : Option Addr) (vs : List V) : Prop := ∀ i, (h : i < vs.length) → ∃ b off, a = some ⟨b, off, none⟩ ∧ ValAt w b (off + i * 4) vs[i] ∧ b < w.heap.size
theorem ValAt.below {w w' : World} {b o : Nat} {v : V} (h : ValAt w b o v) (hl : b < w.heap.size) (k : Below w.heap.size w w') : ValAt w' b o v := by
  obtain ⟨a, cap, h0, h1, h2, h3, h4⟩ := h
  exact ⟨a, cap, (k.cell (p := ⟨b, o, none⟩) hl).trans h0, (k.cell (p := ⟨b, o + 1, none⟩) hl).trans h1, (k.cell (p := ⟨b, o + 2, none⟩) hl).trans h2, (k.cell (p := ⟨b, o + 3, none⟩) hl).trans h3, h4.below k⟩
theorem ValsAt.below {w w' : World} {a : Option Addr} {vs : List V} (h : ValsAt w a vs) (k : Below w.heap.size w w') : ValsAt w' a vs := fun i hi => by
  obtain ⟨b, off, e, hv, hl⟩ := h i hi
  exact ⟨b, off, e, hv.below hl k, Nat.lt_of_lt_of_le hl k.size⟩
end Go.Proofs.YtlmmfhbdebfgkaaGreatDoor.Va
namespace Go.Proofs.YtlmmfhbdebfgkaaGreatDoor.Ev
open Go.RowKit
open Ex Lx Va Ty
theorem zcell (w : World) (o : Obj) (b j : Nat) (h : b < w.heap.size) : (w.alloc o).cell? ⟨b, j, none⟩ = w.cell? ⟨b, j, none⟩ := Kept.cell (Kept.alloc (ok := fun _ => True) w o) trivial h
theorem attr_clos (x : AttrP)  (key : List UInt8) (B : Nat) (w : World) (hB : w.cell? ⟨B, 0, none⟩ = some (.string (S key))) (hlt : B < w.heap.size) :
    Calls Tryz.prog 89 #[.agg #[.string (S x.name), .int .i64 x.kind, .string (S x.enum)], .pointer (some ⟨B, 0, none⟩)] w fun e w' => e = .returned (.bool (x.name == key)) ∧ Below w.heap.size w w' := by
  have zb := fun o => zcell w o B 0 hlt
  have HBE := Lib.hid ((Below.refl w.heap.size w).alloc (Nat.le_refl _) (.cells #[.string (S x.name), .int .i64 x.kind, .string (S x.enum)] 49))
  go_enter Tryz.func89, Tryz.ntmps89
  go_wp2_with fail
  go_ret
  exact ⟨by first | rfl | (rw [Ty.S_beq]; rfl), HBE.out⟩
theorem attr_idx (l : List AttrP) (key : List UInt8) (p : Option Addr) (c B : Nat) (w : World) (hl : AttrsAt w p l) (hlen : l.length ≤ 281474976710656) (hB : w.cell? ⟨B, 0, none⟩ = some (.string (S key))) (hBl : B < w.heap.size) :
    Calls Tryz.prog 88 #[.slice p l.length c, .func (.func 89) #[] #[.pointer (some ⟨B, 0, none⟩)]] w fun e w' => e = .returned (.int .i64 (fstIdx (fun x => x.name == key) l)) ∧ Below w.heap.size w w' := by
  have hki : (l.length : Int) ≤ 281474976710656 := by omega
  have HL := Lib.hid hl
  have HB := Lib.hid hB
  clear hl hB
  go_enter Tryz.func88, Tryz.ntmps88
  go_wp2_with fail
  go_loopw [5, 8] (fun _ iv wr => ∃ k : Nat, k ≤ l.length ∧ iv = .int .i64 k ∧ Below w.heap.size w wr ∧ ∀ j, (h : j < l.length) → j < k → (fun x : AttrP => x.name == key) l[j] = false) (fun _ iv _ => l.length - (intOf iv).toNat)
  case atStart => exact ⟨0, Nat.zero_le _, rfl, Below.refl _ _, fun j _ h => absurd h (Nat.not_lt_zero _)⟩
  case round =>
    obtain ⟨k, hk, rfl, bw, hA⟩ := hrel
    have BW := Lib.hid bw
    have A := Lib.hid hA
    clear bw hA
    by_cases hlt : k < l.length
    · have hlti : (k : Int) < (l.length : Int) := by omega
      obtain ⟨b, o, rfl, hb, f0, f1, f2⟩ := (HL.out.later BW.out) k hlt
      have hBw : wr.cell? ⟨B, 0, none⟩ = some (.string (S key)) := (BW.out.cell (p := ⟨B, 0, none⟩) hBl).trans HB.out
      obtain ⟨y, hy⟩ : ∃ y, y = l[k] := ⟨_, rfl⟩
      rw [← hy] at f0 f1 f2
      have HC := Lib.hid (attr_clos y  key B wr hBw (Nat.lt_of_lt_of_le hBl BW.out.size))
      have HY := Lib.hid hy
      clear hy hBw
      cases hp : (fun x : AttrP => x.name == key) y with
      | true =>
        simp only at hp
        rw [hp] at HC
        have HP := Lib.hid hp
        clear hp
        go_wp2_with fail
        refine HC.out.mono ?_
        rintro e w1 ⟨rfl, b1⟩
        have B1 := Lib.hid (BW.out.trans (b1.mono BW.out.size))
        clear b1
        go_wp2_with fail
        go_ret
        refine ⟨?_, B1.out⟩
        rw [fst_hit (fun x : AttrP => x.name == key) l k hlt (fun j hj => A.out j (by omega) hj) (by rw [← HY.out]; exact HP.out)]
        rfl
      | false =>
        simp only at hp
        rw [hp] at HC
        have HP := Lib.hid hp
        clear hp
        go_wp2_with fail
        refine HC.out.mono ?_
        rintro e w1 ⟨rfl, b1⟩
        have B1 := Lib.hid (BW.out.trans (b1.mono BW.out.size))
        clear b1
        go_wp2_with fail
        go_roundw
        case rel => exact ⟨k + 1, by omega, by go_num, B1.out, fun j hj hjk => by
          by_cases e : j = k
          · subst e; rw [← HY.out]; exact HP.out
          · exact A.out j hj (by omega)⟩
        case measure => simp [intOf]; omega
    · have hlti : ¬ (k : Int) < (l.length : Int) := by omega
      go_wp2_with fail
      go_ret
      refine ⟨?_, BW.out⟩
      rw [fst_miss (fun x : AttrP => x.name == key) l (fun j hj => A.out j hj (by omega))]
      rfl
-- the mathematics of the walk
theorem namedV_idx : ∀ (l : List AttrP) (vs : List V) (n : List UInt8), (fstIdx (fun x => x.name == n) l = -1 ∧ namedV l vs n = (zeroV, 22)) ∨ ∃ k : Nat, fstIdx (fun x => x.name == n) l = (k : Int) ∧ namedV l vs n = (match vs[k]? with
    | some v => if v.kind = 0 then (zeroV, 22) else (v, 0)
    | none => (zeroV, 22))
  | [], _, _ => .inl ⟨rfl, rfl⟩
  | e :: r, vs, n => by
    have e1 : fstIdx (fun x : AttrP => x.name == n) (e :: r) = (if (e.name == n) = true then 0 else if fstIdx (fun x : AttrP => x.name == n) r < 0 then -1 else fstIdx (fun x : AttrP => x.name == n) r + 1) := rfl
    rw [e1]
    unfold namedV
    by_cases hn : e.name = n
    · rw [if_pos hn, if_pos (by simpa using hn)]
      refine .inr ⟨0, rfl, ?_⟩
      cases vs with
      | nil => rfl
      | cons v s => rfl
    · rw [if_neg hn, if_neg (by simpa using hn)]
      rcases namedV_idx r vs.tail n with ⟨h1, h2⟩ | ⟨k, h1, h2⟩
      · rw [h1]; exact .inl ⟨rfl, h2⟩
      · rw [h1]
        refine .inr ⟨k + 1, ?_, ?_⟩
        · rw [if_neg (by omega)]; omega
        · rw [h2]
          cases vs with
          | nil => rfl
          | cons v s => rfl
end Go.Proofs.YtlmmfhbdebfgkaaGreatDoor.Ev
namespace Go.Proofs.YtlmmfhbdebfgkaaGreatDoor.Va
open Go.RowKit
theorem info64 : (Tryz.prog.info? 2).map (fun i => (i.zero, i.size, i.bytes)) = some (some (.int .i64 0), 1, 8) := by kernel_rfl
def i64C (l : List Int) : List Value := l.map fun n => .int .i64 n
theorem i64C_length (l : List Int) : (i64C l).length = l.length := by simp [i64C]
theorem i64C_append (a b : List Int) : i64C (a ++ b) = i64C a ++ i64C b := by simp [i64C]
theorem app_nil (B : Nat) (v : Value) (m : Nat) (xs : List Value) (w : World) (hown : w.ownsRow B 2 1 v m xs) (c : Nat) :
    (Builtin.append_ #[50, 50] 50 #[v, .slice none 0 c]).run Tryz.prog w = .ok v w := by
  obtain ⟨i0, hi, hz0, hz1, hz2⟩ := info_parts info64
  have hu := run_underlying (P := Tryz.prog) (w := w) Tryz.underlying50
  rcases hown.2 with ⟨rfl, rfl⟩ | ⟨g, cap, cur, rfl, _, hg, hnc, _⟩
  · simp [Builtin.append_, hu, sizeOf, typeInfo, hi, Builtin.lenOf, Builtin.firstCells]
  · simp [Builtin.append_, hu, sizeOf, typeInfo, hi, Builtin.lenOf, hnc, Builtin.firstCells, storeCells]
theorem app_nums (B : Nat) (v : Value) (m : Nat) (xs : List Value) (w : World) (hown : w.ownsRow B 2 1 v m xs) (l : List Int) (a : Option Addr) (c : Nat) (hl : NumsAt w a l) (hm : m + l.length ≤ 1000000) (hB : B ≤ w.heap.size) :
    ∃ v' w', (Builtin.append_ #[50, 50] 50 #[v, .slice a l.length c]).run Tryz.prog w = .ok v' w' ∧ w'.ownsRow B 2 1 v' (m + l.length) (xs ++ i64C l) ∧ w.grownBy w' v.ownBlock := by
  cases a with
  | none =>
    have hl0 : l = [] := by
      cases l with
      | nil => rfl
      | cons x r => obtain ⟨_, _, e, _⟩ := hl 0 (by simp); cases e
    subst hl0
    exact ⟨v, w, app_nil B v m xs w hown c, by simpa [i64C] using hown, World.grownBy.refl w _⟩
  | some p =>
    obtain ⟨i0, hi, hz0, hz1, hz2⟩ := info_parts info64
    have hnews : ∀ j u, (i64C l)[j]? = some u → w.cell? (p.add j) = some u := by
      intro j u hu
      have hj : j < l.length := by
        have := (List.getElem?_eq_some_iff.1 hu).1
        simpa [i64C] using this
      obtain ⟨b, off, e, hc, _⟩ := hl j hj
      obtain rfl := Option.some.inj e
      rw [Addr.add_lit, hc]
      simp [i64C, hj] at hu
      simp [List.getD, hj, hu]
    have h1 : ∀ u ∈ i64C l, u.oneCell' = true := by
      intro u hu
      simp only [i64C, List.mem_map] at hu
      obtain ⟨n, _, rfl⟩ := hu
      rfl
    obtain ⟨v', w', hr, h2, h3, _⟩ := run_append_own (P := Tryz.prog) w B 50 50 2 i0 (.int .i64 0) 1 8 Tryz.underlying50 hi hz0 hz1 hz2 rfl (by decide) v m xs hown p l.length c (i64C l) (by rw [i64C_length]; omega) hnews h1 (by unfold maxLen; omega) (by omega) hB
    exact ⟨v', w', hr, h2, h3⟩
theorem owned_nums {w : World} {B n : Nat} {v : Value} {l : List Int} (h : w.ownsRow B 2 1 v n (i64C l)) (hn : n = l.length) : ∃ a c, v = .slice a l.length c ∧ NumsAt w a l := by
  subst hn
  rcases h.2 with ⟨rfl, h0⟩ | ⟨g, cap, cur, rfl, _, hg, _⟩
  · have : l = [] := List.length_eq_zero_iff.1 h0
    subst this
    exact ⟨none, 0, rfl, fun i hi => absurd hi (by simp)⟩
  · refine ⟨some ⟨g, 0, none⟩, cap, rfl, fun i hi => ⟨g, 0, rfl, ?_, lt_of_heapV hg⟩⟩
    have := h.cellAt i (by omega)
    rw [Nat.zero_add, this]
    simp [i64C, List.getD, hi]
end Go.Proofs.YtlmmfhbdebfgkaaGreatDoor.Va
