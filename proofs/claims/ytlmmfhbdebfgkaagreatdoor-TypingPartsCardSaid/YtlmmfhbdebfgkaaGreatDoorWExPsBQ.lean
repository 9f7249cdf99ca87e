/-
  ExPsB, ExPsC.
-/
import Derived.Test.YtlmmfhbdebfgkaaGreatDoorWTyPartsQ
set_option linter.unusedVariables false
set_option linter.unusedSimpArgs false
set_option maxRecDepth 100000
set_option maxHeartbeats 8000000
namespace Go.Proofs.YtlmmfhbdebfgkaaGreatDoor.Ex
open Go.RowKit
open Lx Va
section
variable (b g cap a : Nat) (n o : Int) (ts : List TA)
theorem ppass_ok (s : ByteArray) (w : World) (h : Psr w b g cap ts.length a n o) (ht : TsAt w g ts) (ha : a < ts.length) (hn : ts.length ≤ 8001) (hk : TokS (tk ts a)) (hs : isS ts a s.data.toList = true) :
    Calls Tryz.prog 233 #[.pointer (some ⟨b, 0, none⟩), .string s] w fun e w' => e = .returned (.tuple #[]) ∧ Only b w w' ∧ Psr w' b g cap ts.length ((a : Int) + 1) n o := by
  have HI := Lib.hid (pis_any b g cap a n o ts s w h ht ha hn hk)
  rw [hs] at HI
  have H := Lib.hid h
  have hai : (a : Int) < 8001 := by omega
  clear h ht hk ha hs hn
  go_enter Tryz.func233, Tryz.ntmps233
  go_wp2_with fail
  refine HI.out.mono ?_
  rintro e w1 ⟨rfl, b1⟩
  have h1 := H.out.below b1
  have c1 := h1.c1
  have fz := h1.fz
  have HO := Lib.hid ((Only.of_below (b := b) b1).set' 1 (.int .i64 ((a : Int) + 1)))
  have HP := Lib.hid (h1.set1 ((a : Int) + 1))
  clear b1 h1
  go_wp2_with fail
  go_end0
  exact ⟨rfl, HO.out, HP.out⟩
theorem ppass_bad (s : ByteArray) (w : World) (h : Psr w b g cap ts.length a n o) (ht : TsAt w g ts) (ha : a < ts.length) (hn : ts.length ≤ 8001) (hk : TokS (tk ts a)) (hs : isS ts a s.data.toList = false) :
    Calls Tryz.prog 233 #[.pointer (some ⟨b, 0, none⟩), .string s] w fun e w' => e = panS a 25 ∧ Below w.heap.size w w' := by
  have HI := Lib.hid (pis_any b g cap a n o ts s w h ht ha hn hk)
  rw [hs] at HI
  have H := Lib.hid h
  clear h ht hk ha hs hn
  go_enter Tryz.func233, Tryz.ntmps233
  go_wp2_with fail
  refine HI.out.mono ?_
  rintro e w1 ⟨rfl, b1⟩
  have HW := Lib.hid (pwrong_any b g cap ts.length a n o 25 w1 (H.out.below b1))
  have HB := Lib.hid b1
  clear b1
  go_wp2_with fail
  refine HW.out.mono ?_
  rintro e w2 ⟨rfl, b2⟩
  have HB2 := Lib.hid (HB.out.trans (b2.mono HB.out.size))
  clear b2
  go_wp2_with fail
  exact ⟨rfl, rfl, HB2.out⟩
theorem pproduce_ok (m : Nat) (len : Nat) (w : World) (h : Psr w b g cap len a m o) (hm : m < 200) :
    Calls Tryz.prog 80 #[.pointer (some ⟨b, 0, none⟩)] w fun e w' => e = .returned (.tuple #[]) ∧ Only b w w' ∧ Psr w' b g cap len a ((m : Int) + 1) o := by
  have c2 := h.c2
  have fz := h.fz
  have e1 : ((m : Int) == 200) = false := by rw [beq_eq_false_iff_ne]; omega
  have hmi : (m : Int) < 200 := by omega
  have HO := Lib.hid (Only.set b w 2 (.int .i64 ((m : Int) + 1)))
  have HP := Lib.hid (h.set2 ((m : Int) + 1))
  clear h hm
  go_enter Tryz.func80, Tryz.ntmps80
  go_wp2_with fail
  go_end0
  exact ⟨rfl, HO.out, HP.out⟩
theorem pproduce_bad (len : Nat) (w : World) (h : Psr w b g cap len a 200 o) :
    Calls Tryz.prog 80 #[.pointer (some ⟨b, 0, none⟩)] w fun e w' => e = panS a 27 ∧ Below w.heap.size w w' := by
  have c2 := h.c2
  have HW := Lib.hid (pwrong_any b g cap len a 200 o 27 w h)
  clear h
  go_enter Tryz.func80, Tryz.ntmps80
  go_wp2_with fail
  refine HW.out.mono ?_
  rintro e w2 ⟨rfl, b2⟩
  have HB2 := Lib.hid b2
  clear b2
  go_wp2_with fail
  exact ⟨rfl, rfl, HB2.out⟩
theorem penter_ok (m : Nat) (len : Nat) (w : World) (h : Psr w b g cap len a n m) (hm : m < 20) :
    Calls Tryz.prog 129 #[.pointer (some ⟨b, 0, none⟩)] w fun e w' => e = .returned (.tuple #[]) ∧ Only b w w' ∧ Psr w' b g cap len a n ((m : Int) + 1) := by
  have c3 := h.c3
  have fz := h.fz
  have e1 : ((m : Int) == 20) = false := by rw [beq_eq_false_iff_ne]; omega
  have hmi : (m : Int) < 20 := by omega
  have HO := Lib.hid (Only.set b w 3 (.int .i64 ((m : Int) + 1)))
  have HP := Lib.hid (h.set3 ((m : Int) + 1))
  clear h hm
  go_enter Tryz.func129, Tryz.ntmps129
  go_wp2_with fail
  go_end0
  exact ⟨rfl, HO.out, HP.out⟩
theorem penter_bad (len : Nat) (w : World) (h : Psr w b g cap len a n 20) :
    Calls Tryz.prog 129 #[.pointer (some ⟨b, 0, none⟩)] w fun e w' => e = panS a 26 ∧ Below w.heap.size w w' := by
  have c3 := h.c3
  have HW := Lib.hid (pwrong_any b g cap len a n 20 26 w h)
  clear h
  go_enter Tryz.func129, Tryz.ntmps129
  go_wp2_with fail
  refine HW.out.mono ?_
  rintro e w2 ⟨rfl, b2⟩
  have HB2 := Lib.hid b2
  clear b2
  go_wp2_with fail
  exact ⟨rfl, rfl, HB2.out⟩
theorem pleave_ok (m : Nat) (s : ByteArray) (w : World) (h : Psr w b g cap ts.length a n m) (ht : TsAt w g ts) (ha : a < ts.length) (hn : ts.length ≤ 8001) (hk : TokS (tk ts a)) (hm : 1 ≤ m) (hm2 : m ≤ 20) (hs : isS ts a s.data.toList = true) :
    Calls Tryz.prog 208 #[.pointer (some ⟨b, 0, none⟩), .string s] w fun e w' => e = .returned (.tuple #[]) ∧ Only b w w' ∧ Psr w' b g cap ts.length ((a : Int) + 1) n ((m - 1 : Nat) : Int) := by
  have HI := Lib.hid (ppass_ok b g cap a n m ts s w h ht ha hn hk hs)
  have e1 : ((m - 1 : Nat) : Int) = (m : Int) - 1 := by omega
  rw [e1]
  have hmi : 1 ≤ (m : Int) := by omega
  have hmj : (m : Int) ≤ 20 := by omega
  clear h ht hk ha hs hn hm hm2 e1
  go_enter Tryz.func208, Tryz.ntmps208
  go_wp2_with fail
  refine HI.out.mono ?_
  rintro e w1 ⟨rfl, o1, h1⟩
  have c3 := h1.c3
  have fz := h1.fz
  have HO := Lib.hid (o1.set' 3 (.int .i64 ((m : Int) - 1)))
  have HP := Lib.hid (h1.set3 ((m : Int) - 1))
  clear o1 h1
  go_wp2_with fail
  go_end0
  exact ⟨rfl, HO.out, HP.out⟩
theorem pleave_bad (s : ByteArray) (w : World) (h : Psr w b g cap ts.length a n o) (ht : TsAt w g ts) (ha : a < ts.length) (hn : ts.length ≤ 8001) (hk : TokS (tk ts a)) (hs : isS ts a s.data.toList = false) :
    Calls Tryz.prog 208 #[.pointer (some ⟨b, 0, none⟩), .string s] w fun e w' => e = panS a 25 ∧ Below w.heap.size w w' := by
  have HI := Lib.hid (ppass_bad b g cap a n o ts s w h ht ha hn hk hs)
  clear h ht hk ha hs hn
  go_enter Tryz.func208, Tryz.ntmps208
  go_wp2_with fail
  refine HI.out.mono ?_
  rintro e w1 ⟨rfl, b1⟩
  have HB2 := Lib.hid b1
  clear b1
  unfold panS
  go_wp2_with fail
  exact ⟨rfl, rfl, HB2.out⟩
end
def conW (lvl : Int) (wd : List UInt8) : Option Con := conL.find? fun c => c.level == lvl && c.word == wd
theorem constructAt_any (lvl : Int) (wd : List UInt8) (w : World) (hc : ConsAt w) :
    Calls Tryz.prog 131 #[.int .i64 lvl, .string (S wd)] w fun e w' => e = .returned (conV (conW lvl wd)) ∧ Below w.heap.size w w' := by
  have hb0 := (Below.refl w.heap.size w).alloc (Nat.le_refl _) (.cells #[.string ⟨#[]⟩, .int .i64 0, .int .i64 0, .int .i64 0, .bool false] 96)
  have HLD := Lib.hid (hc.keep (Kept.of_below (ok := fun _ => True) hb0) trivial).1
  have HSZ := Lib.hid (show (Tryz.prog.info? 135).map (·.size) = some conC.length by kernel_rfl)
  have HB0 := Lib.hid hb0
  have HX0 := Lib.hid (show Bc (w.alloc (.cells #[.string ⟨#[]⟩, .int .i64 0, .int .i64 0, .int .i64 0, .bool false] 96)) w.heap.size con0 from heap_alloc_new w _)
  have HIDX := Lib.hid con_idx
  have HFA := Lib.hid (fun k (hk : k < 18) h0 h => con_find (fun c => c.level == lvl && c.word == wd) k hk h0 h)
  have HFN := Lib.hid (con_none (fun c => c.level == lvl && c.word == wd))
  clear hb0 hc
  go_enter Tryz.func131, Tryz.ntmps131
  go_wp2_with (refine wpList_load_mid rfl 135 _ rfl 0 0 rfl conC _ HLD.out Tryz.underlying135 rfl HSZ.out ?_)
  go_loopw [9] (fun i wr => ∃ k : Nat, k ≤ 18 ∧ i = .int .i64 k ∧ Hid (∀ j, j < k → ((conAt j).level == lvl && (conAt j).word == wd) = false) ∧ Below w.heap.size w wr ∧ w.heap.size < wr.heap.size ∧ Bc wr w.heap.size con0) (fun i _ => 18 - (intOf i).toNat)
  case atStart => exact ⟨0, by omega, rfl, Lib.hid (fun j hj => absurd hj (by omega)), HB0.out, by simp, HX0.out⟩
  case round =>
    obtain ⟨k, hk, rfl, HN, hb, hsz, hx⟩ := hrel
    have HB := Lib.hid hb
    have HX := Lib.hid hx
    have hh := hx
    have f5 : ∀ j, wr.frozen? ⟨w.heap.size, j, none⟩ = false := fun j => frozen_of_row wr w.heap.size j _ _ hx
    have p0 : wr.cell? ⟨w.heap.size, 0, none⟩ = some (.string (S [])) := cell_of_row wr w.heap.size 0 _ _ (0, 0) hx
    have p1 : wr.cell? ⟨w.heap.size, 1, none⟩ = some (.int .i64 0) := cell_of_row wr w.heap.size 1 _ _ (0, 0) hx
    have p2 : wr.cell? ⟨w.heap.size, 2, none⟩ = some (.int .i64 0) := cell_of_row wr w.heap.size 2 _ _ (0, 0) hx
    have p3 : wr.cell? ⟨w.heap.size, 3, none⟩ = some (.int .i64 0) := cell_of_row wr w.heap.size 3 _ _ (0, 0) hx
    have p4 : wr.cell? ⟨w.heap.size, 4, none⟩ = some (.bool false) := cell_of_row wr w.heap.size 4 _ _ (0, 0) hx
    by_cases hlt : k < 18
    · have hki : (k : Int) < 18 := by omega
      have hidx := HIDX.out k hlt
      have HHIT := Lib.hid (HFA.out k hlt HN.out)
      have HST := Lib.hid (fun (e : ((conAt k).level == lvl && (conAt k).word == wd) = false) => show Hid (∀ j, j < k + 1 → ((conAt j).level == lvl && (conAt j).word == wd) = false) from Lib.hid (fun j hj => by
        by_cases ej : j = k
        · subst ej; exact e
        · exact HN.out j (by omega)))
      generalize conAt k = C at *
      obtain ⟨cw, co, cl, cn, ct⟩ := C
      simp only at hidx HHIT HST
      clear hb hx hh
      have e1 : ((S cw).toList == (S wd).toList) = (cw == wd) := by rw [ByteArray.toList_eq, ByteArray.toList_eq, S_toList, S_toList]
      by_cases hop : cl = lvl
      · subst hop
        cases hw : (cw == wd) with
        | true =>
          rw [hw] at e1
          have HR := Lib.hid (show conW cl wd = some ⟨cw, co, cl, cn, ct⟩ from HHIT.out (by simp [hw]))
          clear hw
          go_wp2_with fail
          refine bodyPost_ret (res_con rfl _ _ w.heap.size _ _ _ _ _ (.bool true) rfl (put5_at HX.out _ _ _ _ _ _ hsz) rfl) rfl ?_
          rw [HR.out]
          exact ⟨rfl, (put5_below HB.out _ _ _ _ _).alloc (by simp; omega) _⟩
        | false =>
          rw [hw] at e1
          have hn2 := HST.out (by simp [hw])
          clear hw
          go_wp2_with fail
          go_roundw
          case rel => exact ⟨k + 1, by omega, by go_num, hn2, HB.out.alloc (Nat.le_of_lt hsz) _, by simp; omega, (Kept.alloc (ok := fun _ => True) wr _).block _ trivial hsz |>.trans HX.out⟩
          case measure => simp [intOf]; omega
      · have hop2 : (cl == lvl) = false := by rw [beq_eq_false_iff_ne]; exact hop
        have hn2 := HST.out (by simp [hop2])
        clear e1
        go_wp2_with fail
        go_roundw
        case rel => exact ⟨k + 1, by omega, by go_num, hn2, HB.out.alloc (Nat.le_of_lt hsz) _, by simp; omega, (Kept.alloc (ok := fun _ => True) wr _).block _ trivial hsz |>.trans HX.out⟩
        case measure => simp [intOf]; omega
    · obtain rfl : k = 18 := by omega
      have HR := Lib.hid (show conW lvl wd = none from HFN.out HN.out)
      clear hb hx hh
      go_wp2_with fail
      refine bodyPost_ret (res_con rfl _ _ w.heap.size _ _ _ _ _ (.bool false) rfl (put5_here HX.out _ _ _ _ _) rfl) rfl ?_
      rw [HR.out]
      exact ⟨rfl, put5_below HB.out _ _ _ _ _⟩
end Go.Proofs.YtlmmfhbdebfgkaaGreatDoor.Ex
namespace Go.Proofs.YtlmmfhbdebfgkaaGreatDoor.Ex
open Go.RowKit
open Lx Va
def opA (lvl : Int) (t : TA) : Option Con := if t.kind = 5 then conW lvl t.text else none
def conOp (c : Con) : Int × Bool := (c.op, c.turned)
theorem opA_opAt (n : Nat) (hn : n ≤ 4) (t : TA) : (opA (n : Int) t).map conOp = opAt n t := by
  unfold opA opAt
  by_cases h5 : t.kind = 5
  · rw [if_pos h5, if_pos h5]
    have h : n = 0 ∨ n = 1 ∨ n = 2 ∨ n = 3 ∨ n = 4 := by omega
    generalize t.text = s
    have bq : ∀ l : List UInt8, s ≠ l → (l == s) = false := fun l h => by rw [beq_eq_false_iff_ne]; exact Ne.symm h
    rcases h with rfl | rfl | rfl | rfl | rfl
    · by_cases e1 : s = [124, 124]
      · subst e1; decide
      · simp [conW, conL, List.find?, opOf, e1, bq _ e1]
    · by_cases e1 : s = [38, 38]
      · subst e1; decide
      · simp [conW, conL, List.find?, opOf, e1, bq _ e1]
    · by_cases e1 : s = [61, 61]
      · subst e1; decide
      by_cases e2 : s = [33, 61]
      · subst e2; decide
      by_cases e3 : s = [60]
      · subst e3; decide
      by_cases e4 : s = [60, 61]
      · subst e4; decide
      by_cases e5 : s = [62]
      · subst e5; decide
      by_cases e6 : s = [62, 61]
      · subst e6; decide
      simp [conW, conL, List.find?, opOf, e1, e2, e3, e4, e5, e6, bq _ e1, bq _ e2, bq _ e3, bq _ e4, bq _ e5, bq _ e6]
    · by_cases e1 : s = [43]
      · subst e1; decide
      by_cases e2 : s = [45]
      · subst e2; decide
      simp [conW, conL, List.find?, opOf, e1, e2, bq _ e1, bq _ e2]
    · by_cases e1 : s = [42]
      · subst e1; decide
      by_cases e2 : s = [47]
      · subst e2; decide
      by_cases e3 : s = [37]
      · subst e3; decide
      simp [conW, conL, List.find?, opOf, e1, e2, e3, bq _ e1, bq _ e2, bq _ e3]
  · rw [if_neg h5, if_neg h5]; rfl
theorem opA_unAt (t : TA) : (opA 5 t).map (fun c => c.op) = unAt t := by
  unfold opA unAt
  by_cases h5 : t.kind = 5
  · rw [if_pos h5, if_pos h5]
    generalize t.text = s
    have bq : ∀ l : List UInt8, s ≠ l → (l == s) = false := fun l h => by rw [beq_eq_false_iff_ne]; exact Ne.symm h
    by_cases e1 : s = [33]
    · subst e1; decide
    by_cases e2 : s = [45]
    · subst e2; decide
    simp [conW, conL, List.find?, e1, e2, bq _ e1, bq _ e2]
  · rw [if_neg h5, if_neg h5]; rfl
theorem conW_fun (s : List UInt8) : conW 6 s = if s = wLen then some ⟨wLen, 12, 6, 1, false⟩ else if s = wAt then some ⟨wAt, 25, 6, 2, false⟩ else if s = wPush then some ⟨wPush, 26, 6, 2, false⟩ else none := by
  have bq : ∀ l : List UInt8, s ≠ l → (l == s) = false := fun l h => by rw [beq_eq_false_iff_ne]; exact Ne.symm h
  by_cases e1 : s = wLen
  · rw [if_pos e1, e1]; rfl
  by_cases e2 : s = wAt
  · rw [if_neg e1, if_pos e2, e2]; rfl
  by_cases e3 : s = wPush
  · rw [if_neg e1, if_neg e2, if_pos e3, e3]; rfl
  rw [if_neg e1, if_neg e2, if_neg e3]
  unfold wLen at e1
  unfold wAt at e2
  unfold wPush at e3
  simp [conW, conL, List.find?, bq _ e1, bq _ e2, bq _ e3]
theorem poperator_any (b g cap a : Nat) (n o lvl : Int) (ts : List TA) (w : World) (h : Psr w b g cap ts.length a n o) (ht : TsAt w g ts) (ha : a < ts.length) (hn : ts.length ≤ 8001) (hk : TokS (tk ts a)) (hC : ConsAt w) :
    Calls Tryz.prog 79 #[.pointer (some ⟨b, 0, none⟩), .int .i64 lvl] w fun e w' => e = .returned (conV (opA lvl (tk ts a))) ∧ Below w.heap.size w w' := by
  have hb0 := (Below.refl w.heap.size w).alloc (Nat.le_refl _) (.cells #[.string ⟨#[]⟩, .int .i64 0, .int .i64 0, .int .i64 0, .bool false] 96)
  have HX0 := Lib.hid (show Bc (w.alloc (.cells #[.string ⟨#[]⟩, .int .i64 0, .int .i64 0, .int .i64 0, .bool false] 96)) w.heap.size con0 from heap_alloc_new w _)
  have HH := Lib.hid (phere_any b g cap a n o ts _ (h.below hb0) (ht.below hb0) ha hn hk)
  have HC := Lib.hid (fun W (k : Below w.heap.size w W) => constructAt_any lvl (tk ts a).text W (hC.keep (Kept.of_below (ok := fun _ => True) k) trivial))
  have HB0 := Lib.hid hb0
  clear h ht hk ha hn hb0 hC
  unfold opA
  unfold tokC at *
  generalize tk ts a = t at *
  obtain ⟨k, x, m, q⟩ := t
  simp only at HH HC ⊢
  by_cases h5 : k = 5
  · subst h5
    rw [if_pos rfl]
    go_enter Tryz.func79, Tryz.ntmps79
    go_wp2_with fail
    refine HH.out.mono ?_
    rintro e w1 ⟨rfl, b1⟩
    have hx1 : Bc w1 w.heap.size con0 := (b1.block w.heap.size (Array.getElem?_eq_some_iff.1 HX0.out).1).trans HX0.out
    have b2 := (Below.refl w1.heap.size w1).alloc (Nat.le_refl _) (.cells #[.int .i64 5, .string (S x), .int .i64 m, .int .i64 (q : Int)] 79)
    have HX2 := Lib.hid (show Bc (w1.alloc (.cells #[.int .i64 5, .string (S x), .int .i64 m, .int .i64 (q : Int)] 79)) w.heap.size con0 from (b2.block w.heap.size (Array.getElem?_eq_some_iff.1 hx1).1).trans hx1)
    have HB2 := Lib.hid ((HB0.out.trans (b1.mono HB0.out.size)).trans (b2.mono (HB0.out.trans (b1.mono HB0.out.size)).size))
    have HC2 := Lib.hid (HC.out _ HB2.out)
    clear b1 b2 hx1 HH HC
    cases hw : conW lvl x with
    | none =>
      have HW := Lib.hid hw
      rw [hw] at HC2
      unfold conV at HC2
      go_wp2_with fail
      refine HC2.out.mono ?_
      rintro e w3 ⟨rfl, b3⟩
      have hx3 : Bc w3 w.heap.size con0 := (b3.block w.heap.size (Array.getElem?_eq_some_iff.1 HX2.out).1).trans HX2.out
      have HX3 := Lib.hid hx3
      have f5 : ∀ j, w3.frozen? ⟨w.heap.size, j, none⟩ = false := fun j => frozen_of_row w3 w.heap.size j _ _ hx3
      have p0 : w3.cell? ⟨w.heap.size, 0, none⟩ = some (.string (S [])) := cell_of_row w3 w.heap.size 0 _ _ (0, 0) hx3
      have p1 : w3.cell? ⟨w.heap.size, 1, none⟩ = some (.int .i64 0) := cell_of_row w3 w.heap.size 1 _ _ (0, 0) hx3
      have p2 : w3.cell? ⟨w.heap.size, 2, none⟩ = some (.int .i64 0) := cell_of_row w3 w.heap.size 2 _ _ (0, 0) hx3
      have p3 : w3.cell? ⟨w.heap.size, 3, none⟩ = some (.int .i64 0) := cell_of_row w3 w.heap.size 3 _ _ (0, 0) hx3
      have p4 : w3.cell? ⟨w.heap.size, 4, none⟩ = some (.bool false) := cell_of_row w3 w.heap.size 4 _ _ (0, 0) hx3
      have HB3 := Lib.hid (HB2.out.trans (b3.mono HB2.out.size))
      clear b3 hx3 hw
      go_wp2_with fail
      refine bodyPost_ret (res_con rfl _ _ w.heap.size _ _ _ _ _ (.bool false) rfl (put5_here HX3.out _ _ _ _ _) rfl) rfl ?_
      rw [HW.out]
      exact ⟨rfl, put5_below HB3.out _ _ _ _ _⟩
    | some c =>
      obtain ⟨cw, co, cl, cn, ct⟩ := c
      have HW := Lib.hid hw
      rw [hw] at HC2
      unfold conV at HC2
      simp only at HC2
      go_wp2_with fail
      refine HC2.out.mono ?_
      rintro e w3 ⟨rfl, b3⟩
      have hx3 : Bc w3 w.heap.size con0 := (b3.block w.heap.size (Array.getElem?_eq_some_iff.1 HX2.out).1).trans HX2.out
      have HX3 := Lib.hid hx3
      have f5 : ∀ j, w3.frozen? ⟨w.heap.size, j, none⟩ = false := fun j => frozen_of_row w3 w.heap.size j _ _ hx3
      have p0 : w3.cell? ⟨w.heap.size, 0, none⟩ = some (.string (S [])) := cell_of_row w3 w.heap.size 0 _ _ (0, 0) hx3
      have p1 : w3.cell? ⟨w.heap.size, 1, none⟩ = some (.int .i64 0) := cell_of_row w3 w.heap.size 1 _ _ (0, 0) hx3
      have p2 : w3.cell? ⟨w.heap.size, 2, none⟩ = some (.int .i64 0) := cell_of_row w3 w.heap.size 2 _ _ (0, 0) hx3
      have p3 : w3.cell? ⟨w.heap.size, 3, none⟩ = some (.int .i64 0) := cell_of_row w3 w.heap.size 3 _ _ (0, 0) hx3
      have p4 : w3.cell? ⟨w.heap.size, 4, none⟩ = some (.bool false) := cell_of_row w3 w.heap.size 4 _ _ (0, 0) hx3
      have HB3 := Lib.hid (HB2.out.trans (b3.mono HB2.out.size))
      clear b3 hx3 hw
      go_wp2_with fail
      refine bodyPost_ret (res_con rfl _ _ w.heap.size _ _ _ _ _ (.bool true) rfl (put5_here HX3.out _ _ _ _ _) rfl) rfl ?_
      rw [HW.out]
      exact ⟨rfl, put5_below HB3.out _ _ _ _ _⟩
  · rw [if_neg h5]
    have e5 : (k == 5) = false := by simpa using h5
    go_enter Tryz.func79, Tryz.ntmps79
    go_wp2_with fail
    refine HH.out.mono ?_
    rintro e w1 ⟨rfl, b1⟩
    have hx1 : Bc w1 w.heap.size con0 := (b1.block w.heap.size (Array.getElem?_eq_some_iff.1 HX0.out).1).trans HX0.out
    have hlt := (Array.getElem?_eq_some_iff.1 hx1).1
    have HX1 := Lib.hid hx1
    have f5 : ∀ j, w1.frozen? ⟨w.heap.size, j, none⟩ = false := fun j => frozen_of_row w1 w.heap.size j _ _ hx1
    have p0 : w1.cell? ⟨w.heap.size, 0, none⟩ = some (.string (S [])) := cell_of_row w1 w.heap.size 0 _ _ (0, 0) hx1
    have p1 : w1.cell? ⟨w.heap.size, 1, none⟩ = some (.int .i64 0) := cell_of_row w1 w.heap.size 1 _ _ (0, 0) hx1
    have p2 : w1.cell? ⟨w.heap.size, 2, none⟩ = some (.int .i64 0) := cell_of_row w1 w.heap.size 2 _ _ (0, 0) hx1
    have p3 : w1.cell? ⟨w.heap.size, 3, none⟩ = some (.int .i64 0) := cell_of_row w1 w.heap.size 3 _ _ (0, 0) hx1
    have p4 : w1.cell? ⟨w.heap.size, 4, none⟩ = some (.bool false) := cell_of_row w1 w.heap.size 4 _ _ (0, 0) hx1
    have HB1 := Lib.hid (HB0.out.trans (b1.mono HB0.out.size))
    clear b1 hx1 HH HC h5
    go_wp2_with fail
    refine bodyPost_ret (res_con rfl _ _ w.heap.size _ _ _ _ _ (.bool false) rfl (put5_at HX1.out _ _ _ _ _ _ hlt) rfl) rfl ?_
    exact ⟨rfl, (put5_below HB1.out _ _ _ _ _).alloc (by simp; omega) _⟩
theorem begins_eq (ts : List TA) (a : Nat) : begins ts a = (decide (1 ≤ (tk ts a).kind ∧ (tk ts a).kind ≤ 4) || ((opA 5 (tk ts a)).isSome || isS ts a [91] || isS ts a [40])) := by
  have h : (opA 5 (tk ts a)).isSome = (unAt (tk ts a)).isSome := by rw [← opA_unAt]; cases opA 5 (tk ts a) <;> rfl
  rw [h, unAt_is]
  unfold begins
  cases isS ts a [33] <;> cases isS ts a [45] <;> cases isS ts a [91] <;> cases isS ts a [40] <;> simp
theorem pbegins_any (b g cap a : Nat) (n o : Int) (ts : List TA) (w : World) (h : Psr w b g cap ts.length a n o) (ht : TsAt w g ts) (ha : a < ts.length) (hn : ts.length ≤ 8001) (hk : TokS (tk ts a)) (hC : ConsAt w) :
    Calls Tryz.prog 234 #[.pointer (some ⟨b, 0, none⟩)] w fun e w' => e = .returned (.bool (begins ts a)) ∧ Below w.heap.size w w' := by
  have HH := Lib.hid (phere_any b g cap a n o ts w h ht ha hn hk)
  have HO := Lib.hid (fun W (k : Below w.heap.size w W) => poperator_any b g cap a n o 5 ts W (h.below k) (ht.below k) ha hn hk (hC.keep (Kept.of_below (ok := fun _ => True) k) trivial))
  have HI := Lib.hid (fun (s : ByteArray) W (k : Below w.heap.size w W) => pis_any b g cap a n o ts s W (h.below k) (ht.below k) ha hn hk)
  have I91 := Lib.hid (HI.out ⟨#[91]⟩)
  have I40 := Lib.hid (HI.out ⟨#[40]⟩)
  rw [show ((⟨#[91]⟩ : ByteArray).data.toList) = [91] from rfl] at I91
  rw [show ((⟨#[40]⟩ : ByteArray).data.toList) = [40] from rfl] at I40
  clear h ht hk ha hn hC HI
  rw [begins_eq]
  generalize isS ts a [91] = i91 at *
  generalize isS ts a [40] = i40 at *
  unfold tokC at *
  generalize tk ts a = t at *
  generalize opA 5 t = op at *
  obtain ⟨k, x, m, q⟩ := t
  simp only at HH ⊢
  have hfld : ∀ w, (Instr.field 79 (.agg #[.int .i64 k, .string (S x), .int .i64 m, .int .i64 (q : Int)]) 0).run Tryz.prog w = .ok (.int .i64 k) w := fun w => by kernel_rfl
  by_cases h14 : 1 ≤ k ∧ k ≤ 4
  · rw [decide_eq_true h14, Bool.true_or]
    have hk : k = 1 ∨ k = 2 ∨ k = 3 ∨ k = 4 := by omega
    clear h14
    rcases hk with rfl | rfl | rfl | rfl
    all_goals
      go_enter Tryz.func234, Tryz.ntmps234
      go_wp2_with fail
      refine HH.out.mono ?_
      rintro e w1 ⟨rfl, b1⟩
      have HB1 := Lib.hid b1
      clear b1
      go_wp2_with fail
      go_ret
      exact ⟨rfl, HB1.out⟩
  · rw [decide_eq_false h14, Bool.false_or]
    have e1 : (k == 1) = false := by simp; omega
    have e2 : (k == 2) = false := by simp; omega
    have e3 : (k == 3) = false := by simp; omega
    have e4 : (k == 4) = false := by simp; omega
    clear h14
    cases op with
    | some c =>
      obtain ⟨cw, co, cl, cn, ct⟩ := c
      unfold conV at HO
      simp only at HO
      go_enter Tryz.func234, Tryz.ntmps234
      go_wp2_with fail
      refine HH.out.mono ?_
      rintro e w1 ⟨rfl, b1⟩
      have HB1 := Lib.hid b1
      clear b1
      go_wp2_with fail
      refine (HO.out _ HB1.out).mono ?_
      rintro e w2 ⟨rfl, b2⟩
      have HB2 := Lib.hid ((HB1.out.trans (b2.mono HB1.out.size)).alloc (HB1.out.trans (b2.mono HB1.out.size)).size (.cells #[.string (S cw), .int .i64 co, .int .i64 cl, .int .i64 cn, .bool ct] 96))
      clear b2
      go_wp2_with fail
      go_ret
      exact ⟨rfl, HB2.out⟩
    | none =>
      unfold conV at HO
      simp only at HO
      go_enter Tryz.func234, Tryz.ntmps234
      go_wp2_with fail
      refine HH.out.mono ?_
      rintro e w1 ⟨rfl, b1⟩
      have HB1 := Lib.hid b1
      clear b1
      go_wp2_with fail
      refine (HO.out _ HB1.out).mono ?_
      rintro e w2 ⟨rfl, b2⟩
      have HB2 := Lib.hid ((HB1.out.trans (b2.mono HB1.out.size)).alloc (HB1.out.trans (b2.mono HB1.out.size)).size (.cells #[.string (S []), .int .i64 0, .int .i64 0, .int .i64 0, .bool false] 96))
      clear b2
      go_wp2_with fail
      refine (I91.out _ HB2.out).mono ?_
      rintro e w3 ⟨rfl, b3⟩
      have HB3 := Lib.hid (HB2.out.trans (b3.mono HB2.out.size))
      clear b3
      cases i91 with
      | true =>
        go_wp2_with fail
        go_ret
        exact ⟨rfl, HB3.out⟩
      | false =>
        go_wp2_with fail
        refine (I40.out _ HB3.out).mono ?_
        rintro e w4 ⟨rfl, b4⟩
        have HB4 := Lib.hid (HB3.out.trans (b4.mono HB3.out.size))
        clear b4
        go_wp2_with fail
        go_ret
        exact ⟨by simp, HB4.out⟩
def ResP (b g cap : Nat) (ts : List TA) (w : World) (r : R) (e : Ending) (w' : World) : Prop :=
  Only b w w' ∧ match r with
  | .ok x s => ∃ q c, e = .returned (exprC x q c) ∧ FAt w' (w.heap.size ≤ ·) x.args q ∧ Psr w' b g cap ts.length s.at_ s.n s.open_
  | .bad er a => e = panS a er
theorem pleaf_any (b g cap : Nat) (ts : List TA) (s : St) (op num : Int) (tx : List UInt8) (w : World) (h : Psr w b g cap ts.length s.at_ s.n s.open_) (hs : StOk ts s) (hn : ts.length ≤ 8001) :
    Calls Tryz.prog 165 #[.pointer (some ⟨b, 0, none⟩), .agg #[.int .i64 op, .int .i64 num, .string (S tx), .slice none 0 0]] w fun e w' => ResP b g cap ts w (leafR op num tx s) e w' := by
  have hb := ((Below.refl w.heap.size w).alloc (Nat.le_refl _) (.cells #[.int .i64 op, .int .i64 num, .string (S tx), .slice none 0 0] 24)).alloc (by simp) (.cells #[.int .i64 0, .int .i64 0, .string ⟨#[]⟩, .slice none 0 0] 24)
  have hlt := h.lt
  have HE := Lib.hid (laterB (Bx.new w (.int .i64 op) (.int .i64 num) (.string (S tx)) (.slice none 0 0)) ((Below.refl _ _).alloc (Nat.le_refl _) (.cells #[.int .i64 0, .int .i64 0, .string ⟨#[]⟩, .slice none 0 0] 24)))
  have HX := Lib.hid (show Bx ((w.alloc (.cells #[.int .i64 op, .int .i64 num, .string (S tx), .slice none 0 0] 24)).alloc (.cells #[.int .i64 0, .int .i64 0, .string ⟨#[]⟩, .slice none 0 0] 24)) (w.heap.size + 1) (.int .i64 0) (.int .i64 0) (.string ⟨#[]⟩) (.slice none 0 0) from new_box _ _ _ _ (by simp))
  have H2 := Lib.hid (h.below hb)
  have HB := Lib.hid hb
  have hai : (s.at_ : Int) < 8001 := by have := hs.at_; omega
  have hn200 := hs.n
  clear hb h hs
  unfold leafR
  by_cases hz : s.n = 200
  · rw [if_pos hz]
    rw [hz] at H2
    have HP := Lib.hid (pproduce_bad b g cap s.at_ s.open_ ts.length _ H2.out)
    clear hz hn200
    go_enter Tryz.func165, Tryz.ntmps165
    go_wp2_with fail
    refine HP.out.mono ?_
    rintro e w1 ⟨rfl, b1⟩
    have HO := Lib.hid (Only.of_below (b := b) (HB.out.trans (b1.mono HB.out.size)))
    clear b1
    unfold panS
    go_wp2_with fail
    exact ⟨rfl, HO.out, rfl⟩
  · rw [if_neg hz]
    have HP := Lib.hid (pproduce_ok b g cap s.at_ s.open_ s.n ts.length _ H2.out (by omega))
    clear hz hn200
    go_enter Tryz.func165, Tryz.ntmps165
    go_wp2_with fail
    refine HP.out.mono ?_
    rintro e w1 ⟨rfl, o1, h1⟩
    have hne1 : ¬ w.heap.size = b := by omega
    have hne2 : ¬ w.heap.size + 1 = b := by omega
    have hne3 : ¬ b = w.heap.size := by omega
    have hne4 : ¬ b = w.heap.size + 1 := by omega
    have he := HE.out.keep o1.kept hne1
    have hx := HX.out.keep o1.kept hne2
    have c1 := h1.c1
    have fz := h1.fz
    have p0 := he.c0
    have p1 := he.c1
    have p2 := he.c2
    have p3 := he.c3
    have q0 := hx.c0
    have q1 := hx.c1
    have q2 := hx.c2
    have q3 := hx.c3
    have fx := hx.fz
    have HO := Lib.hid ((((Only.of_below (b := b) HB.out).trans o1).set' 1 (.int .i64 ((s.at_ : Int) + 1))).put (w.heap.size + 1) (by omega) (.int .i64 op) (.int .i64 num) (.string (S tx)) (.slice none 0 0))
    have HXF := Lib.hid ((hx.keep (Kept.set (ok := (· ≠ b)) w1 b 1 (.int .i64 ((s.at_ : Int) + 1)) (by simp)) hne2).put (.int .i64 op) (.int .i64 num) (.string (S tx)) (.slice none 0 0))
    have HPF := Lib.hid ((h1.set1 ((s.at_ : Int) + 1)).keep (Kept.put (ok := (· ≠ w.heap.size + 1)) _ (w.heap.size + 1) (.int .i64 op) (.int .i64 num) (.string (S tx)) (.slice none 0 0) (by simp)) hne4)
    clear o1 h1 he hx
    go_wp2_with fail
    refine bodyPost_ret (res_expr rfl _ _ (w.heap.size + 1) _ _ _ _ rfl HXF.out) rfl ?_
    exact ⟨HO.out, none, 0, rfl, trivial, HPF.out⟩
end Go.Proofs.YtlmmfhbdebfgkaaGreatDoor.Ex
