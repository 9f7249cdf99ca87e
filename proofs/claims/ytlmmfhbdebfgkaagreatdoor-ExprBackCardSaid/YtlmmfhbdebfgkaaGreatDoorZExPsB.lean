/-
  ExPsB.
-/
import Derived.Test.YtlmmfhbdebfgkaaGreatDoorZExPsA
namespace Go.Proofs.YtlmmfhbdebfgkaaGreatDoor.Ex
open Go.RowKit
open Lx Va
set_option linter.unusedVariables false
set_option linter.unusedSimpArgs false
section
variable (b g cap a : Nat) (n o : Int) (ts : List TA)
set_option maxRecDepth 100000 in
set_option maxHeartbeats 2000000 in
theorem ppass_ok (s : ByteArray) (w : World) (h : Psr w b g cap ts.length a n o) (ht : TsAt w g ts) (ha : a < ts.length) (hn : ts.length ≤ 8001) (hk : TokS (tk ts a)) (hs : isS ts a s.data.toList = true) :
    Calls Tryz.prog 233 #[.pointer (some ⟨b, 0, none⟩), .string s] w fun e w' => e = .returned (.tuple #[]) ∧ Only b w w' ∧ Psr w' b g cap ts.length ((a : Int) + 1) n o := by
  have HI := Lib.hid (pis_any b g cap a n o ts s w h ht ha hn hk)
  rw [hs] at HI
  have H := Lib.hid h
  have hai : (a : Int) < 8001 := by omega
  clear h ht hk ha hs hn
  go_enter Tryz.func233, Tryz.ntmps233
  go_wp2_with fail
  refine HI.out.mono ?_
  rintro e w1 ⟨rfl, b1⟩
  have h1 := H.out.below b1
  have c1 := h1.c1
  have fz := h1.fz
  have HO := Lib.hid ((Only.of_below (b := b) b1).set' 1 (.int .i64 ((a : Int) + 1)))
  have HP := Lib.hid (h1.set1 ((a : Int) + 1))
  clear b1 h1
  go_wp2_with fail
  go_end0
  exact ⟨rfl, HO.out, HP.out⟩
set_option maxRecDepth 100000 in
set_option maxHeartbeats 2000000 in
theorem ppass_bad (s : ByteArray) (w : World) (h : Psr w b g cap ts.length a n o) (ht : TsAt w g ts) (ha : a < ts.length) (hn : ts.length ≤ 8001) (hk : TokS (tk ts a)) (hs : isS ts a s.data.toList = false) :
    Calls Tryz.prog 233 #[.pointer (some ⟨b, 0, none⟩), .string s] w fun e w' => e = panS a 25 ∧ Below w.heap.size w w' := by
  have HI := Lib.hid (pis_any b g cap a n o ts s w h ht ha hn hk)
  rw [hs] at HI
  have H := Lib.hid h
  clear h ht hk ha hs hn
  go_enter Tryz.func233, Tryz.ntmps233
  go_wp2_with fail
  refine HI.out.mono ?_
  rintro e w1 ⟨rfl, b1⟩
  have HW := Lib.hid (pwrong_any b g cap ts.length a n o 25 w1 (H.out.below b1))
  have HB := Lib.hid b1
  clear b1
  go_wp2_with fail
  refine HW.out.mono ?_
  rintro e w2 ⟨rfl, b2⟩
  have HB2 := Lib.hid (HB.out.trans (b2.mono HB.out.size))
  clear b2
  go_wp2_with fail
  exact ⟨rfl, rfl, HB2.out⟩
set_option maxRecDepth 100000 in
set_option maxHeartbeats 2000000 in
theorem pproduce_ok (m : Nat) (len : Nat) (w : World) (h : Psr w b g cap len a m o) (hm : m < 200) :
    Calls Tryz.prog 80 #[.pointer (some ⟨b, 0, none⟩)] w fun e w' => e = .returned (.tuple #[]) ∧ Only b w w' ∧ Psr w' b g cap len a ((m : Int) + 1) o := by
  have c2 := h.c2
  have fz := h.fz
  have e1 : ((m : Int) == 200) = false := by rw [beq_eq_false_iff_ne]; omega
  have hmi : (m : Int) < 200 := by omega
  have HO := Lib.hid (Only.set b w 2 (.int .i64 ((m : Int) + 1)))
  have HP := Lib.hid (h.set2 ((m : Int) + 1))
  clear h hm
  go_enter Tryz.func80, Tryz.ntmps80
  go_wp2_with fail
  go_end0
  exact ⟨rfl, HO.out, HP.out⟩
set_option maxRecDepth 100000 in
set_option maxHeartbeats 2000000 in
theorem pproduce_bad (len : Nat) (w : World) (h : Psr w b g cap len a 200 o) :
    Calls Tryz.prog 80 #[.pointer (some ⟨b, 0, none⟩)] w fun e w' => e = panS a 27 ∧ Below w.heap.size w w' := by
  have c2 := h.c2
  have HW := Lib.hid (pwrong_any b g cap len a 200 o 27 w h)
  clear h
  go_enter Tryz.func80, Tryz.ntmps80
  go_wp2_with fail
  refine HW.out.mono ?_
  rintro e w2 ⟨rfl, b2⟩
  have HB2 := Lib.hid b2
  clear b2
  go_wp2_with fail
  exact ⟨rfl, rfl, HB2.out⟩
set_option maxRecDepth 100000 in
set_option maxHeartbeats 2000000 in
theorem penter_ok (m : Nat) (len : Nat) (w : World) (h : Psr w b g cap len a n m) (hm : m < 20) :
    Calls Tryz.prog 129 #[.pointer (some ⟨b, 0, none⟩)] w fun e w' => e = .returned (.tuple #[]) ∧ Only b w w' ∧ Psr w' b g cap len a n ((m : Int) + 1) := by
  have c3 := h.c3
  have fz := h.fz
  have e1 : ((m : Int) == 20) = false := by rw [beq_eq_false_iff_ne]; omega
  have hmi : (m : Int) < 20 := by omega
  have HO := Lib.hid (Only.set b w 3 (.int .i64 ((m : Int) + 1)))
  have HP := Lib.hid (h.set3 ((m : Int) + 1))
  clear h hm
  go_enter Tryz.func129, Tryz.ntmps129
  go_wp2_with fail
  go_end0
  exact ⟨rfl, HO.out, HP.out⟩
set_option maxRecDepth 100000 in
set_option maxHeartbeats 2000000 in
theorem penter_bad (len : Nat) (w : World) (h : Psr w b g cap len a n 20) :
    Calls Tryz.prog 129 #[.pointer (some ⟨b, 0, none⟩)] w fun e w' => e = panS a 26 ∧ Below w.heap.size w w' := by
  have c3 := h.c3
  have HW := Lib.hid (pwrong_any b g cap len a n 20 26 w h)
  clear h
  go_enter Tryz.func129, Tryz.ntmps129
  go_wp2_with fail
  refine HW.out.mono ?_
  rintro e w2 ⟨rfl, b2⟩
  have HB2 := Lib.hid b2
  clear b2
  go_wp2_with fail
  exact ⟨rfl, rfl, HB2.out⟩
set_option maxRecDepth 100000 in
set_option maxHeartbeats 2000000 in
theorem pleave_ok (m : Nat) (s : ByteArray) (w : World) (h : Psr w b g cap ts.length a n m) (ht : TsAt w g ts) (ha : a < ts.length) (hn : ts.length ≤ 8001) (hk : TokS (tk ts a)) (hm : 1 ≤ m) (hm2 : m ≤ 20) (hs : isS ts a s.data.toList = true) :
    Calls Tryz.prog 208 #[.pointer (some ⟨b, 0, none⟩), .string s] w fun e w' => e = .returned (.tuple #[]) ∧ Only b w w' ∧ Psr w' b g cap ts.length ((a : Int) + 1) n ((m - 1 : Nat) : Int) := by
  have HI := Lib.hid (ppass_ok b g cap a n m ts s w h ht ha hn hk hs)
  have e1 : ((m - 1 : Nat) : Int) = (m : Int) - 1 := by omega
  rw [e1]
  have hmi : 1 ≤ (m : Int) := by omega
  have hmj : (m : Int) ≤ 20 := by omega
  clear h ht hk ha hs hn hm hm2 e1
  go_enter Tryz.func208, Tryz.ntmps208
  go_wp2_with fail
  refine HI.out.mono ?_
  rintro e w1 ⟨rfl, o1, h1⟩
  have c3 := h1.c3
  have fz := h1.fz
  have HO := Lib.hid (o1.set' 3 (.int .i64 ((m : Int) - 1)))
  have HP := Lib.hid (h1.set3 ((m : Int) - 1))
  clear o1 h1
  go_wp2_with fail
  go_end0
  exact ⟨rfl, HO.out, HP.out⟩
set_option maxRecDepth 100000 in
set_option maxHeartbeats 2000000 in
theorem pleave_bad (s : ByteArray) (w : World) (h : Psr w b g cap ts.length a n o) (ht : TsAt w g ts) (ha : a < ts.length) (hn : ts.length ≤ 8001) (hk : TokS (tk ts a)) (hs : isS ts a s.data.toList = false) :
    Calls Tryz.prog 208 #[.pointer (some ⟨b, 0, none⟩), .string s] w fun e w' => e = panS a 25 ∧ Below w.heap.size w w' := by
  have HI := Lib.hid (ppass_bad b g cap a n o ts s w h ht ha hn hk hs)
  clear h ht hk ha hs hn
  go_enter Tryz.func208, Tryz.ntmps208
  go_wp2_with fail
  refine HI.out.mono ?_
  rintro e w1 ⟨rfl, b1⟩
  have HB2 := Lib.hid b1
  clear b1
  unfold panS
  go_wp2_with fail
  exact ⟨rfl, rfl, HB2.out⟩
end
def conW (lvl : Int) (wd : List UInt8) : Option Con := conL.find? fun c => c.level == lvl && c.word == wd
set_option linter.unusedVariables false
set_option maxRecDepth 100000 in
set_option maxHeartbeats 8000000 in
theorem constructAt_any (lvl : Int) (wd : List UInt8) (w : World) (hc : ConsAt w) :
    Calls Tryz.prog 131 #[.int .i64 lvl, .string (S wd)] w fun e w' => e = .returned (conV (conW lvl wd)) ∧ Below w.heap.size w w' := by
  have hb0 := (Below.refl w.heap.size w).alloc (Nat.le_refl _) (.cells #[.string ⟨#[]⟩, .int .i64 0, .int .i64 0, .int .i64 0, .bool false] 96)
  have HLD := Lib.hid (hc.keep (Kept.of_below (ok := fun _ => True) hb0) trivial).1
  have HSZ := Lib.hid (show (Tryz.prog.info? 135).map (·.size) = some conC.length by kernel_rfl)
  have HB0 := Lib.hid hb0
  have HX0 := Lib.hid (show Bc (w.alloc (.cells #[.string ⟨#[]⟩, .int .i64 0, .int .i64 0, .int .i64 0, .bool false] 96)) w.heap.size con0 from heap_alloc_new w _)
  have HIDX := Lib.hid con_idx
  have HFA := Lib.hid (fun k (hk : k < 18) h0 h => con_find (fun c => c.level == lvl && c.word == wd) k hk h0 h)
  have HFN := Lib.hid (con_none (fun c => c.level == lvl && c.word == wd))
  clear hb0 hc
  go_enter Tryz.func131, Tryz.ntmps131
  go_wp2_with (refine wpList_load_mid rfl 135 _ rfl 0 0 rfl conC _ HLD.out Tryz.underlying135 rfl HSZ.out ?_)
  go_loopw [9] (fun i wr => ∃ k : Nat, k ≤ 18 ∧ i = .int .i64 k ∧ Hid (∀ j, j < k → ((conAt j).level == lvl && (conAt j).word == wd) = false) ∧ Below w.heap.size w wr ∧ w.heap.size < wr.heap.size ∧ Bc wr w.heap.size con0) (fun i _ => 18 - (intOf i).toNat)
  case atStart => exact ⟨0, by omega, rfl, Lib.hid (fun j hj => absurd hj (by omega)), HB0.out, by simp, HX0.out⟩
  case round =>
    obtain ⟨k, hk, rfl, HN, hb, hsz, hx⟩ := hrel
    have HB := Lib.hid hb
    have HX := Lib.hid hx
    have hh := hx
    have f5 : ∀ j, wr.frozen? ⟨w.heap.size, j, none⟩ = false := fun j => frozen_of_row wr w.heap.size j _ _ hx
    have p0 : wr.cell? ⟨w.heap.size, 0, none⟩ = some (.string (S [])) := cell_of_row wr w.heap.size 0 _ _ (0, 0) hx
    have p1 : wr.cell? ⟨w.heap.size, 1, none⟩ = some (.int .i64 0) := cell_of_row wr w.heap.size 1 _ _ (0, 0) hx
    have p2 : wr.cell? ⟨w.heap.size, 2, none⟩ = some (.int .i64 0) := cell_of_row wr w.heap.size 2 _ _ (0, 0) hx
    have p3 : wr.cell? ⟨w.heap.size, 3, none⟩ = some (.int .i64 0) := cell_of_row wr w.heap.size 3 _ _ (0, 0) hx
    have p4 : wr.cell? ⟨w.heap.size, 4, none⟩ = some (.bool false) := cell_of_row wr w.heap.size 4 _ _ (0, 0) hx
    by_cases hlt : k < 18
    · have hki : (k : Int) < 18 := by omega
      have hidx := HIDX.out k hlt
      have HHIT := Lib.hid (HFA.out k hlt HN.out)
      have HST := Lib.hid (fun (e : ((conAt k).level == lvl && (conAt k).word == wd) = false) => show Hid (∀ j, j < k + 1 → ((conAt j).level == lvl && (conAt j).word == wd) = false) from Lib.hid (fun j hj => by
        by_cases ej : j = k
        · subst ej; exact e
        · exact HN.out j (by omega)))
      generalize conAt k = C at *
      obtain ⟨cw, co, cl, cn, ct⟩ := C
      simp only at hidx HHIT HST
      clear hb hx hh
      have e1 : ((S cw).toList == (S wd).toList) = (cw == wd) := by rw [ByteArray.toList_eq, ByteArray.toList_eq, S_toList, S_toList]
      by_cases hop : cl = lvl
      · subst hop
        cases hw : (cw == wd) with
        | true =>
          rw [hw] at e1
          have HR := Lib.hid (show conW cl wd = some ⟨cw, co, cl, cn, ct⟩ from HHIT.out (by simp [hw]))
          clear hw
          go_wp2_with fail
          refine bodyPost_ret (res_con rfl _ _ w.heap.size _ _ _ _ _ (.bool true) rfl (put5_at HX.out _ _ _ _ _ _ hsz) rfl) rfl ?_
          rw [HR.out]
          exact ⟨rfl, (put5_below HB.out _ _ _ _ _).alloc (by simp; omega) _⟩
        | false =>
          rw [hw] at e1
          have hn2 := HST.out (by simp [hw])
          clear hw
          go_wp2_with fail
          go_roundw
          case rel => exact ⟨k + 1, by omega, by go_num, hn2, HB.out.alloc (Nat.le_of_lt hsz) _, by simp; omega, (Kept.alloc (ok := fun _ => True) wr _).block _ trivial hsz |>.trans HX.out⟩
          case measure => simp [intOf]; omega
      · have hop2 : (cl == lvl) = false := by rw [beq_eq_false_iff_ne]; exact hop
        have hn2 := HST.out (by simp [hop2])
        clear e1
        go_wp2_with fail
        go_roundw
        case rel => exact ⟨k + 1, by omega, by go_num, hn2, HB.out.alloc (Nat.le_of_lt hsz) _, by simp; omega, (Kept.alloc (ok := fun _ => True) wr _).block _ trivial hsz |>.trans HX.out⟩
        case measure => simp [intOf]; omega
    · obtain rfl : k = 18 := by omega
      have HR := Lib.hid (show conW lvl wd = none from HFN.out HN.out)
      clear hb hx hh
      go_wp2_with fail
      refine bodyPost_ret (res_con rfl _ _ w.heap.size _ _ _ _ _ (.bool false) rfl (put5_here HX.out _ _ _ _ _) rfl) rfl ?_
      rw [HR.out]
      exact ⟨rfl, put5_below HB.out _ _ _ _ _⟩
end Go.Proofs.YtlmmfhbdebfgkaaGreatDoor.Ex
