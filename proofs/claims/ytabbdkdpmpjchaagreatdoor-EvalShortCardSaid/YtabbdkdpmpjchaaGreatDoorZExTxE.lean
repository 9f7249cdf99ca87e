/- ExTxE -/
import Derived.Test.YtabbdkdpmpjchaaGreatDoorZTzTx
import Derived.Test.YtabbdkdpmpjchaaGreatDoorZTzTk
namespace Go.Proofs.YtabbdkdpmpjchaaGreatDoor.Ex
open Go.RowKit
open Lx Va
set_option linter.unusedVariables false
set_option linter.unusedSimpArgs false
set_option maxHeartbeats 2000000 in
theorem rtext_any (op num : Int) (tx : List UInt8) (A : F) (hA : RtxAll A) (hlen : A.len ≤ 281474976710656) (hf : formedB op num tx A.len = true) (hn : namedB op tx = true) (hnum : num ≤ 9223372036854775807) (hk : okF A) (hno : A.nodes ≤ 200) : RtxC ⟨op, num, tx, A⟩ := by
  have hc := formed_cnt hf
  obtain ⟨s1, s2⟩ := txF_len A hk
  have hcm := commas_len (txF A)
  rw [txF_length] at hcm
  have hl : (commas (txF A)).length ≤ 100000000 := by omega
  have ho : most (txF A) ≤ 100000 := by omega
  unfold cntB at hc
  by_cases h5 : op = 5
  · subst h5
    exact rtext_5 num tx A hA hlen hl ho
  rw [if_neg h5] at hc
  by_cases h7 : 1 ≤ op ∧ op ≤ 7
  · have h : op = 1 ∨ op = 2 ∨ op = 3 ∨ op = 4 ∨ op = 6 ∨ op = 7 := by omega
    rcases h with rfl | rfl | rfl | rfl | rfl | rfl
    · exact rtext_1 num tx A (by simp [formedB] at hf; omega) hnum
    · exact rtext_2 num tx A (by simp [formedB] at hf; omega)
    · exact rtext_3 num tx A (by simp [formedB] at hf; omega)
    · have h0 : nameB tx = true := by simpa [namedB] using hn
      have := nameB_len h0
      exact rtext_4 num tx A (by omega)
    · exact rtext_6 num tx A
    · have h0 : nameB tx = true := by simpa [namedB] using hn
      have := nameB_len h0
      exact rtext_7 num tx A (by omega)
  rw [if_neg h7] at hc
  by_cases h10 : 10 ≤ op ∧ op ≤ 12
  · rw [if_pos h10] at hc
    have h1 : A.len = 1 := by simpa using hc
    have h3 : op = 10 ∨ op = 11 ∨ op = 12 := by omega
    rcases h3 with rfl | rfl | rfl
    · obtain ⟨x, rfl⟩ := one_row h1
      have t1 : x.tx.text.length + 0 + 2 * 1 ≤ 310 * (F.cons x.op x.num x.text x.args .nil).nodes := s1
      have t2 : max x.tx.open_ 0 ≤ 2 * (F.cons x.op x.num x.text x.args .nil).nodes := s2
      exact rtext_10 num tx x hA.1 (by omega) (by omega)
    · obtain ⟨x, rfl⟩ := one_row h1
      have t1 : x.tx.text.length + 0 + 2 * 1 ≤ 310 * (F.cons x.op x.num x.text x.args .nil).nodes := s1
      have t2 : max x.tx.open_ 0 ≤ 2 * (F.cons x.op x.num x.text x.args .nil).nodes := s2
      exact rtext_11 num tx x hA.1 (by omega) (by omega)
    · exact rtext_12 num tx A hA hlen hl ho
  rw [if_neg h10] at hc
  by_cases h20 : 20 ≤ op ∧ op ≤ 26 ∨ 30 ≤ op ∧ op ≤ 33 ∨ op = 40 ∨ op = 41
  · rw [if_pos h20] at hc
    have h2 : A.len = 2 := by simpa using hc
    by_cases h25 : op = 25
    · subst h25
      exact rtext_25 num tx A hA hlen hl ho
    by_cases h26 : op = 26
    · subst h26
      exact rtext_26 num tx A hA hlen hl ho
    obtain ⟨x, y, rfl⟩ := two_row h2
    have t1 : x.tx.text.length + (y.tx.text.length + 0) + 2 * 2 ≤ 310 * (F.cons x.op x.num x.text x.args (.cons y.op y.num y.text y.args .nil)).nodes := s1
    have t2 : max x.tx.open_ (max y.tx.open_ 0) ≤ 2 * (F.cons x.op x.num x.text x.args (.cons y.op y.num y.text y.args .nil)).nodes := s2
    have hb : bound op ≤ 5 := by
      unfold bound
      repeat' split
      all_goals omega
    exact rtext_bin op num tx x y hA.1 hA.2.1 (bound op) rfl hb (by omega) h25 h26 (by omega) (by omega) (by omega) (by omega)
  · rw [if_neg h20] at hc
    cases hc
theorem rtext_all : ∀ l : F, l.fits → okF l → l.nodes ≤ 200 → RtxAll l
  | .nil, _, _, _ => trivial
  | .cons o n t a r, h, k, hn => by
    have e : (F.cons o n t a r).nodes = 1 + a.nodes + r.nodes := rfl
    exact ⟨rtext_any o n t a (rtext_all a h.2.2.1 k.2.2.2.1 (by omega)) h.2.1 k.1 k.2.1 k.2.2.1 k.2.2.2.1 (by omega), rtext_all r h.2.2.2 k.2.2.2.2 (by omega)⟩
set_option maxRecDepth 100000 in
set_option maxHeartbeats 4000000 in
theorem rprint_any (t : T) (hfit : t.row.fits) (hnums : t.row.nums) (p : Option Addr) (c : Nat) (w : World) (hfa : FAt w (fun _ => True) t.args p) :
    Calls Tryz.prog 21 #[.agg #[.int .i64 t.op, .int .i64 t.num, .string (S t.text), .slice p t.args.len c]] w fun e w' => e = .returned (.tuple #[.string (S (printM t).1), .int .i64 ((printM t).2 : Int)]) ∧ Below w.heap.size w w' := by
  have hb0 := (Below.refl w.heap.size w).alloc (Nat.le_refl _) (.cells #[.int .i64 t.op, .int .i64 t.num, .string (S t.text), .slice p t.args.len c] 24)
  have hbx := Bx.new w (.int .i64 t.op) (.int .i64 t.num) (.string (S t.text)) (.slice p t.args.len c)
  have HFA0 := Lib.hid (hfa.keep (Kept.of_below hb0))
  have HB0 := Lib.hid hb0
  have HBX := Lib.hid hbx
  have HCK := Lib.hid (rck_any t hfit 0 p c _ (by omega) HFA0.out)
  have HTX := Lib.hid (fun (h : (t.chk 0).1 = 0) => by
    obtain ⟨k, e⟩ := okF_of_chk t.row 0 hnums h
    have hcnt := chkF_count t.row 0 (by omega) h
    exact (⟨(rtext_all t.row hfit k (by omega)).1, by have := tx_len t hnums h; omega⟩ : RtxC t ∧ t.tx.open_ ≤ 400))
  have HP := Lib.hid (show printM t = if (t.chk 0).1 ≠ 0 then ([], (t.chk 0).1) else if 20 < t.tx.open_ then ([], 26) else (t.tx.text, 0) from rfl)
  obtain ⟨P, hP⟩ : ∃ P, P = printM t := ⟨_, rfl⟩
  rw [← hP] at HP ⊢
  have e00 : ((0 : Nat) : Int) = 0 := rfl
  rw [e00] at HCK
  clear hb0 hbx hfa hP e00
  generalize hbad : (t.chk 0).1 = bad at *
  generalize (t.chk 0).2 = cnt at *
  by_cases hz : bad = 0
  · obtain ⟨hT, ho⟩ := HTX.out hz
    subst hz
    have HT := Lib.hid (fun w1 (k : Below _ _ w1) => hT p c w1 (HFA0.out.keep (Kept.of_below k)))
    rw [if_neg (by simp)] at HP
    have hoi : (t.tx.open_ : Int) ≤ 400 := by omega
    clear HTX hT
    by_cases h20 : 20 < t.tx.open_
    · rw [if_pos h20] at HP
      rw [HP.out]
      have h20i : (20 : Int) < (t.tx.open_ : Int) := by omega
      clear h20
      go_enter Tryz.func21, Tryz.ntmps21
      go_wp2_with fail
      refine HCK.out.mono ?_
      rintro e w1 ⟨rfl, b1⟩
      have HB1 := Lib.hid (HB0.out.trans (b1.mono HB0.out.size))
      have hx1 := HBX.out.keep (Kept.of_below (ok := fun _ => True) b1) trivial
      have HT1 := Lib.hid (HT.out w1 b1)
      have q0 := hx1.c0
      have q1 := hx1.c1
      have q2 := hx1.c2
      have q3 := hx1.c3
      clear b1 hx1
      go_wp2_with fail
      refine HT1.out.mono ?_
      rintro e w2 ⟨rfl, b2⟩
      have HB2 := Lib.hid (HB1.out.trans (b2.mono HB1.out.size))
      clear b2
      go_wp2_with fail
      go_ret2
      exact ⟨rfl, HB2.out⟩
    · rw [if_neg h20] at HP
      rw [HP.out]
      have h20i : ¬ (20 : Int) < (t.tx.open_ : Int) := by omega
      clear h20
      go_enter Tryz.func21, Tryz.ntmps21
      go_wp2_with fail
      refine HCK.out.mono ?_
      rintro e w1 ⟨rfl, b1⟩
      have HB1 := Lib.hid (HB0.out.trans (b1.mono HB0.out.size))
      have hx1 := HBX.out.keep (Kept.of_below (ok := fun _ => True) b1) trivial
      have HT1 := Lib.hid (HT.out w1 b1)
      have q0 := hx1.c0
      have q1 := hx1.c1
      have q2 := hx1.c2
      have q3 := hx1.c3
      clear b1 hx1
      go_wp2_with fail
      refine HT1.out.mono ?_
      rintro e w2 ⟨rfl, b2⟩
      have HB2 := Lib.hid (HB1.out.trans (b2.mono HB1.out.size))
      clear b2
      go_wp2_with fail
      go_ret2
      exact ⟨rfl, HB2.out⟩
  · rw [if_pos hz] at HP
    rw [HP.out]
    have e1 : ((bad : Int) == 0) = false := by rw [beq_eq_false_iff_ne]; omega
    have e2 : ((bad : Int) != 0) = true := by simp; exact hz
    clear HTX
    go_enter Tryz.func21, Tryz.ntmps21
    go_wp2_with fail
    refine HCK.out.mono ?_
    rintro e w1 ⟨rfl, b1⟩
    have HB1 := Lib.hid (HB0.out.trans (b1.mono HB0.out.size))
    clear b1
    go_wp2_with fail
    go_ret2
    exact ⟨rfl, HB1.out⟩
end Go.Proofs.YtabbdkdpmpjchaaGreatDoor.Ex
