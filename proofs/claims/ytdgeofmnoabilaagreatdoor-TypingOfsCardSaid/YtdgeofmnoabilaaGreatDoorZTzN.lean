/-
  Several texts in one: TyRefE, TyOfsW.
-/
import Derived.Test.YtdgeofmnoabilaaGreatDoorZTyRefD
import Derived.Test.YtdgeofmnoabilaaGreatDoorZTzM
import Derived.Test.YtdgeofmnoabilaaGreatDoorZTyAwake
import Derived.Test.YtdgeofmnoabilaaGreatDoorZTzJ
namespace Go.Proofs.YtdgeofmnoabilaaGreatDoor.Ty
open Go.RowKit
open Ex Lx
set_option linter.unusedVariables false
set_option linter.unusedSimpArgs false

theorem okF_of_print (t : T) (hn : t.row.nums) (h : (printM t).2 = 0) : okF t.row := by
  by_cases hz : (t.chk 0).1 = 0
  · exact (okF_of_chk t.row 0 hn hz).1
  · exfalso
    apply hz
    unfold printM at h
    rw [if_pos hz] at h
    exact h
set_option maxRecDepth 100000 in
set_option maxHeartbeats 4000000 in
theorem rOf_any (s : Sc) (pe pa pf : Option Addr) (ce ca cf : Nat) (hf : ScFit s) (t : T) (hfit : t.row.fits) (hnums : t.row.nums) (p : Option Addr) (c : Nat) (w : World) (hs : ScAt w pe pa pf s) (hfa : FAt w (fun _ => True) t.args p) :
    Calls Tryz.prog 12 #[.slice pe s.enums.length ce, .slice pa s.attrs.length ca, .slice pf s.fields.length cf, .agg #[.int .i64 t.op, .int .i64 t.num, .string (S t.text), .slice p t.args.len c]] w fun e w' => e = retT (ofM s t) ∧ Below w.heap.size w w' := by
  obtain ⟨W2, hW2⟩ : ∃ W2, W2 = (w.alloc (.cells #[.int .i64 t.op, .int .i64 t.num, .string (S t.text), .slice p t.args.len c] 28)).alloc (.cells #[.int .i64 0, .string ⟨#[]⟩, .string ⟨#[]⟩] 35) := ⟨_, rfl⟩
  have hb2 : Below w.heap.size w W2 := by rw [hW2]; exact ((Below.refl w.heap.size w).alloc (Nat.le_refl _) _).alloc (by simp) _
  have hbx : Bx W2 w.heap.size (.int .i64 t.op) (.int .i64 t.num) (.string (S t.text)) (.slice p t.args.len c) := by rw [hW2]; exact (Bx.new w _ _ _ _).keep (Kept.alloc (ok := fun _ => True) _ _) trivial
  have hrb : RB W2 (w.heap.size + 1) (.int .i64 0) (.string ⟨#[]⟩) (.string ⟨#[]⟩) := by rw [hW2]; exact RB.new _ _ _ _ _ (by simp)
  have HW2 := Lib.hid hW2
  have HS := Lib.hid (hs.later hb2)
  have HBX := Lib.hid hbx
  have HRB := Lib.hid hrb
  have HB2 := Lib.hid hb2
  have HFA := Lib.hid (hfa.keep (Kept.of_below hb2))
  have HPR := Lib.hid (rprint_any t hfit hnums p c W2 HFA.out)
  have HOF := Lib.hid (fun (h : (printM t).2 = 0) => (rof_all s pe pa pf ce ca cf hf t.row (okF_of_print t hnums h)).1)
  have HM := Lib.hid (show ofM s t = if (printM t).2 = 0 then tyT s t else (TT.zero, (printM t).2) from rfl)
  obtain ⟨X, hX⟩ : ∃ X, X = ofM s t := ⟨_, rfl⟩
  rw [← hX] at HM ⊢
  have q0 := hbx.c0
  have q1 := hbx.c1
  have q2 := hbx.c2
  have q3 := hbx.c3
  clear hW2 hb2 hbx hrb hs hfa hX
  generalize printM t = PM at *
  obtain ⟨ptx, bad⟩ := PM
  simp only at HPR HOF HM
  obtain ⟨⟨xk, xe, xl⟩, xb⟩ := X
  unfold retT
  simp only
  go_enter Tryz.func12, Tryz.ntmps12
  go_wp2_with fail
  rw [← HW2.out]
  refine HPR.out.mono ?_
  rintro e w3 ⟨rfl, b3⟩
  have HB3 := Lib.hid (HB2.out.trans (b3.mono HB2.out.size))
  by_cases hz : bad = 0
  · have HX := Lib.hid (show ((⟨xk, xe, xl⟩, xb) : TT × Nat) = tyT s t by rw [HM.out, if_pos hz])
    have HC := HOF.out hz p c w3 (HS.out.later b3) (HFA.out.keep (Kept.of_below b3))
    rw [← HX.out] at HC
    unfold retT at HC
    simp only at HC
    have HC := Lib.hid HC
    subst hz
    have hx3 := HBX.out.keep (Kept.of_below (ok := fun _ => True) b3) trivial
    have q0 := hx3.c0
    have q1 := hx3.c1
    have q2 := hx3.c2
    have q3 := hx3.c3
    have HRB3 := Lib.hid (HRB.out.later b3)
    clear b3 hx3
    go_wp2_with fail
    refine HC.out.mono ?_
    rintro e w4 ⟨rfl, b4⟩
    have hnb := HRB3.out.later b4
    have fz := hnb.fz
    have k0 := hnb.c0
    have k1 := hnb.c1
    have k2 := hnb.c2
    have HP := Lib.hid (hnb.put (.int .i64 xk) (.string (S xe)) (.string (S xl)))
    have HB4 := Lib.hid (HB3.out.trans (b4.mono HB3.out.size))
    clear b4 hnb
    go_wp2_with fail
    have d0 := HP.out.c0
    have d1 := HP.out.c1
    have d2 := HP.out.c2
    exact bodyPost_ret (v := .tuple #[.agg #[.int .i64 xk, .string (S xe), .string (S xl)], .int .i64 xb]) (by simp [results, d0, d1, d2, Tryz.results12, go_sem]) rfl ⟨rfl, ((HB4.out.setCell (p := ⟨w.heap.size + 1, 0, none⟩) (by simp) _).setCell (p := ⟨w.heap.size + 1, 1, none⟩) (by simp) _).setCell (p := ⟨w.heap.size + 1, 2, none⟩) (by simp) _⟩
  · have HX := Lib.hid (show ((⟨xk, xe, xl⟩, xb) : TT × Nat) = (TT.zero, bad) by rw [HM.out, if_neg hz])
    have e1 : ((bad : Int) == 0) = false := by rw [beq_eq_false_iff_ne]; omega
    have e2 : ((bad : Int) != 0) = true := by simp; exact hz
    have hnb := HRB.out.later b3
    have fz := hnb.fz
    have k0 := hnb.c0
    have k1 := hnb.c1
    have k2 := hnb.c2
    have HP := Lib.hid (hnb.put (.int .i64 0) (.string ⟨#[]⟩) (.string ⟨#[]⟩))
    clear b3 hnb hz
    go_wp2_with fail
    have d0 := HP.out.c0
    have d1 := HP.out.c1
    have d2 := HP.out.c2
    have hx := HX.out
    injection hx with hx1 hx2
    injection hx1 with hx3 hx4 hx5
    subst hx2 hx3 hx4 hx5
    exact bodyPost_ret (v := .tuple #[.agg #[.int .i64 0, .string ⟨#[]⟩, .string ⟨#[]⟩], .int .i64 xb]) (by simp [results, d0, d1, d2, Tryz.results12, go_sem]) rfl ⟨rfl, ((HB3.out.setCell (p := ⟨w.heap.size + 1, 0, none⟩) (by simp) _).setCell (p := ⟨w.heap.size + 1, 1, none⟩) (by simp) _).setCell (p := ⟨w.heap.size + 1, 2, none⟩) (by simp) _⟩

end Go.Proofs.YtdgeofmnoabilaaGreatDoor.Ty

namespace Go.Proofs.YtdgeofmnoabilaaGreatDoor.Ty
open Go.RowKit
open Ex Lx
set_option linter.unusedVariables false
set_option linter.unusedSimpArgs false

/-- A law's two arguments, in boxes. -/
def Bxs (w : World) (H : Nat) (a b c : Value) : Prop := w.heap[H]? = some (.cells #[a, b, c] 25 (0, 0))
theorem Bxs.c0 {w : World} {H : Nat} {a b c : Value} (h : Bxs w H a b c) : w.cell? ⟨H, 0, none⟩ = some a := cell_of_row w H 0 _ _ (0, 0) h
theorem Bxs.c1 {w : World} {H : Nat} {a b c : Value} (h : Bxs w H a b c) : w.cell? ⟨H, 1, none⟩ = some b := cell_of_row w H 1 _ _ (0, 0) h
theorem Bxs.c2 {w : World} {H : Nat} {a b c : Value} (h : Bxs w H a b c) : w.cell? ⟨H, 2, none⟩ = some c := cell_of_row w H 2 _ _ (0, 0) h
theorem Bxs.lt {w : World} {H : Nat} {a b c : Value} (h : Bxs w H a b c) : H < w.heap.size := World.block_lt_of_cell? w _ h.c0
theorem Bxs.keep {w w' : World} {H : Nat} {a b c : Value} (h : Bxs w H a b c) (k : Below w.heap.size w w') : Bxs w' H a b c := (k.block H h.lt).trans h


set_option maxRecDepth 100000 in
set_option maxHeartbeats 8000000 in
theorem TypingOfs_walk (s : Sc) (pe pa pf : Option Addr) (ce ca cf : Nat) (t : T) (p : Option Addr) (c : Nat) (w : World) (hs : ScAt w pe pa pf s) (hf : ScFit s) (hfa : FAt w (fun _ => True) t.args p) (hfit : t.row.fits) (hnums : t.row.nums) (htab : Va.Tab w) (hC : ConsAt w) :
    Calls Tryz.prog 3 #[.agg #[.slice pe s.enums.length ce, .slice pa s.attrs.length ca, .slice pf s.fields.length cf], .agg #[.int .i64 t.op, .int .i64 t.num, .string (S t.text), .slice p t.args.len c]] w fun e w' => e = .returned (.bool true) ∧ Below w.heap.size w w' := by
  have hb1 := ((Below.refl w.heap.size w).alloc (Nat.le_refl _) (.cells #[.slice pe s.enums.length ce, .slice pa s.attrs.length ca, .slice pf s.fields.length cf] 25)).alloc (by simp) (.cells #[.int .i64 t.op, .int .i64 t.num, .string (S t.text), .slice p t.args.len c] 28)
  obtain ⟨W1, hW1⟩ : ∃ W1, W1 = (w.alloc (.cells #[.slice pe s.enums.length ce, .slice pa s.attrs.length ca, .slice pf s.fields.length cf] 25)).alloc (.cells #[.int .i64 t.op, .int .i64 t.num, .string (S t.text), .slice p t.args.len c] 28) := ⟨_, rfl⟩
  have hbs : Bxs W1 w.heap.size (.slice pe s.enums.length ce) (.slice pa s.attrs.length ca) (.slice pf s.fields.length cf) := by
    rw [hW1]
    exact (((Below.refl _ _).alloc (Nat.le_refl _) _).block _ (by simp)).trans (heap_alloc_new w _)
  have hbe : Bx W1 (w.heap.size + 1) (.int .i64 t.op) (.int .i64 t.num) (.string (S t.text)) (.slice p t.args.len c) := by rw [hW1]; exact new_box _ _ _ _ (by simp)
  rw [← hW1] at hb1
  have htab1 := htab.below hb1
  have hC1 := hC.keep (Kept.of_below (ok := fun _ => True) hb1) trivial
  have hs1 := hs.later hb1
  have hfa1 := hfa.keep (Kept.of_below hb1)
  have AW := Lib.hid (fun wr (k : Below W1.heap.size W1 wr) => awake_any wr (htab1.below k) (hC1.keep (Kept.of_below (ok := fun _ => True) k) trivial))
  have SM := Lib.hid (fun wr (k : Below W1.heap.size W1 wr) => small_any s pe pa pf ce ca cf wr (hs1.later k).enums hf.enums hf.attrs hf.fields hf.syms)
  have OF := Lib.hid (fun wr (k : Below W1.heap.size W1 wr) => of_any s pe pa pf ce ca cf hf t hfit hnums p c wr (hs1.later k) (hfa1.keep (Kept.of_below k)) (htab1.below k) (hC1.keep (Kept.of_below (ok := fun _ => True) k) trivial))
  have OR := Lib.hid (fun wr (k : Below W1.heap.size W1 wr) => rOf_any s pe pa pf ce ca cf hf t hfit hnums p c wr (hs1.later k) (hfa1.keep (Kept.of_below k)))
  have BS := Lib.hid (fun wr (k : Below W1.heap.size W1 wr) => hbs.keep k)
  have BE := Lib.hid (fun wr (k : Below W1.heap.size W1 wr) => hbe.keep (Kept.of_below (ok := fun _ => True) k) trivial)
  have FIN := Lib.hid (fun wr (k : Below W1.heap.size W1 wr) => hb1.trans (k.mono hb1.size))
  have HW1 := Lib.hid hW1
  have HR1 := Lib.hid (Below.refl W1.heap.size W1)
  generalize ofM s t = X at OF OR
  obtain ⟨⟨xk, xe, xl⟩, xb⟩ := X
  unfold retT at OF OR
  simp only at OF OR
  clear hs hf hfa hfit hnums htab hC hb1 hbs hbe htab1 hC1 hs1 hfa1 hW1
  go_enter Tryz.func3, Tryz.ntmps3
  go_wp2_with fail
  rw [← HW1.out]
  refine (AW.out W1 HR1.out).mono ?_
  rintro e w2 ⟨rfl, b2⟩
  have hbs2 := BS.out w2 b2
  have q0 := hbs2.c0
  have q1 := hbs2.c1
  have q2 := hbs2.c2
  have SM2 := Lib.hid (SM.out w2 b2)
  have B2 := Lib.hid b2
  clear b2 hbs2
  go_wp2_with fail
  refine SM2.out.mono ?_
  rintro e w3 ⟨rfl, b3⟩
  have B3 := Lib.hid (B2.out.trans (b3.mono B2.out.size))
  clear b3 q0 q1 q2
  cases hsm : smallS s with
  | false =>
    have AW3 := Lib.hid (AW.out w3 B3.out)
    go_wp2_with fail
    refine AW3.out.mono ?_
    rintro e w5 ⟨rfl, b5⟩
    have B5 := Lib.hid (B3.out.trans (b5.mono B3.out.size))
    clear b5
    go_wp2_with fail
    try simp only [Exit.inBlock, Exit.then]
    go_ret
    exact ⟨rfl, FIN.out _ B5.out⟩
  | true =>
    have hbs3 := BS.out w3 B3.out
    have hbe3 := BE.out w3 B3.out
    have q0 := hbs3.c0
    have q1 := hbs3.c1
    have q2 := hbs3.c2
    have p0 := hbe3.c0
    have p1 := hbe3.c1
    have p2 := hbe3.c2
    have p3 := hbe3.c3
    have OF3 := Lib.hid (OF.out w3 B3.out)
    clear hbs3 hbe3 hsm
    go_wp2_with fail
    refine OF3.out.mono ?_
    rintro e w4 ⟨rfl, b4⟩
    clear q0 q1 q2 p0 p1 p2 p3
    obtain ⟨W5, hW5⟩ : ∃ W5, W5 = w4.alloc (.cells #[.int .i64 xk, .string (S xe), .string (S xl)] 31) := ⟨_, rfl⟩
    have hB4 := B3.out.trans (b4.mono B3.out.size)
    have hB5 : Below W1.heap.size W1 W5 := by rw [hW5]; exact hB4.alloc hB4.size _
    have ht5 : TB W5 w4.heap.size (.int .i64 xk) (.string (S xe)) (.string (S xl)) := by rw [hW5]; exact TB.new w4 _ _ _ _ rfl
    have hbs5 := BS.out W5 hB5
    have hbe5 := BE.out W5 hB5
    have q0 := hbs5.c0
    have q1 := hbs5.c1
    have q2 := hbs5.c2
    have p0 := hbe5.c0
    have p1 := hbe5.c1
    have p2 := hbe5.c2
    have p3 := hbe5.c3
    have OR5 := Lib.hid (OR.out W5 hB5)
    have B5 := Lib.hid hB5
    have HT5 := Lib.hid ht5
    have HW5 := Lib.hid hW5
    rw [hW5] at q0 q1 q2 p0 p1 p2 p3
    clear b4 hB4 hB5 ht5 hbs5 hbe5 hW5
    go_wp2_with fail
    rw [← HW5.out]
    refine OR5.out.mono ?_
    rintro e w6 ⟨rfl, b6⟩
    clear q0 q1 q2 p0 p1 p2 p3
    obtain ⟨W7, hW7⟩ : ∃ W7, W7 = w6.alloc (.cells #[.int .i64 xk, .string (S xe), .string (S xl)] 35) := ⟨_, rfl⟩
    have hB6 := B5.out.trans (b6.mono B5.out.size)
    have hB7 : Below W1.heap.size W1 W7 := by rw [hW7]; exact hB6.alloc hB6.size _
    have ht7 := HT5.out.later b6
    have ht7 : TB W7 w4.heap.size (.int .i64 xk) (.string (S xe)) (.string (S xl)) := by rw [hW7]; exact ht7.later ((Below.refl _ _).alloc (Nat.le_refl _) _)
    have hr7 : RB W7 w6.heap.size (.int .i64 xk) (.string (S xe)) (.string (S xl)) := by rw [hW7]; exact RB.new w6 _ _ _ _ rfl
    have AW7 := Lib.hid (AW.out W7 hB7)
    have B7 := Lib.hid hB7
    have HT7 := Lib.hid ht7
    have HR7 := Lib.hid hr7
    have HW7 := Lib.hid hW7
    clear b6 hB6 hB7 ht7 hr7 hW7
    go_wp2_with fail
    rw [← HW7.out]
    refine AW7.out.mono ?_
    rintro e w8 ⟨rfl, b8⟩
    have h1 := HT7.out.later b8
    have h2 := HR7.out.later b8
    have q0 := h1.c0
    have q1 := h1.c1
    have q2 := h1.c2
    have p0 := h2.c0
    have p1 := h2.c1
    have p2 := h2.c2
    have B8 := Lib.hid (B7.out.trans (b8.mono B7.out.size))
    clear b8 h1 h2
    go_wp2_with fail
    go_ret
    exact ⟨rfl, FIN.out _ B8.out⟩

end Go.Proofs.YtdgeofmnoabilaaGreatDoor.Ty
