/- ZExWrJ -/
import Derived.Test.YtchjckdjkecjnaaGreatDoorYExWrI
import Derived.Lib.UnsafeStr
namespace Go.Proofs.YtchjckdjkecjnaaGreatDoor.Ex
open Go.RowKit
open Lx Va
theorem cells_u8 : Tryz.prog.cellsOf 5 = 1 := by kernel_rfl
set_option maxRecDepth 100000 in
set_option maxHeartbeats 4000000 in
theorem wstring_any (b : Nat) (l : List UInt8) (o d : Int) (w : World) (h : Wr w b l o d) (h0 : l ≠ []) :
    Calls Tryz.prog 40 #[.pointer (some ⟨b, 0, none⟩)] w fun e w' => e = .returned (.string (S l)) ∧ Below b w w' := by
  obtain ⟨p, v, hb, hp, hown⟩ := h.has
  have hl0 : l.length ≠ 0 := by simpa using h0
  obtain ⟨g, cap, cur, fz, rfl, hbg, hg, hfz, hnc, hcm, hcs, htake⟩ : ∃ g cap cur fz, v = .slice (some ⟨g, 0, none⟩) l.length cap ∧ b + 1 ≤ g ∧ w.heap[g]? = some (.cells cur 5 fz) ∧ fz.2 ≤ l.length * 1 ∧ l.length ≤ cap ∧ cap ≤ maxLen ∧ cur.size = cap * 1 ∧ cur.toList.take (l.length * 1) = Lib.byteCells l := by
    rcases (World.ownsRowF_of hown).2 with ⟨_, hz⟩ | ⟨g, cap, cur, fz, hv, r⟩
    · exact absurd hz hl0
    · exact ⟨g, cap, cur, fz, hv, r⟩
  have c1 : w.drew.cell? ⟨b, 1, none⟩ = some (.slice (some ⟨g, 0, none⟩) l.length cap) := hb.c1
  have hSD : (Builtin.unsafeSliceData_ #[97] 146 #[.slice (some ⟨g, 0, none⟩) l.length cap]).run Tryz.prog w.drew = .ok (.pointer (some ⟨g, 0, none⟩)) w.drew :=
    Lib.run_unsafeSliceData_row _ _ _ _ _ _ (by omega)
  have hUS : (Builtin.unsafeString_ #[146, 3] 9 #[.pointer (some ⟨g, 0, none⟩), .int .i64 l.length]).run Tryz.prog w.drew = .ok (.string ⟨l.toArray⟩) (w.drew.freeze ⟨g, 0, none⟩ l.length) := by
    refine Lib.run_unsafeString_row w.drew 146 3 9 5 Tryz.underlying146 cells_u8 g cur.size (by have hg' : w.drew.heap[g]? = some (.cells cur 5 fz) := hg; simp [World.shape?, hg']) l h0 (by omega) (by unfold maxLen at hcm; omega) ?_
    intro j x hx
    have := (World.ownsRowF_of hown).cells (g := g) rfl j (.int .u8 x.toNat) (by simp [Lib.byteCells, hx])
    exact this
  clear hb hp hown h hfz hnc hcm hcs htake
  have mixed : Tryz.prog.follows Departure.mixedOrders = true := by kernel_rfl
  go_enter Tryz.func40, Tryz.ntmps40
  go_wp2
  go_region_o
  all_goals (go_wp2; go_ret; exact ⟨rfl, Lib.below_freeze (Below.drew (Below.refl b w)) (p := ⟨g, 0, none⟩) (by show b ≤ g; omega) _⟩)
set_option linter.unusedVariables false
set_option maxRecDepth 100000 in
set_option maxHeartbeats 8000000 in
theorem exprPrint_any (t : T) (hfit : t.row.fits) (hnums : t.row.nums) (p : Option Addr) (c : Nat) (w : World) (htab : Tab w) (hC : ConsAt w) (hF : FAt w (· < w.heap.size) t.args p) :
    Calls Tryz.prog 23 #[.agg #[.int .i64 t.op, .int .i64 t.num, .string (S t.text), .slice p t.args.len c]] w fun e w' => e = .returned (.tuple #[.string (S (printM t).1), .int .i64 ((printM t).2 : Nat)]) ∧ Below w.heap.size w w' := by
  have hc0 := chkF_count t.row 0 (by omega)
  have htx := tx_len t hnums
  obtain ⟨W1, hW1⟩ : ∃ W1, W1 = w.alloc (.cells #[.int .i64 t.op, .int .i64 t.num, .string (S t.text), .slice p t.args.len c] 28) := ⟨_, rfl⟩
  have hs1 : W1.heap.size = w.heap.size + 1 := by rw [hW1]; simp
  have b1 : Below w.heap.size w W1 := by rw [hW1]; exact (Below.refl _ _).alloc (Nat.le_refl _) _
  have b2 : Below w.heap.size w (W1.alloc (.cells #[.int .i64 0] 94)) := b1.alloc (by omega) _
  have hck : Ck (W1.alloc (.cells #[.int .i64 0] 94)) W1.heap.size 0 := heap_alloc_new W1 _
  have hbx1 := Bx.new w (.int .i64 t.op) (.int .i64 t.num) (.string (S t.text)) (.slice p t.args.len c)
  rw [← hW1] at hbx1
  have hbx2 := hbx1.keep (Kept.alloc (ok := fun _ => True) W1 (.cells #[.int .i64 0] 94)) trivial
  have hFk := hF.keep (Kept.of_below (ok := (· < w.heap.size)) b2)
  rw [hs1] at hck
  have hF2 : FAt (W1.alloc (.cells #[.int .i64 0] 94)) (· ≠ w.heap.size + 1) t.args p := FAt.mono (fun g _ hg => by omega) _ _ hFk
  have HCH := Lib.hid (chk_any (w.heap.size + 1) t hfit 0 p c _ (by omega) hck (hC.keep (Kept.of_below (ok := fun _ => True) b2) trivial) (by have := hC.2; omega) hF2)
  have HB2 := Lib.hid b2
  have HFK := Lib.hid hFk
  have HBX2 := Lib.hid hbx2
  have HS2 := Lib.hid (show (W1.alloc (.cells #[.int .i64 0] 94)).heap.size = w.heap.size + 1 + 1 by simp [hs1])
  have HTX := Lib.hid htx
  have HTAB := Lib.hid htab
  have HC := Lib.hid hC
  have HFI := Lib.hid hfit
  rw [hW1] at HCH HB2 HFK HBX2 HS2
  clear hW1 hs1 b1 b2 hck hbx1 hbx2 hFk hF2 htx htab hC hF W1
  by_cases hbad : (t.chk 0).1 = 0
  · obtain ⟨hok, hlen, hop, hne⟩ := HTX.out hbad
    have HPM := Lib.hid (show printM t = if 20 < t.tx.open_ then ([], 26) else (t.tx.text, 0) by unfold printM; rw [if_neg (by simpa using hbad)])
    rw [hbad] at HCH
    have HOK := Lib.hid hok
    have HNE := Lib.hid hne
    clear hok hne hbad
    go_enter Tryz.func23, Tryz.ntmps23
    go_wp2_with fail
    refine HCH.out.mono ?_
    rintro e w3 ⟨rfl, o3, _⟩
    have hb3 := Only.below HB2.out o3 (by rw [HS2.out]; omega) (by omega)
    have hx3 := HBX2.out.keep o3.kept (by show w.heap.size ≠ w.heap.size + 1; omega)
    have HX3 := Lib.hid hx3
    obtain ⟨W4, hW4⟩ : ∃ W4, W4 = w3.alloc (.cells #[.pointer none, .slice none 0 0, .int .i64 0, .int .i64 0] 101) := ⟨_, rfl⟩
    have hb4 : Below w.heap.size w W4 := by rw [hW4]; exact hb3.alloc hb3.size _
    have hwb : WrB W4 w3.heap.size (.pointer none) (.slice none 0 0) 0 0 := by rw [hW4]; exact heap_alloc_new w3 _
    have hWr : Wr W4 w3.heap.size [] (0 : Nat) (0 : Nat) := ⟨_, _, hwb, .inl rfl, World.ownsRow_nil _ _ _ _⟩
    have hF4 : FAt W4 (Oth W4 w3.heap.size) t.args p := by
      have h1 := HFK.out.keep (w' := W4) (by rw [hW4]; exact (Kept.of_below (ok := (· < w.heap.size)) (Below.refl _ _)).trans ((o3.kept.mono (fun g hg => by show g ≠ w.heap.size + 1; omega)).trans (Kept.alloc w3 _)))
      exact FAt.mono (fun g _ hg => Oth.low hWr (by have := hb3.size; omega)) _ _ h1
    have hx4 := hx3.keep (Kept.alloc (ok := fun _ => True) w3 (.cells #[.pointer none, .slice none 0 0, .int .i64 0, .int .i64 0] 101)) trivial
    have p0 := hx4.c0
    have p1 := hx4.c1
    have p2 := hx4.c2
    have p3 := hx4.c3
    have hcall := (tree_all w w3.heap.size ⟨HTAB.out, HC.out, hb3.size⟩ t.row HFI.out HOK.out).1 [] 0 0 p c W4 (by show 0 + t.tx.open_ ≤ 100000; omega) (by show 0 + t.tx.text.length ≤ 1000000000; omega) (Nat.le_refl _) hWr hb4 hF4
    have HCALL := Lib.hid (show Calls Tryz.prog 39 #[.pointer (some ⟨w3.heap.size, 0, none⟩), .agg #[.int .i64 t.op, .int .i64 t.num, .string (S t.text), .slice p t.args.len c]] W4 (fun e w' => e = .returned (.tuple #[]) ∧ Wr w' w3.heap.size t.tx.text (0 : Nat) ((t.tx.open_ : Nat) : Int) ∧ Wk w3.heap.size W4 w') from by
      refine hcall.mono ?_
      rintro e w' ⟨h1, h2, h3⟩
      have e1 : max 0 (0 + t.tx.open_) = t.tx.open_ := by omega
      have h2' : Wr w' w3.heap.size t.tx.text (0 : Nat) ((max 0 (0 + t.tx.open_) : Nat) : Int) := h2
      rw [e1] at h2'
      exact ⟨h1, h2', h3⟩)
    have HB4 := Lib.hid hb4
    have HW4 := Lib.hid hW4
    have hb3s := hb3.size
    rw [← hW4] at p0 p1 p2 p3
    clear hb3 hx3 hb4 hwb hWr hF4 hx4 hcall o3
    rw [hW4] at p0 p1 p2 p3 HCALL HB4
    clear hW4 HW4
    go_wp2_with fail
    refine HCALL.out.mono ?_
    rintro e w5 ⟨rfl, hw5, k5⟩
    have c3 := hw5.c3
    have HW5 := Lib.hid hw5
    have HB5 := Lib.hid (HB4.out.trans (k5.below.mono hb3s))
    clear hw5 k5
    by_cases h20 : 20 < t.tx.open_
    · have HR := Lib.hid (show printM t = ([], 26) by rw [HPM.out, if_pos h20])
      have h20i : (20 : Int) < (t.tx.open_ : Int) := by omega
      go_wp2_with fail
      go_ret2
      rw [HR.out]
      exact ⟨rfl, HB5.out⟩
    · have HR := Lib.hid (show printM t = (t.tx.text, 0) by rw [HPM.out, if_neg h20])
      have h20i : ¬ (20 : Int) < (t.tx.open_ : Int) := by omega
      have HST := Lib.hid (wstring_any w3.heap.size t.tx.text (0 : Nat) ((t.tx.open_ : Nat) : Int) w5 HW5.out HNE.out)
      go_wp2_with fail
      refine HST.out.mono ?_
      rintro e w6 ⟨rfl, b6⟩
      have HB6 := Lib.hid (HB5.out.trans (b6.mono hb3s))
      clear b6
      go_wp2_with fail
      go_ret2
      rw [HR.out]
      exact ⟨rfl, HB6.out⟩
  · have hpm : printM t = ([], (t.chk 0).1) := by unfold printM; rw [if_pos hbad]
    rw [hpm]
    simp only
    generalize hcd : (t.chk 0).1 = cd at *
    have hce2 : ((cd : Int) == 0) = false := by rw [beq_eq_false_iff_ne]; omega
    have hce3 : ((cd : Int) != 0) = true := by simp; exact hbad
    go_enter Tryz.func23, Tryz.ntmps23
    go_wp2_with fail
    refine HCH.out.mono ?_
    rintro e w3 ⟨rfl, o3, _⟩
    have HB3 := Lib.hid (Only.below HB2.out o3 (by rw [HS2.out]; omega) (by omega))
    clear o3
    go_wp2_with fail
    try simp only [Exit.inBlock, Exit.then]
    go_ret2
    exact ⟨rfl, HB3.out⟩
end Go.Proofs.YtchjckdjkecjnaaGreatDoor.Ex
