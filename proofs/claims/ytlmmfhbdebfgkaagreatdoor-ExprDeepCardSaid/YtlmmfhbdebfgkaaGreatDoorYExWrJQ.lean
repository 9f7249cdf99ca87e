/-
  ExWrJ, ExL8, ExAgainW.
-/
import Derived.Test.YtlmmfhbdebfgkaaGreatDoorYExWrHQ
import Derived.Test.YtlmmfhbdebfgkaaGreatDoorYExPsR
import Derived.Test.YtlmmfhbdebfgkaaGreatDoorYExSameQ
import Derived.Lib.UnsafeStr
namespace Go.Proofs.YtlmmfhbdebfgkaaGreatDoor.Ex
open Go.RowKit
open Lx Va
theorem cells_u8 : Tryz.prog.cellsOf 5 = 1 := by kernel_rfl
set_option maxRecDepth 100000 in
set_option maxHeartbeats 4000000 in
theorem wstring_any (b : Nat) (l : List UInt8) (o d : Int) (w : World) (h : Wr w b l o d) (h0 : l ≠ []) :
    Calls Tryz.prog 23 #[.pointer (some ⟨b, 0, none⟩)] w fun e w' => e = .returned (.string (S l)) ∧ Below b w w' := by
  obtain ⟨p, v, hb, hp, hown⟩ := h.has
  have hl0 : l.length ≠ 0 := by simpa using h0
  obtain ⟨g, cap, cur, fz, rfl, hbg, hg, hfz, hnc, hcm, hcs, htake⟩ : ∃ g cap cur fz, v = .slice (some ⟨g, 0, none⟩) l.length cap ∧ b + 1 ≤ g ∧ w.heap[g]? = some (.cells cur 5 fz) ∧ fz.2 ≤ l.length * 1 ∧ l.length ≤ cap ∧ cap ≤ maxLen ∧ cur.size = cap * 1 ∧ cur.toList.take (l.length * 1) = Lib.byteCells l := by
    rcases (World.ownsRowF_of hown).2 with ⟨_, hz⟩ | ⟨g, cap, cur, fz, hv, r⟩
    · exact absurd hz hl0
    · exact ⟨g, cap, cur, fz, hv, r⟩
  have c1 : w.drew.cell? ⟨b, 1, none⟩ = some (.slice (some ⟨g, 0, none⟩) l.length cap) := hb.c1
  have hSD : (Builtin.unsafeSliceData_ #[67] 107 #[.slice (some ⟨g, 0, none⟩) l.length cap]).run Tryz.prog w.drew = .ok (.pointer (some ⟨g, 0, none⟩)) w.drew :=
    Lib.run_unsafeSliceData_row _ _ _ _ _ _ (by omega)
  have hUS : (Builtin.unsafeString_ #[107, 3] 9 #[.pointer (some ⟨g, 0, none⟩), .int .i64 l.length]).run Tryz.prog w.drew = .ok (.string ⟨l.toArray⟩) (w.drew.freeze ⟨g, 0, none⟩ l.length) := by
    refine Lib.run_unsafeString_row w.drew 107 3 9 5 Tryz.underlying107 cells_u8 g cur.size (by have hg' : w.drew.heap[g]? = some (.cells cur 5 fz) := hg; simp [World.shape?, hg']) l h0 (by omega) (by unfold maxLen at hcm; omega) ?_
    intro j x hx
    have := (World.ownsRowF_of hown).cells (g := g) rfl j (.int .u8 x.toNat) (by simp [Lib.byteCells, hx])
    exact this
  clear hb hp hown h hfz hnc hcm hcs htake
  have mixed : Tryz.prog.follows Departure.mixedOrders = true := by kernel_rfl
  go_enter Tryz.func23, Tryz.ntmps23
  go_wp2
  go_region_o
  all_goals (go_wp2; go_ret; exact ⟨rfl, Lib.below_freeze (Below.drew (Below.refl b w)) (p := ⟨g, 0, none⟩) (by show b ≤ g; omega) _⟩)
set_option linter.unusedVariables false
set_option maxRecDepth 100000 in
set_option maxHeartbeats 8000000 in
theorem exprPrint_any (t : T) (hfit : t.row.fits) (hnums : t.row.nums) (p : Option Addr) (c : Nat) (w : World) (htab : Tab w) (hC : ConsAt w) (hF : FAt w (· < w.heap.size) t.args p) :
    Calls Tryz.prog 10 #[.agg #[.int .i64 t.op, .int .i64 t.num, .string (S t.text), .slice p t.args.len c]] w fun e w' => e = .returned (.tuple #[.string (S (printM t).1), .int .i64 ((printM t).2 : Nat)]) ∧ Below w.heap.size w w' := by
  have hc0 := chkF_count t.row 0 (by omega)
  have htx := tx_len t hnums
  obtain ⟨W1, hW1⟩ : ∃ W1, W1 = w.alloc (.cells #[.int .i64 t.op, .int .i64 t.num, .string (S t.text), .slice p t.args.len c] 24) := ⟨_, rfl⟩
  have hs1 : W1.heap.size = w.heap.size + 1 := by rw [hW1]; simp
  have b1 : Below w.heap.size w W1 := by rw [hW1]; exact (Below.refl _ _).alloc (Nat.le_refl _) _
  have b2 : Below w.heap.size w (W1.alloc (.cells #[.int .i64 0] 64)) := b1.alloc (by omega) _
  have hck : Ck (W1.alloc (.cells #[.int .i64 0] 64)) W1.heap.size 0 := heap_alloc_new W1 _
  have hbx1 := Bx.new w (.int .i64 t.op) (.int .i64 t.num) (.string (S t.text)) (.slice p t.args.len c)
  rw [← hW1] at hbx1
  have hbx2 := hbx1.keep (Kept.alloc (ok := fun _ => True) W1 (.cells #[.int .i64 0] 64)) trivial
  have hFk := hF.keep (Kept.of_below (ok := (· < w.heap.size)) b2)
  rw [hs1] at hck
  have hF2 : FAt (W1.alloc (.cells #[.int .i64 0] 64)) (· ≠ w.heap.size + 1) t.args p := FAt.mono (fun g _ hg => by omega) _ _ hFk
  have HCH := Lib.hid (chk_any (w.heap.size + 1) t hfit 0 p c _ (by omega) hck (hC.keep (Kept.of_below (ok := fun _ => True) b2) trivial) (by have := hC.2; omega) hF2)
  have HB2 := Lib.hid b2
  have HFK := Lib.hid hFk
  have HBX2 := Lib.hid hbx2
  have HS2 := Lib.hid (show (W1.alloc (.cells #[.int .i64 0] 64)).heap.size = w.heap.size + 1 + 1 by simp [hs1])
  have HTX := Lib.hid htx
  have HTAB := Lib.hid htab
  have HC := Lib.hid hC
  have HFI := Lib.hid hfit
  rw [hW1] at HCH HB2 HFK HBX2 HS2
  clear hW1 hs1 b1 b2 hck hbx1 hbx2 hFk hF2 htx htab hC hF W1
  by_cases hbad : (t.chk 0).1 = 0
  · obtain ⟨hok, hlen, hop, hne⟩ := HTX.out hbad
    have HPM := Lib.hid (show printM t = if 20 < t.tx.open_ then ([], 26) else (t.tx.text, 0) by unfold printM; rw [if_neg (by simpa using hbad)])
    rw [hbad] at HCH
    have HOK := Lib.hid hok
    have HNE := Lib.hid hne
    clear hok hne hbad
    go_enter Tryz.func10, Tryz.ntmps10
    go_wp2_with fail
    refine HCH.out.mono ?_
    rintro e w3 ⟨rfl, o3, _⟩
    have hb3 := Only.below HB2.out o3 (by rw [HS2.out]; omega) (by omega)
    have hx3 := HBX2.out.keep o3.kept (by show w.heap.size ≠ w.heap.size + 1; omega)
    have HX3 := Lib.hid hx3
    obtain ⟨W4, hW4⟩ : ∃ W4, W4 = w3.alloc (.cells #[.pointer none, .slice none 0 0, .int .i64 0, .int .i64 0] 71) := ⟨_, rfl⟩
    have hb4 : Below w.heap.size w W4 := by rw [hW4]; exact hb3.alloc hb3.size _
    have hwb : WrB W4 w3.heap.size (.pointer none) (.slice none 0 0) 0 0 := by rw [hW4]; exact heap_alloc_new w3 _
    have hWr : Wr W4 w3.heap.size [] (0 : Nat) (0 : Nat) := ⟨_, _, hwb, .inl rfl, World.ownsRow_nil _ _ _ _⟩
    have hF4 : FAt W4 (Oth W4 w3.heap.size) t.args p := by
      have h1 := HFK.out.keep (w' := W4) (by rw [hW4]; exact (Kept.of_below (ok := (· < w.heap.size)) (Below.refl _ _)).trans ((o3.kept.mono (fun g hg => by show g ≠ w.heap.size + 1; omega)).trans (Kept.alloc w3 _)))
      exact FAt.mono (fun g _ hg => Oth.low hWr (by have := hb3.size; omega)) _ _ h1
    have hx4 := hx3.keep (Kept.alloc (ok := fun _ => True) w3 (.cells #[.pointer none, .slice none 0 0, .int .i64 0, .int .i64 0] 71)) trivial
    have p0 := hx4.c0
    have p1 := hx4.c1
    have p2 := hx4.c2
    have p3 := hx4.c3
    have hcall := (tree_all w w3.heap.size ⟨HTAB.out, HC.out, hb3.size⟩ t.row HFI.out HOK.out).1 [] 0 0 p c W4 (by show 0 + t.tx.open_ ≤ 100000; omega) (by show 0 + t.tx.text.length ≤ 1000000000; omega) (Nat.le_refl _) hWr hb4 hF4
    have HCALL := Lib.hid (show Calls Tryz.prog 22 #[.pointer (some ⟨w3.heap.size, 0, none⟩), .agg #[.int .i64 t.op, .int .i64 t.num, .string (S t.text), .slice p t.args.len c]] W4 (fun e w' => e = .returned (.tuple #[]) ∧ Wr w' w3.heap.size t.tx.text (0 : Nat) ((t.tx.open_ : Nat) : Int) ∧ Wk w3.heap.size W4 w') from by
      refine hcall.mono ?_
      rintro e w' ⟨h1, h2, h3⟩
      have e1 : max 0 (0 + t.tx.open_) = t.tx.open_ := by omega
      have h2' : Wr w' w3.heap.size t.tx.text (0 : Nat) ((max 0 (0 + t.tx.open_) : Nat) : Int) := h2
      rw [e1] at h2'
      exact ⟨h1, h2', h3⟩)
    have HB4 := Lib.hid hb4
    have HW4 := Lib.hid hW4
    have hb3s := hb3.size
    rw [← hW4] at p0 p1 p2 p3
    clear hb3 hx3 hb4 hwb hWr hF4 hx4 hcall o3
    rw [hW4] at p0 p1 p2 p3 HCALL HB4
    clear hW4 HW4
    go_wp2_with fail
    refine HCALL.out.mono ?_
    rintro e w5 ⟨rfl, hw5, k5⟩
    have c3 := hw5.c3
    have HW5 := Lib.hid hw5
    have HB5 := Lib.hid (HB4.out.trans (k5.below.mono hb3s))
    clear hw5 k5
    by_cases h20 : 20 < t.tx.open_
    · have HR := Lib.hid (show printM t = ([], 26) by rw [HPM.out, if_pos h20])
      have h20i : (20 : Int) < (t.tx.open_ : Int) := by omega
      go_wp2_with fail
      go_ret2
      rw [HR.out]
      exact ⟨rfl, HB5.out⟩
    · have HR := Lib.hid (show printM t = (t.tx.text, 0) by rw [HPM.out, if_neg h20])
      have h20i : ¬ (20 : Int) < (t.tx.open_ : Int) := by omega
      have HST := Lib.hid (wstring_any w3.heap.size t.tx.text (0 : Nat) ((t.tx.open_ : Nat) : Int) w5 HW5.out HNE.out)
      go_wp2_with fail
      refine HST.out.mono ?_
      rintro e w6 ⟨rfl, b6⟩
      have HB6 := Lib.hid (HB5.out.trans (b6.mono hb3s))
      clear b6
      go_wp2_with fail
      go_ret2
      rw [HR.out]
      exact ⟨rfl, HB6.out⟩
  · have hpm : printM t = ([], (t.chk 0).1) := by unfold printM; rw [if_pos hbad]
    rw [hpm]
    simp only
    generalize hcd : (t.chk 0).1 = cd at *
    have hce2 : ((cd : Int) == 0) = false := by rw [beq_eq_false_iff_ne]; omega
    have hce3 : ((cd : Int) != 0) = true := by simp; exact hbad
    go_enter Tryz.func10, Tryz.ntmps10
    go_wp2_with fail
    refine HCH.out.mono ?_
    rintro e w3 ⟨rfl, o3, _⟩
    have HB3 := Lib.hid (Only.below HB2.out o3 (by rw [HS2.out]; omega) (by omega))
    clear o3
    go_wp2_with fail
    try simp only [Exit.inBlock, Exit.then]
    go_ret2
    exact ⟨rfl, HB3.out⟩
end Go.Proofs.YtlmmfhbdebfgkaaGreatDoor.Ex
namespace Go.Proofs.YtlmmfhbdebfgkaaGreatDoor.Ex
open Go.RowKit
open Lx Va
set_option linter.unusedVariables false
set_option linter.unusedSimpArgs false
theorem nums_of : ∀ f : F, NumF f → f.nums
  | .nil, _ => trivial
  | .cons _ _ _ a r, ⟨h1, h2, h3⟩ => ⟨h1, nums_of a h2, nums_of r h3⟩
theorem wf_len {o n : Int} {t : List UInt8} {a : F} (h1 : formedB o n t a.len = true) : a.len ≤ 16 := by
  rcases node_kinds (frm h1) with ⟨_, rfl⟩ | ⟨_, h⟩ | ⟨_, x, rfl⟩ | ⟨_, x, rfl⟩ | ⟨_, x, y, rfl⟩ | ⟨_, x, y, rfl⟩
  · show 0 ≤ 16; omega
  · exact h
  · show 1 ≤ 16; omega
  · show 1 ≤ 16; omega
  · show 2 ≤ 16; omega
  · show 2 ≤ 16; omega
theorem wf_fits : ∀ f : F, WfF f → f.fits
  | .nil, _ => trivial
  | .cons o n t a r, ⟨h1, h2, h3, h4⟩ => by
    refine ⟨?_, Nat.le_trans (wf_len h1) (by omega), wf_fits a h3, wf_fits r h4⟩
    have hf := frm h1
    rcases hf.text with h | h | h | h | h
    · rw [h]; simp
    · have := hf.short h; omega
    · have := (nameB_ne (named_six h2 (by simp [h]))).2.1; omega
    · have := (nameB_ne (named_six h2 (by simp [h]))).2.1; omega
    · have := (nameB_ne (named_six h2 (by simp [h]))).2.1; omega
def aw1 : List UInt8 := [97, 32, 43, 32, 50, 32, 42, 32, 45, 98, 32, 62, 32, 108, 101, 110, 40, 91, 49, 44, 32, 50, 93, 41]
def aw2 : List UInt8 := [97, 32, 60, 32, 98, 32, 60, 32, 99]
def aw3 : List UInt8 := [108, 101, 110, 40, 91, 49, 44, 32, 50, 93, 41, 32, 60, 32, 97, 32, 43, 32, 50, 32, 42, 32, 45, 98]
set_option maxRecDepth 100000 in
theorem aw_code : (rdM aw1).2 = (0, 0) ∧ (rdM aw2).2 = (25, 6) ∧ (rdM aw1).1.op = 32 := by decide +kernel
set_option maxRecDepth 100000 in
theorem aw_print : printM (rdM aw1).1 = (aw3, 0) := by decide +kernel
theorem rd_fine {l : List UInt8} {x : T} {p : Nat} (h : rdM l = (x, 0, p)) : Fine x ∧ x.row.fits ∧ x.row.nums := by
  obtain ⟨_, _, m, e, s, hx⟩ := rd_ok h
  have hf := hx.fine.1
  exact ⟨hf, wf_fits x.row hf.wf, nums_of x.row hf.num⟩
theorem aw_read1 (w : World) (hL : Laid w) (hC : ConsAt w) (x : T) (hx : rdM aw1 = (x, 0, 0)) : Calls Tryz.prog 11 #[.string ⟨#[97, 32, 43, 32, 50, 32, 42, 32, 45, 98, 32, 62, 32, 108, 101, 110, 40, 91, 49, 44, 32, 50, 93, 41]⟩] w fun e w' => (∃ p c, e = .returned (.tuple #[.agg #[.int .i64 x.op, .int .i64 x.num, .string (S x.text), .slice p x.args.len c], .int .i64 0, .int .i64 0]) ∧ FAt w' (w.heap.size ≤ ·) x.args p) ∧ Below w.heap.size w w' := by
  have h := pread_any ⟨#[97, 32, 43, 32, 50, 32, 42, 32, 45, 98, 32, 62, 32, 108, 101, 110, 40, 91, 49, 44, 32, 50, 93, 41]⟩ w hL hC
  rw [show (⟨#[97, 32, 43, 32, 50, 32, 42, 32, 45, 98, 32, 62, 32, 108, 101, 110, 40, 91, 49, 44, 32, 50, 93, 41]⟩ : ByteArray).data.toList = aw1 from rfl, hx] at h
  exact h
theorem aw_read2 (w : World) (hL : Laid w) (hC : ConsAt w) (x : T) (hx : rdM aw2 = (x, 25, 6)) : Calls Tryz.prog 11 #[.string ⟨#[97, 32, 60, 32, 98, 32, 60, 32, 99]⟩] w fun e w' => (∃ p c, e = .returned (.tuple #[.agg #[.int .i64 x.op, .int .i64 x.num, .string (S x.text), .slice p x.args.len c], .int .i64 6, .int .i64 25]) ∧ FAt w' (w.heap.size ≤ ·) x.args p) ∧ Below w.heap.size w w' := by
  have h := pread_any ⟨#[97, 32, 60, 32, 98, 32, 60, 32, 99]⟩ w hL hC
  rw [show (⟨#[97, 32, 60, 32, 98, 32, 60, 32, 99]⟩ : ByteArray).data.toList = aw2 from rfl, hx] at h
  exact h
theorem consB {w w' : World} (h : ConsAt w) (b : Below w.heap.size w w') : ConsAt w' := h.keep (Kept.of_below (ok := fun _ => True) b) trivial
set_option maxRecDepth 100000 in
set_option maxHeartbeats 4000000 in
theorem awake8 (w : World) (hL : Laid w) (hC : ConsAt w) : Calls Tryz.prog 9 #[] w fun e w' => e = .returned (.bool true) ∧ Below w.heap.size w w' := by
  obtain ⟨x, hx, hxo, hxp⟩ : ∃ x, rdM aw1 = (x, 0, 0) ∧ x.op = 32 ∧ printM x = (aw3, 0) := ⟨(rdM aw1).1, by rw [← aw_code.1], aw_code.2.2, aw_print⟩
  obtain ⟨y, hy⟩ : ∃ y, rdM aw2 = (y, 25, 6) := ⟨(rdM aw2).1, by rw [← aw_code.2.1]⟩
  obtain ⟨hf, hfit, hnum⟩ := rd_fine hx
  have HR1 := Lib.hid (aw_read1 w hL hC x hx)
  have HR2 := Lib.hid (fun W (b : Below w.heap.size w W) => aw_read2 W (hL.below b) (consB hC b) y hy)
  have HPR := Lib.hid (fun p c W (b : Below w.heap.size w W) (hF : FAt W (· < W.heap.size) x.args p) => exprPrint_any x hfit hnum p c W (hL.below b).tab (consB hC b) hF)
  rw [hxp] at HPR
  have HXO := Lib.hid hxo
  have HT1 := Lib.hid (fun W => taken_len W)
  have HT2 := Lib.hid (fun W => taken_any [97] W)
  rw [show takenB [97] = false from rfl] at HT2
  clear hL hC hx hy hf hfit hnum hxp hxo
  go_enter Tryz.func9, Tryz.ntmps9
  go_wp2_with fail
  refine HR1.out.mono ?_
  rintro e w1 ⟨⟨p, c, rfl, hfa⟩, b1⟩
  have hb1 := b1.alloc b1.size (.cells #[.int .i64 x.op, .int .i64 x.num, .string (S x.text), .slice p x.args.len c] 24)
  have HP := Lib.hid (HPR.out p c _ hb1 (FAt.mono (fun g hl _ => hl) _ _ (hfa.keep (Kept.alloc w1 (.cells #[.int .i64 x.op, .int .i64 x.num, .string (S x.text), .slice p x.args.len c] 24)))))
  have HX1 := Lib.hid (Bx.new w1 (.int .i64 x.op) (.int .i64 x.num) (.string (S x.text)) (.slice p x.args.len c))
  have HB1 := Lib.hid hb1
  clear b1 hb1 hfa HPR HR1
  go_wp2_with fail
  refine HP.out.mono ?_
  rintro e w2 ⟨rfl, b2⟩
  have hb2 := HB1.out.trans (b2.mono HB1.out.size)
  have HX2 := Lib.hid (HX1.out.keep (Kept.of_below (ok := fun _ => True) b2) trivial)
  have HR := Lib.hid (HR2.out w2 hb2)
  have HB2 := Lib.hid hb2
  clear b2 hb2 HR2 HP HX1
  go_wp2_with fail
  refine HR.out.mono ?_
  rintro e w3 ⟨⟨q, d, rfl, hfb⟩, b3⟩
  have hb3 := HB2.out.trans (b3.mono HB2.out.size)
  have hx3 := HX2.out.keep (Kept.of_below (ok := fun _ => True) b3) trivial
  have hl3 := hx3.lt
  have c0 : w3.cell? ⟨w1.heap.size, 0, none⟩ = some (.int .i64 32) := by have h := hx3.c0; rw [HXO.out] at h; exact h
  have zx : ∀ o j, (w3.alloc o).cell? ⟨w1.heap.size, j, none⟩ = w3.cell? ⟨w1.heap.size, j, none⟩ := fun o j => Kept.cell (Kept.alloc (ok := fun _ => True) w3 o) trivial hl3
  have HB3 := Lib.hid (hb3.alloc hb3.size (.cells #[.int .i64 y.op, .int .i64 y.num, .string (S y.text), .slice q y.args.len d] 24))
  clear b3 hb3 hx3 hfb HR
  have hs3 : (S (aw3, 0).1 : ByteArray) = ⟨#[108, 101, 110, 40, 91, 49, 44, 32, 50, 93, 41, 32, 60, 32, 97, 32, 43, 32, 50, 32, 42, 32, 45, 98]⟩ := rfl
  rw [hs3]
  go_wp2_with fail
  refine (HT1.out _).mono ?_
  rintro e w4 ⟨rfl, rfl⟩
  go_wp2_with fail
  refine (HT2.out _).mono ?_
  rintro e w4 ⟨rfl, rfl⟩
  go_wp2_with fail
  go_ret
  exact ⟨rfl, HB3.out⟩
end Go.Proofs.YtlmmfhbdebfgkaaGreatDoor.Ex
namespace Go.Proofs.YtlmmfhbdebfgkaaGreatDoor.Ex
open Go.RowKit
open Lx Va
set_option linter.unusedVariables false
set_option linter.unusedSimpArgs false
theorem add_run8 (a b : List UInt8) (h : a.length + b.length ≤ 1000000000) (w : World) : (Op.stringOp .add (S a) (S b)).run Tryz.prog w = .ok (.string (S (a ++ b))) w := by
  rw [run_string_add_sum w _ _ (by rw [S_size, S_size]; omega)]
  exact congrArg (fun x => Result.ok (Value.string x) w) (S_append a b)
theorem pread_l {l : List UInt8} {x : T} {k p : Nat} (h : rdM l = (x, k, p)) (w : World) (hL : Laid w) (hC : ConsAt w) : Calls Tryz.prog 11 #[.string (S l)] w fun e w' =>
    (∃ q c, e = .returned (.tuple #[.agg #[.int .i64 x.op, .int .i64 x.num, .string (S x.text), .slice q x.args.len c], .int .i64 (p : Int), .int .i64 (k : Int)]) ∧ FAt w' (w.heap.size ≤ ·) x.args q) ∧ Below w.heap.size w w' := by
  have hr := pread_any (S l) w hL hC
  rw [show (S l).data.toList = l by simp [S], h] at hr
  exact hr
theorem pread_0 {l : List UInt8} {x : T} {p : Nat} (h : rdM l = (x, 0, p)) (w : World) (hL : Laid w) (hC : ConsAt w) : Calls Tryz.prog 11 #[.string (S l)] w fun e w' =>
    (∃ q c, e = .returned (.tuple #[.agg #[.int .i64 x.op, .int .i64 x.num, .string (S x.text), .slice q x.args.len c], .int .i64 (p : Int), .int .i64 0]) ∧ FAt w' (w.heap.size ≤ ·) x.args q) ∧ Below w.heap.size w w' := pread_l h w hL hC
set_option maxRecDepth 100000 in
set_option maxHeartbeats 8000000 in
theorem again_good (l : List UInt8) (hl : l.length ≤ 7000) (x : T) (pos : Nat) (hr : rdM l = (x, 0, pos)) (y : T) (kk : Int) (hkk : kk = 0 ∨ kk = 26) (qq : Int) (hyx : kk = 0 → y = x) (w : World) (hL : Laid w) (hC : ConsAt w)
    (hPA : ∀ W, Below w.heap.size w W → Calls Tryz.prog 11 #[.string (S (40 :: (l ++ [10, 41])))] W fun e w' =>
      (∃ q c, e = .returned (.tuple #[.agg #[.int .i64 y.op, .int .i64 y.num, .string (S y.text), .slice q y.args.len c], .int .i64 qq, .int .i64 kk]) ∧ FAt w' (W.heap.size ≤ ·) y.args q) ∧ Below W.heap.size W w') :
    Calls Tryz.prog 4 #[.string (S l)] w fun e w' => e = .returned (.bool true) ∧ Below w.heap.size w w' := by
  obtain ⟨hpr, htl, hrd⟩ := read_again hr hl
  obtain ⟨hf, hfit, hnum⟩ := rd_fine hr
  have HA := Lib.hid (fun W (b : Below w.heap.size w W) => awake8 W (hL.below b) (consB hC b))
  have HR := Lib.hid (fun W (b : Below w.heap.size w W) => pread_0 hr W (hL.below b) (consB hC b))
  have HPR := Lib.hid (fun p c W (b : Below w.heap.size w W) (hF : FAt W (· < W.heap.size) x.args p) => exprPrint_any x hfit hnum p c W (hL.below b).tab (consB hC b) hF)
  rw [hpr] at HPR
  have HRT := Lib.hid (fun W (b : Below w.heap.size w W) => pread_0 hrd W (hL.below b) (consB hC b))
  have HPA := Lib.hid hPA
  have HSM := Lib.hid (same_any x hf.wf)
  have HA0 := Lib.hid (HA.out w (Below.refl _ _))
  have hln : ¬ (7000 : Int) < ((S l).size : Int) := by rw [S_size]; omega
  have ha1 : ∀ w, (Op.stringOp .add ⟨#[40]⟩ (S l)).run Tryz.prog w = .ok (.string (S (40 :: l))) w := fun w => add_run8 [40] l (by simp; omega) w
  have ha2 : ∀ w, (Op.stringOp .add (S (40 :: l)) ⟨#[10, 41]⟩).run Tryz.prog w = .ok (.string (S (40 :: (l ++ [10, 41])))) w := fun w => add_run8 (40 :: l) [10, 41] (by simp; omega) w
  generalize S (40 :: (l ++ [10, 41])) = S2 at *
  generalize S (40 :: l) = S1 at *
  have HYX := Lib.hid hyx
  clear hr hpr htl hrd hf hfit hnum hL hC hPA hl hyx
  rcases hkk with rfl | rfl
  all_goals
    go_enter Tryz.func4, Tryz.ntmps4
    go_wp2_with fail
    refine HA0.out.mono ?_
    rintro e w1 ⟨rfl, b1⟩
    have HR1 := Lib.hid (HR.out w1 b1)
    have HB1 := Lib.hid b1
    clear b1
    go_wp2_with fail
    refine HR1.out.mono ?_
    rintro e w2 ⟨⟨p, c, rfl, hfa⟩, b2⟩
    have hb2 := HB1.out.trans (b2.mono HB1.out.size)
    have hb3 := hb2.alloc hb2.size (.cells #[.int .i64 x.op, .int .i64 x.num, .string (S x.text), .slice p x.args.len c] 24)
    have HX3 := Lib.hid (Bx.new w2 (.int .i64 x.op) (.int .i64 x.num) (.string (S x.text)) (.slice p x.args.len c))
    have HF3 := Lib.hid (FAt.mono (ok' := fun _ => True) (fun _ _ _ => trivial) _ _ (hfa.keep (Kept.alloc w2 (.cells #[.int .i64 x.op, .int .i64 x.num, .string (S x.text), .slice p x.args.len c] 24))))
    have HA3 := Lib.hid (HA.out _ hb3)
    have HB3 := Lib.hid hb3
    clear b2 hb2 hb3 hfa HR1 HB1
    go_wp2_with fail
    refine HA3.out.mono ?_
    rintro e w4 ⟨rfl, b4⟩
    have hb4 := HB3.out.trans (b4.mono HB3.out.size)
    have hx4 := HX3.out.keep (Kept.of_below (ok := fun _ => True) b4) trivial
    have hf4 := HF3.out.keep (Kept.of_below (ok := fun _ => True) b4)
    have HP4 := Lib.hid (HPR.out p c w4 hb4 (FAt.mono (fun g hl _ => hl) _ _ hf4))
    have x0 := hx4.c0
    have x1 := hx4.c1
    have x2 := hx4.c2
    have x3 := hx4.c3
    have HX4 := Lib.hid hx4
    have HF4 := Lib.hid hf4
    have HB4 := Lib.hid hb4
    clear b4 hb4 hx4 hf4 HA3 HX3 HF3 HB3
    go_wp2_with fail
    refine HP4.out.mono ?_
    rintro e w5 ⟨rfl, b5⟩
    have hb5 := HB4.out.trans (b5.mono HB4.out.size)
    have HX5 := Lib.hid (HX4.out.keep (Kept.of_below (ok := fun _ => True) b5) trivial)
    have HF5 := Lib.hid (HF4.out.keep (Kept.of_below (ok := fun _ => True) b5))
    have HR5 := Lib.hid (HRT.out w5 hb5)
    have HB5 := Lib.hid hb5
    clear b5 hb5 HP4 HX4 HF4 HB4 x0 x1 x2 x3
    go_wp2_with fail
    refine HR5.out.mono ?_
    rintro e w6 ⟨⟨p2, c2, rfl, hfb⟩, b6⟩
    have hb6 := HB5.out.trans (b6.mono HB5.out.size)
    have hb7 := hb6.alloc hb6.size (.cells #[.int .i64 x.op, .int .i64 x.num, .string (S x.text), .slice p2 x.args.len c2] 24)
    have HX7 := Lib.hid ((HX5.out.keep (Kept.of_below (ok := fun _ => True) b6) trivial).keep (Kept.alloc (ok := fun _ => True) w6 (.cells #[.int .i64 x.op, .int .i64 x.num, .string (S x.text), .slice p2 x.args.len c2] 24)) trivial)
    have HY7 := Lib.hid (Bx.new w6 (.int .i64 x.op) (.int .i64 x.num) (.string (S x.text)) (.slice p2 x.args.len c2))
    have HF7 := Lib.hid ((HF5.out.keep (Kept.of_below (ok := fun _ => True) b6)).keep (Kept.alloc w6 (.cells #[.int .i64 x.op, .int .i64 x.num, .string (S x.text), .slice p2 x.args.len c2] 24)))
    have HG7 := Lib.hid (FAt.mono (ok' := fun _ => True) (fun _ _ _ => trivial) _ _ (hfb.keep (Kept.alloc w6 (.cells #[.int .i64 x.op, .int .i64 x.num, .string (S x.text), .slice p2 x.args.len c2] 24))))
    have HR7 := Lib.hid (HPA.out _ hb7)
    have HB7 := Lib.hid hb7
    clear b6 hb6 hb7 hfb HR5 HX5 HF5 HB5
    go_wp2_with fail
    refine HR7.out.mono ?_
    rintro e w8 ⟨⟨p3, c3, rfl, hfc⟩, b8⟩
    have hb8 := HB7.out.trans (b8.mono HB7.out.size)
    obtain ⟨W9, hW9⟩ : ∃ W9, W9 = w8.alloc (.cells #[.int .i64 y.op, .int .i64 y.num, .string (S y.text), .slice p3 y.args.len c3] 24) := ⟨_, rfl⟩
    have k9 : Kept (fun _ => True) w8 W9 := by rw [hW9]; exact Kept.alloc _ _
    have hb9 : Below w.heap.size w W9 := by rw [hW9]; exact hb8.alloc hb8.size _
    have hx9 := (HX7.out.keep (Kept.of_below (ok := fun _ => True) b8) trivial).keep k9 trivial
    have hy9 := (HY7.out.keep (Kept.of_below (ok := fun _ => True) b8) trivial).keep k9 trivial
    have hz9 : Bx W9 w8.heap.size (.int .i64 y.op) (.int .i64 y.num) (.string (S y.text)) (.slice p3 y.args.len c3) := by rw [hW9]; exact Bx.new _ _ _ _ _
    have hf9 := (HF7.out.keep (Kept.of_below (ok := fun _ => True) b8)).keep k9
    have hg9 := (HG7.out.keep (Kept.of_below (ok := fun _ => True) b8)).keep k9
    have hh9 := FAt.mono (ok' := fun _ => True) (fun _ _ _ => trivial) _ _ (hfc.keep (k9.mono fun _ _ => trivial))
    have x0 := hx9.c0
    have x1 := hx9.c1
    have x2 := hx9.c2
    have x3 := hx9.c3
    have y0 := hy9.c0
    have y1 := hy9.c1
    have y2 := hy9.c2
    have y3 := hy9.c3
    have z0 := hz9.c0
    have z1 := hz9.c1
    have z2 := hz9.c2
    have z3 := hz9.c3
    have HS9 := Lib.hid (HSM.out p2 p c2 c W9 hg9 hf9)
    have HW9 := Lib.hid hW9
    have HX9 := Lib.hid hx9
    have HF9 := Lib.hid hf9
    have HZ9 := Lib.hid hz9
    have HH9 := Lib.hid hh9
    have HB9 := Lib.hid hb9
    clear b8 hb8 hW9 k9 hb9 hx9 hy9 hz9 hf9 hg9 hh9 hfc HR7 HX7 HY7 HF7 HG7 HB7
    go_upto_region 9 with fail
    rw [← HW9.out]
    go_wp2_with fail
    refine HS9.out.mono ?_
    rintro e w10 ⟨rfl, b10⟩
    have hb10 := HB9.out.trans (b10.mono HB9.out.size)
    have HB10 := Lib.hid hb10
  · -- read as the same
    obtain rfl : y = x := HYX.out (by simp)
    have hx10 := HX9.out.keep (Kept.of_below (ok := fun _ => True) b10) trivial
    have hz10 := HZ9.out.keep (Kept.of_below (ok := fun _ => True) b10) trivial
    have HS10 := Lib.hid (HSM.out p3 p c3 c w10 (HH9.out.keep (Kept.of_below (ok := fun _ => True) b10)) (HF9.out.keep (Kept.of_below (ok := fun _ => True) b10)))
    clear x0 x1 x2 x3 y0 y1 y2 y3 z0 z1 z2 z3
    have x0 := hx10.c0
    have x1 := hx10.c1
    have x2 := hx10.c2
    have x3 := hx10.c3
    have z0 := hz10.c0
    have z1 := hz10.c1
    have z2 := hz10.c2
    have z3 := hz10.c3
    clear b10 hb10 hx10 hz10
    go_wp2_with fail
    refine HS10.out.mono ?_
    rintro e w11 ⟨rfl, b11⟩
    have HB11 := Lib.hid (HB10.out.trans (b11.mono HB10.out.size))
    clear b11
    go_wp2_with fail
    go_ret
    exact ⟨rfl, HB11.out⟩
  · clear b10 hb10
    go_wp2_with fail
    go_ret
    exact ⟨rfl, HB10.out⟩
set_option maxRecDepth 100000 in
set_option maxHeartbeats 8000000 in
theorem again_bad (l : List UInt8) (hlb : l.length ≤ 140737488355328) (x : T) (k pos : Nat) (hr : rdM l = (x, k, pos)) (hbad : ((k : Int) != 0) = true ∨ (((k : Int) != 0) = false ∧ 7000 < l.length)) (w : World) (hL : Laid w) (hC : ConsAt w) :
    Calls Tryz.prog 4 #[.string (S l)] w fun e w' => e = .returned (.bool true) ∧ Below w.heap.size w w' := by
  have HA := Lib.hid (fun W (b : Below w.heap.size w W) => awake8 W (hL.below b) (consB hC b))
  have HR := Lib.hid (fun W (b : Below w.heap.size w W) => pread_l hr W (hL.below b) (consB hC b))
  have HA0 := Lib.hid (HA.out w (Below.refl _ _))
  have hss : ((S l).size : Int) = (l.length : Int) := by rw [S_size]
  have hbig : ((k : Int) != 0) = true ∨ (((k : Int) != 0) = false ∧ (7000 : Int) < ((S l).size : Int)) := by
    rcases hbad with h | ⟨h1, h2⟩
    · exact .inl h
    · exact .inr ⟨h1, by omega⟩
  clear hr hbad hL hC hss
  rcases hbig with hbad | ⟨hbad, hbig⟩
  all_goals
    go_enter Tryz.func4, Tryz.ntmps4
    go_wp2_with fail
    refine HA0.out.mono ?_
    rintro e w1 ⟨rfl, b1⟩
    have HR1 := Lib.hid (HR.out w1 b1)
    have HB1 := Lib.hid b1
    clear b1
    go_wp2_with fail
    refine HR1.out.mono ?_
    rintro e w2 ⟨⟨p, c, rfl, hfa⟩, b2⟩
    have hb2 := HB1.out.trans (b2.mono HB1.out.size)
    have hb3 := hb2.alloc hb2.size (.cells #[.int .i64 x.op, .int .i64 x.num, .string (S x.text), .slice p x.args.len c] 24)
    have HA3 := Lib.hid (HA.out _ hb3)
    have HB3 := Lib.hid hb3
    clear b2 hb2 hb3 hfa HR1 HB1
    go_wp2_with fail
    refine HA3.out.mono ?_
    rintro e w4 ⟨rfl, b4⟩
    have hb4 := HB3.out.trans (b4.mono HB3.out.size)
    have HA4 := Lib.hid (HA.out _ hb4)
    have HB4 := Lib.hid hb4
    clear b4 hb4 HA3 HB3
    go_wp2_with fail
    refine HA4.out.mono ?_
    rintro e w5 ⟨rfl, b5⟩
    have HB5 := Lib.hid (HB4.out.trans (b5.mono HB4.out.size))
    clear b5
    go_wp2_with fail
    go_ret
    exact ⟨rfl, HB5.out⟩
theorem again_walk (s : ByteArray) (w : World) (_ : s.size ≤ maxLen) (hz : s.size ≤ 140737488355328) (hL : Laid w) (hC : ConsAt w) :
    Calls Tryz.prog 4 #[.string s] w fun e w' => e = .returned (.bool true) ∧ Below w.heap.size w w' := by
  obtain ⟨l, rfl⟩ : ∃ l, s = S l := ⟨s.data.toList, (S_list s).symm⟩
  rw [S_size] at hz
  obtain ⟨x, k, pos, hr⟩ : ∃ x k pos, rdM l = (x, k, pos) := ⟨_, _, _, rfl⟩
  by_cases hgo : k = 0 ∧ l.length ≤ 7000
  · obtain ⟨rfl, hl⟩ := hgo
    rcases read_paren hr hl with ⟨q, hq⟩ | ⟨y, q, hq⟩
    · exact again_good l hl x pos hr x 0 (.inl rfl) q (fun _ => rfl) w hL hC (fun W b => pread_0 hq W (hL.below b) (consB hC b))
    · exact again_good l hl x pos hr y 26 (.inr rfl) q (fun h => by cases h) w hL hC (fun W b => pread_l hq W (hL.below b) (consB hC b))
  · refine again_bad l hz x k pos hr ?_ w hL hC
    by_cases h : k = 0
    · right; subst h; exact ⟨rfl, by have := fun h2 => hgo ⟨rfl, h2⟩; omega⟩
    · left; simp; omega
end Go.Proofs.YtlmmfhbdebfgkaaGreatDoor.Ex
