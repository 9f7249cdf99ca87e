/-
  ExWrJ, ExL8.
-/
import Derived.Test.YtlmmfhbdebfgkaaGreatDoorZExWrHQ
import Derived.Test.YtlmmfhbdebfgkaaGreatDoorZExPsR
import Derived.Test.YtlmmfhbdebfgkaaGreatDoorZExSameQ
import Derived.Test.YtlmmfhbdebfgkaaGreatDoorZExTakenQ
import Derived.Lib.UnsafeStr
namespace Go.Proofs.YtlmmfhbdebfgkaaGreatDoor.Ex
open Go.RowKit
open Lx Va
theorem cells_u8 : Tryz.prog.cellsOf 5 = 1 := by kernel_rfl
set_option maxRecDepth 100000 in
set_option maxHeartbeats 4000000 in
theorem wstring_any (b : Nat) (l : List UInt8) (o d : Int) (w : World) (h : Wr w b l o d) (h0 : l ≠ []) :
    Calls Tryz.prog 23 #[.pointer (some ⟨b, 0, none⟩)] w fun e w' => e = .returned (.string (S l)) ∧ Below b w w' := by
  obtain ⟨p, v, hb, hp, hown⟩ := h.has
  have hl0 : l.length ≠ 0 := by simpa using h0
  obtain ⟨g, cap, cur, fz, rfl, hbg, hg, hfz, hnc, hcm, hcs, htake⟩ : ∃ g cap cur fz, v = .slice (some ⟨g, 0, none⟩) l.length cap ∧ b + 1 ≤ g ∧ w.heap[g]? = some (.cells cur 5 fz) ∧ fz.2 ≤ l.length * 1 ∧ l.length ≤ cap ∧ cap ≤ maxLen ∧ cur.size = cap * 1 ∧ cur.toList.take (l.length * 1) = Lib.byteCells l := by
    rcases (World.ownsRowF_of hown).2 with ⟨_, hz⟩ | ⟨g, cap, cur, fz, hv, r⟩
    · exact absurd hz hl0
    · exact ⟨g, cap, cur, fz, hv, r⟩
  have c1 : w.drew.cell? ⟨b, 1, none⟩ = some (.slice (some ⟨g, 0, none⟩) l.length cap) := hb.c1
  have hSD : (Builtin.unsafeSliceData_ #[67] 107 #[.slice (some ⟨g, 0, none⟩) l.length cap]).run Tryz.prog w.drew = .ok (.pointer (some ⟨g, 0, none⟩)) w.drew :=
    Lib.run_unsafeSliceData_row _ _ _ _ _ _ (by omega)
  have hUS : (Builtin.unsafeString_ #[107, 3] 9 #[.pointer (some ⟨g, 0, none⟩), .int .i64 l.length]).run Tryz.prog w.drew = .ok (.string ⟨l.toArray⟩) (w.drew.freeze ⟨g, 0, none⟩ l.length) := by
    refine Lib.run_unsafeString_row w.drew 107 3 9 5 Tryz.underlying107 cells_u8 g cur.size (by have hg' : w.drew.heap[g]? = some (.cells cur 5 fz) := hg; simp [World.shape?, hg']) l h0 (by omega) (by unfold maxLen at hcm; omega) ?_
    intro j x hx
    have := (World.ownsRowF_of hown).cells (g := g) rfl j (.int .u8 x.toNat) (by simp [Lib.byteCells, hx])
    exact this
  clear hb hp hown h hfz hnc hcm hcs htake
  have mixed : Tryz.prog.follows Departure.mixedOrders = true := by kernel_rfl
  go_enter Tryz.func23, Tryz.ntmps23
  go_wp2
  go_region_o
  all_goals (go_wp2; go_ret; exact ⟨rfl, Lib.below_freeze (Below.drew (Below.refl b w)) (p := ⟨g, 0, none⟩) (by show b ≤ g; omega) _⟩)
set_option linter.unusedVariables false
set_option maxRecDepth 100000 in
set_option maxHeartbeats 8000000 in
theorem exprPrint_any (t : T) (hfit : t.row.fits) (hnums : t.row.nums) (p : Option Addr) (c : Nat) (w : World) (htab : Tab w) (hC : ConsAt w) (hF : FAt w (· < w.heap.size) t.args p) :
    Calls Tryz.prog 10 #[.agg #[.int .i64 t.op, .int .i64 t.num, .string (S t.text), .slice p t.args.len c]] w fun e w' => e = .returned (.tuple #[.string (S (printM t).1), .int .i64 ((printM t).2 : Nat)]) ∧ Below w.heap.size w w' := by
  have hc0 := chkF_count t.row 0 (by omega)
  have htx := tx_len t hnums
  obtain ⟨W1, hW1⟩ : ∃ W1, W1 = w.alloc (.cells #[.int .i64 t.op, .int .i64 t.num, .string (S t.text), .slice p t.args.len c] 24) := ⟨_, rfl⟩
  have hs1 : W1.heap.size = w.heap.size + 1 := by rw [hW1]; simp
  have b1 : Below w.heap.size w W1 := by rw [hW1]; exact (Below.refl _ _).alloc (Nat.le_refl _) _
  have b2 : Below w.heap.size w (W1.alloc (.cells #[.int .i64 0] 64)) := b1.alloc (by omega) _
  have hck : Ck (W1.alloc (.cells #[.int .i64 0] 64)) W1.heap.size 0 := heap_alloc_new W1 _
  have hbx1 := Bx.new w (.int .i64 t.op) (.int .i64 t.num) (.string (S t.text)) (.slice p t.args.len c)
  rw [← hW1] at hbx1
  have hbx2 := hbx1.keep (Kept.alloc (ok := fun _ => True) W1 (.cells #[.int .i64 0] 64)) trivial
  have hFk := hF.keep (Kept.of_below (ok := (· < w.heap.size)) b2)
  rw [hs1] at hck
  have hF2 : FAt (W1.alloc (.cells #[.int .i64 0] 64)) (· ≠ w.heap.size + 1) t.args p := FAt.mono (fun g _ hg => by omega) _ _ hFk
  have HCH := Lib.hid (chk_any (w.heap.size + 1) t hfit 0 p c _ (by omega) hck (hC.keep (Kept.of_below (ok := fun _ => True) b2) trivial) (by have := hC.2; omega) hF2)
  have HB2 := Lib.hid b2
  have HFK := Lib.hid hFk
  have HBX2 := Lib.hid hbx2
  have HS2 := Lib.hid (show (W1.alloc (.cells #[.int .i64 0] 64)).heap.size = w.heap.size + 1 + 1 by simp [hs1])
  have HTX := Lib.hid htx
  have HTAB := Lib.hid htab
  have HC := Lib.hid hC
  have HFI := Lib.hid hfit
  rw [hW1] at HCH HB2 HFK HBX2 HS2
  clear hW1 hs1 b1 b2 hck hbx1 hbx2 hFk hF2 htx htab hC hF W1
  by_cases hbad : (t.chk 0).1 = 0
  · obtain ⟨hok, hlen, hop, hne⟩ := HTX.out hbad
    have HPM := Lib.hid (show printM t = if 20 < t.tx.open_ then ([], 26) else (t.tx.text, 0) by unfold printM; rw [if_neg (by simpa using hbad)])
    rw [hbad] at HCH
    have HOK := Lib.hid hok
    have HNE := Lib.hid hne
    clear hok hne hbad
    go_enter Tryz.func10, Tryz.ntmps10
    go_wp2_with fail
    refine HCH.out.mono ?_
    rintro e w3 ⟨rfl, o3, _⟩
    have hb3 := Only.below HB2.out o3 (by rw [HS2.out]; omega) (by omega)
    have hx3 := HBX2.out.keep o3.kept (by show w.heap.size ≠ w.heap.size + 1; omega)
    have HX3 := Lib.hid hx3
    obtain ⟨W4, hW4⟩ : ∃ W4, W4 = w3.alloc (.cells #[.pointer none, .slice none 0 0, .int .i64 0, .int .i64 0] 71) := ⟨_, rfl⟩
    have hb4 : Below w.heap.size w W4 := by rw [hW4]; exact hb3.alloc hb3.size _
    have hwb : WrB W4 w3.heap.size (.pointer none) (.slice none 0 0) 0 0 := by rw [hW4]; exact heap_alloc_new w3 _
    have hWr : Wr W4 w3.heap.size [] (0 : Nat) (0 : Nat) := ⟨_, _, hwb, .inl rfl, World.ownsRow_nil _ _ _ _⟩
    have hF4 : FAt W4 (Oth W4 w3.heap.size) t.args p := by
      have h1 := HFK.out.keep (w' := W4) (by rw [hW4]; exact (Kept.of_below (ok := (· < w.heap.size)) (Below.refl _ _)).trans ((o3.kept.mono (fun g hg => by show g ≠ w.heap.size + 1; omega)).trans (Kept.alloc w3 _)))
      exact FAt.mono (fun g _ hg => Oth.low hWr (by have := hb3.size; omega)) _ _ h1
    have hx4 := hx3.keep (Kept.alloc (ok := fun _ => True) w3 (.cells #[.pointer none, .slice none 0 0, .int .i64 0, .int .i64 0] 71)) trivial
    have p0 := hx4.c0
    have p1 := hx4.c1
    have p2 := hx4.c2
    have p3 := hx4.c3
    have hcall := (tree_all w w3.heap.size ⟨HTAB.out, HC.out, hb3.size⟩ t.row HFI.out HOK.out).1 [] 0 0 p c W4 (by show 0 + t.tx.open_ ≤ 100000; omega) (by show 0 + t.tx.text.length ≤ 1000000000; omega) (Nat.le_refl _) hWr hb4 hF4
    have HCALL := Lib.hid (show Calls Tryz.prog 22 #[.pointer (some ⟨w3.heap.size, 0, none⟩), .agg #[.int .i64 t.op, .int .i64 t.num, .string (S t.text), .slice p t.args.len c]] W4 (fun e w' => e = .returned (.tuple #[]) ∧ Wr w' w3.heap.size t.tx.text (0 : Nat) ((t.tx.open_ : Nat) : Int) ∧ Wk w3.heap.size W4 w') from by
      refine hcall.mono ?_
      rintro e w' ⟨h1, h2, h3⟩
      have e1 : max 0 (0 + t.tx.open_) = t.tx.open_ := by omega
      have h2' : Wr w' w3.heap.size t.tx.text (0 : Nat) ((max 0 (0 + t.tx.open_) : Nat) : Int) := h2
      rw [e1] at h2'
      exact ⟨h1, h2', h3⟩)
    have HB4 := Lib.hid hb4
    have HW4 := Lib.hid hW4
    have hb3s := hb3.size
    rw [← hW4] at p0 p1 p2 p3
    clear hb3 hx3 hb4 hwb hWr hF4 hx4 hcall o3
    rw [hW4] at p0 p1 p2 p3 HCALL HB4
    clear hW4 HW4
    go_wp2_with fail
    refine HCALL.out.mono ?_
    rintro e w5 ⟨rfl, hw5, k5⟩
    have c3 := hw5.c3
    have HW5 := Lib.hid hw5
    have HB5 := Lib.hid (HB4.out.trans (k5.below.mono hb3s))
    clear hw5 k5
    by_cases h20 : 20 < t.tx.open_
    · have HR := Lib.hid (show printM t = ([], 26) by rw [HPM.out, if_pos h20])
      have h20i : (20 : Int) < (t.tx.open_ : Int) := by omega
      go_wp2_with fail
      go_ret2
      rw [HR.out]
      exact ⟨rfl, HB5.out⟩
    · have HR := Lib.hid (show printM t = (t.tx.text, 0) by rw [HPM.out, if_neg h20])
      have h20i : ¬ (20 : Int) < (t.tx.open_ : Int) := by omega
      have HST := Lib.hid (wstring_any w3.heap.size t.tx.text (0 : Nat) ((t.tx.open_ : Nat) : Int) w5 HW5.out HNE.out)
      go_wp2_with fail
      refine HST.out.mono ?_
      rintro e w6 ⟨rfl, b6⟩
      have HB6 := Lib.hid (HB5.out.trans (b6.mono hb3s))
      clear b6
      go_wp2_with fail
      go_ret2
      rw [HR.out]
      exact ⟨rfl, HB6.out⟩
  · have hpm : printM t = ([], (t.chk 0).1) := by unfold printM; rw [if_pos hbad]
    rw [hpm]
    simp only
    generalize hcd : (t.chk 0).1 = cd at *
    have hce2 : ((cd : Int) == 0) = false := by rw [beq_eq_false_iff_ne]; omega
    have hce3 : ((cd : Int) != 0) = true := by simp; exact hbad
    go_enter Tryz.func10, Tryz.ntmps10
    go_wp2_with fail
    refine HCH.out.mono ?_
    rintro e w3 ⟨rfl, o3, _⟩
    have HB3 := Lib.hid (Only.below HB2.out o3 (by rw [HS2.out]; omega) (by omega))
    clear o3
    go_wp2_with fail
    try simp only [Exit.inBlock, Exit.then]
    go_ret2
    exact ⟨rfl, HB3.out⟩
end Go.Proofs.YtlmmfhbdebfgkaaGreatDoor.Ex
namespace Go.Proofs.YtlmmfhbdebfgkaaGreatDoor.Ex
open Go.RowKit
open Lx Va
set_option linter.unusedVariables false
set_option linter.unusedSimpArgs false
theorem nums_of : ∀ f : F, NumF f → f.nums
  | .nil, _ => trivial
  | .cons _ _ _ a r, ⟨h1, h2, h3⟩ => ⟨h1, nums_of a h2, nums_of r h3⟩
theorem of_nums : ∀ f : F, f.nums → NumF f
  | .nil, _ => trivial
  | .cons _ _ _ a r, ⟨h1, h2, h3⟩ => ⟨h1, of_nums a h2, of_nums r h3⟩
theorem wf_len {o n : Int} {t : List UInt8} {a : F} (h1 : formedB o n t a.len = true) : a.len ≤ 16 := by
  rcases node_kinds (frm h1) with ⟨_, rfl⟩ | ⟨_, h⟩ | ⟨_, x, rfl⟩ | ⟨_, x, rfl⟩ | ⟨_, x, y, rfl⟩ | ⟨_, x, y, rfl⟩
  · show 0 ≤ 16; omega
  · exact h
  · show 1 ≤ 16; omega
  · show 1 ≤ 16; omega
  · show 2 ≤ 16; omega
  · show 2 ≤ 16; omega
theorem wf_fits : ∀ f : F, WfF f → f.fits
  | .nil, _ => trivial
  | .cons o n t a r, ⟨h1, h2, h3, h4⟩ => by
    refine ⟨?_, Nat.le_trans (wf_len h1) (by omega), wf_fits a h3, wf_fits r h4⟩
    have hf := frm h1
    rcases hf.text with h | h | h | h | h
    · rw [h]; simp
    · have := hf.short h; omega
    · have := (nameB_ne (named_six h2 (by simp [h]))).2.1; omega
    · have := (nameB_ne (named_six h2 (by simp [h]))).2.1; omega
    · have := (nameB_ne (named_six h2 (by simp [h]))).2.1; omega
def aw1 : List UInt8 := [97, 32, 43, 32, 50, 32, 42, 32, 45, 98, 32, 62, 32, 108, 101, 110, 40, 91, 49, 44, 32, 50, 93, 41]
def aw2 : List UInt8 := [97, 32, 60, 32, 98, 32, 60, 32, 99]
def aw3 : List UInt8 := [108, 101, 110, 40, 91, 49, 44, 32, 50, 93, 41, 32, 60, 32, 97, 32, 43, 32, 50, 32, 42, 32, 45, 98]
set_option maxRecDepth 100000 in
theorem aw_code : (rdM aw1).2 = (0, 0) ∧ (rdM aw2).2 = (25, 6) ∧ (rdM aw1).1.op = 32 := by decide +kernel
set_option maxRecDepth 100000 in
theorem aw_print : printM (rdM aw1).1 = (aw3, 0) := by decide +kernel
theorem rd_fine {l : List UInt8} {x : T} {p : Nat} (h : rdM l = (x, 0, p)) : Fine x ∧ x.row.fits ∧ x.row.nums := by
  obtain ⟨_, _, m, e, s, hx⟩ := rd_ok h
  have hf := hx.fine.1
  exact ⟨hf, wf_fits x.row hf.wf, nums_of x.row hf.num⟩
theorem aw_read1 (w : World) (hL : Laid w) (hC : ConsAt w) (x : T) (hx : rdM aw1 = (x, 0, 0)) : Calls Tryz.prog 11 #[.string ⟨#[97, 32, 43, 32, 50, 32, 42, 32, 45, 98, 32, 62, 32, 108, 101, 110, 40, 91, 49, 44, 32, 50, 93, 41]⟩] w fun e w' => (∃ p c, e = .returned (.tuple #[.agg #[.int .i64 x.op, .int .i64 x.num, .string (S x.text), .slice p x.args.len c], .int .i64 0, .int .i64 0]) ∧ FAt w' (w.heap.size ≤ ·) x.args p) ∧ Below w.heap.size w w' := by
  have h := pread_any ⟨#[97, 32, 43, 32, 50, 32, 42, 32, 45, 98, 32, 62, 32, 108, 101, 110, 40, 91, 49, 44, 32, 50, 93, 41]⟩ w hL hC
  rw [show (⟨#[97, 32, 43, 32, 50, 32, 42, 32, 45, 98, 32, 62, 32, 108, 101, 110, 40, 91, 49, 44, 32, 50, 93, 41]⟩ : ByteArray).data.toList = aw1 from rfl, hx] at h
  exact h
theorem aw_read2 (w : World) (hL : Laid w) (hC : ConsAt w) (x : T) (hx : rdM aw2 = (x, 25, 6)) : Calls Tryz.prog 11 #[.string ⟨#[97, 32, 60, 32, 98, 32, 60, 32, 99]⟩] w fun e w' => (∃ p c, e = .returned (.tuple #[.agg #[.int .i64 x.op, .int .i64 x.num, .string (S x.text), .slice p x.args.len c], .int .i64 6, .int .i64 25]) ∧ FAt w' (w.heap.size ≤ ·) x.args p) ∧ Below w.heap.size w w' := by
  have h := pread_any ⟨#[97, 32, 60, 32, 98, 32, 60, 32, 99]⟩ w hL hC
  rw [show (⟨#[97, 32, 60, 32, 98, 32, 60, 32, 99]⟩ : ByteArray).data.toList = aw2 from rfl, hx] at h
  exact h
theorem consB {w w' : World} (h : ConsAt w) (b : Below w.heap.size w w') : ConsAt w' := h.keep (Kept.of_below (ok := fun _ => True) b) trivial
set_option maxRecDepth 100000 in
set_option maxHeartbeats 4000000 in
theorem awake8 (w : World) (hL : Laid w) (hC : ConsAt w) : Calls Tryz.prog 9 #[] w fun e w' => e = .returned (.bool true) ∧ Below w.heap.size w w' := by
  obtain ⟨x, hx, hxo, hxp⟩ : ∃ x, rdM aw1 = (x, 0, 0) ∧ x.op = 32 ∧ printM x = (aw3, 0) := ⟨(rdM aw1).1, by rw [← aw_code.1], aw_code.2.2, aw_print⟩
  obtain ⟨y, hy⟩ : ∃ y, rdM aw2 = (y, 25, 6) := ⟨(rdM aw2).1, by rw [← aw_code.2.1]⟩
  obtain ⟨hf, hfit, hnum⟩ := rd_fine hx
  have HR1 := Lib.hid (aw_read1 w hL hC x hx)
  have HR2 := Lib.hid (fun W (b : Below w.heap.size w W) => aw_read2 W (hL.below b) (consB hC b) y hy)
  have HPR := Lib.hid (fun p c W (b : Below w.heap.size w W) (hF : FAt W (· < W.heap.size) x.args p) => exprPrint_any x hfit hnum p c W (hL.below b).tab (consB hC b) hF)
  rw [hxp] at HPR
  have HXO := Lib.hid hxo
  have HT1 := Lib.hid (fun W => taken_len W)
  have HT2 := Lib.hid (fun W => taken_any [97] W)
  rw [show takenB [97] = false from rfl] at HT2
  clear hL hC hx hy hf hfit hnum hxp hxo
  go_enter Tryz.func9, Tryz.ntmps9
  go_wp2_with fail
  refine HR1.out.mono ?_
  rintro e w1 ⟨⟨p, c, rfl, hfa⟩, b1⟩
  have hb1 := b1.alloc b1.size (.cells #[.int .i64 x.op, .int .i64 x.num, .string (S x.text), .slice p x.args.len c] 24)
  have HP := Lib.hid (HPR.out p c _ hb1 (FAt.mono (fun g hl _ => hl) _ _ (hfa.keep (Kept.alloc w1 (.cells #[.int .i64 x.op, .int .i64 x.num, .string (S x.text), .slice p x.args.len c] 24)))))
  have HX1 := Lib.hid (Bx.new w1 (.int .i64 x.op) (.int .i64 x.num) (.string (S x.text)) (.slice p x.args.len c))
  have HB1 := Lib.hid hb1
  clear b1 hb1 hfa HPR HR1
  go_wp2_with fail
  refine HP.out.mono ?_
  rintro e w2 ⟨rfl, b2⟩
  have hb2 := HB1.out.trans (b2.mono HB1.out.size)
  have HX2 := Lib.hid (HX1.out.keep (Kept.of_below (ok := fun _ => True) b2) trivial)
  have HR := Lib.hid (HR2.out w2 hb2)
  have HB2 := Lib.hid hb2
  clear b2 hb2 HR2 HP HX1
  go_wp2_with fail
  refine HR.out.mono ?_
  rintro e w3 ⟨⟨q, d, rfl, hfb⟩, b3⟩
  have hb3 := HB2.out.trans (b3.mono HB2.out.size)
  have hx3 := HX2.out.keep (Kept.of_below (ok := fun _ => True) b3) trivial
  have hl3 := hx3.lt
  have c0 : w3.cell? ⟨w1.heap.size, 0, none⟩ = some (.int .i64 32) := by have h := hx3.c0; rw [HXO.out] at h; exact h
  have zx : ∀ o j, (w3.alloc o).cell? ⟨w1.heap.size, j, none⟩ = w3.cell? ⟨w1.heap.size, j, none⟩ := fun o j => Kept.cell (Kept.alloc (ok := fun _ => True) w3 o) trivial hl3
  have HB3 := Lib.hid (hb3.alloc hb3.size (.cells #[.int .i64 y.op, .int .i64 y.num, .string (S y.text), .slice q y.args.len d] 24))
  clear b3 hb3 hx3 hfb HR
  have hs3 : (S (aw3, 0).1 : ByteArray) = ⟨#[108, 101, 110, 40, 91, 49, 44, 32, 50, 93, 41, 32, 60, 32, 97, 32, 43, 32, 50, 32, 42, 32, 45, 98]⟩ := rfl
  rw [hs3]
  go_wp2_with fail
  refine (HT1.out _).mono ?_
  rintro e w4 ⟨rfl, rfl⟩
  go_wp2_with fail
  refine (HT2.out _).mono ?_
  rintro e w4 ⟨rfl, rfl⟩
  go_wp2_with fail
  go_ret
  exact ⟨rfl, HB3.out⟩
end Go.Proofs.YtlmmfhbdebfgkaaGreatDoor.Ex
