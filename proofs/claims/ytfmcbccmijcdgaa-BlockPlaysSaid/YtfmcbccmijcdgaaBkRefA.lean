/-
  The document's own device: Fuse, Lasting.
-/
import Derived.Test.YtfmcbccmijcdgaaBkRef
namespace Go.Proofs.Ytfmcbccmijcdgaa.Bk
open Go.RowKit

set_option maxRecDepth 100000 in
theorem refFuse_any {w : World} {B : Nat} {lv wv tv : Value} {d : Dev} (h : RefAt w B lv wv tv d) (n : Int) (hn : n ≤ 9223372036854775807) (keep : Nat) (hk : keep < 18446744073709551616) (torn at_ : Int) :
    Calls Try.prog 14 #[.pointer (some ⟨B, 0, none⟩), .int .i64 n, .agg #[.int .u64 (keep : Int), .int .i64 torn, .int .i64 at_]] w fun e w' =>
      e = .returned (.tuple #[]) ∧ RefAt w' B lv wv tv { d with calls := (max 0 n).toNat, keep := keep, torn := torn, at_ := at_ } ∧ Onl [B] w w' := by
  have hN : max 0 n = (((max 0 n).toNat : Nat) : Int) := by omega
  have hNb : (max 0 n).toNat ≤ 9223372036854775807 := by omega
  generalize (max 0 n).toNat = N at *
  have h0 := h.later ((Onl.refl [] w).alloc (.cells #[.int .u64 (keep : Int), .int .i64 torn, .int .i64 at_] 30)) (by simp)
  have h1 := h0.own_set (d' := { d with calls := N }) 3 (.int .i64 (N : Int)) rfl rfl rfl hNb h.keep
  have h2 := h1.own_set (d' := { d with calls := N, keep := keep }) 4 (.int .u64 (keep : Int)) rfl rfl rfl hNb hk
  have h3 := h2.own_set (d' := { d with calls := N, keep := keep, torn := torn }) 5 (.int .i64 torn) rfl rfl rfl hNb hk
  have h4 := h3.own_set (d' := { d with calls := N, keep := keep, torn := torn, at_ := at_ }) 6 (.int .i64 at_) rfl rfl rfl hNb hk
  have HR := Lib.hid h4
  have HO := Lib.hid ((((((Onl.refl [B] w).alloc (.cells #[.int .u64 (keep : Int), .int .i64 torn, .int .i64 at_] 30)).setCell (p := ⟨B, 3, none⟩) (by simp) (.int .i64 (N : Int))).setCell (p := ⟨B, 4, none⟩) (by simp) (.int .u64 (keep : Int))).setCell (p := ⟨B, 5, none⟩) (by simp) (.int .i64 torn)).setCell (p := ⟨B, 6, none⟩) (by simp) (.int .i64 at_))
  obtain ⟨⟨c0, c1, c2, c3, c4, c5, c6, c7⟩, hf, hlt⟩ := h0.cells
  have f3 := hf 3
  have f4 := hf 4
  have f5 := hf 5
  have f6 := hf 6
  have hne : w.heap.size ≠ B := by have := lt_of_heap h.dev; omega
  clear h h0 h1 h2 h3 h4 hf c0 c1 c2 c7 hn hk
  go_enter Try.func14, Try.ntmps14
  go_wp2_with fail
  go_end0
  exact ⟨rfl, HR.out, HO.out⟩

end Go.Proofs.Ytfmcbccmijcdgaa.Bk
