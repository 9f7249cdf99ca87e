/-
  The statements' own small functions; the document's New.
-/
import Derived.Test.YtfkmpegbidojoaaMdAwake
import Derived.Test.YtfkmpegbidojoaaMdSameR
namespace Go.Proofs.Ytfkmpegbidojoaa.Md
open Go.RowKit
open Va
set_option linter.unusedVariables false
set_option linter.unusedSimpArgs false

def shortB (m : MailP) : Bool := decide (m.key.length ≤ 30) && decide (m.fields.length ≤ 30)
set_option maxRecDepth 100000 in
theorem short_any (m : MailP) (hm : MBig m) (ka : Option Addr) (kc : Nat) (fa : Option Addr) (fc : Nat) (w : World) :
    Calls Try.prog 9 #[.agg #[.int .i64 m.id, .string (S m.chan), .slice ka m.key.length kc, .slice fa m.fields.length fc]] w fun e w' => e = .returned (.bool (shortB m)) ∧ Below w.heap.size w w' := by
  have HB := Lib.hid ((Below.refl w.heap.size w).alloc (Nat.le_refl _) (.cells #[.int .i64 m.id, .string (S m.chan), .slice ka m.key.length kc, .slice fa m.fields.length fc] 30))
  have hk := hm.klen
  have hf := hm.flen
  obtain ⟨R, hR⟩ : ∃ R, R = shortB m := ⟨_, rfl⟩
  rw [← hR]
  have HR := Lib.hid hR
  clear hR hm
  unfold shortB at HR
  by_cases h1 : m.key.length ≤ 30
  · have i1 : (m.key.length : Int) ≤ 30 := by omega
    by_cases h2 : m.fields.length ≤ 30
    · have i2 : (m.fields.length : Int) ≤ 30 := by omega
      rw [show decide (m.key.length ≤ 30) = true by simpa using h1, show decide (m.fields.length ≤ 30) = true by simpa using h2] at HR
      go_enter Try.func9, Try.ntmps9
      go_wp2_with fail
      go_ret
      exact ⟨by rw [HR.out]; rfl, HB.out⟩
    · have i2 : ¬ (m.fields.length : Int) ≤ 30 := by omega
      rw [show decide (m.key.length ≤ 30) = true by simpa using h1, show decide (m.fields.length ≤ 30) = false by simpa using h2] at HR
      go_enter Try.func9, Try.ntmps9
      go_wp2_with fail
      go_ret
      exact ⟨by rw [HR.out]; rfl, HB.out⟩
  · have i1 : ¬ (m.key.length : Int) ≤ 30 := by omega
    rw [show decide (m.key.length ≤ 30) = false by simpa using h1, Bool.false_and] at HR
    go_enter Try.func9, Try.ntmps9
    go_wp2_with fail
    go_ret
    exact ⟨by rw [HR.out]; rfl, HB.out⟩
theorem shortB_ok {m : MailP} (hm : MBig m) (h : shortB m = true) : Mok m ∧ Msh m := by
  unfold shortB at h
  simp only [Bool.and_eq_true, decide_eq_true_eq] at h
  exact ⟨⟨hm, by omega, by omega⟩, ⟨hm, by omega, by omega⟩⟩

set_option maxRecDepth 100000 in
theorem refNew_any (most : Int) (hm : Num64 most) (w : World) :
    Calls Try.prog 8 #[.int .i64 most] w fun e w' => e = .returned (.pointer (some ⟨w.heap.size, 0, none⟩)) ∧ w' = w.alloc (.cells #[.slice none 0 0, .int .i64 (capN most : Nat)] 41) := by
  have h1 := hm.lo
  have h2 := hm.hi
  by_cases h : most < 0
  · have hc : capN most = 0 := by unfold capN; omega
    rw [hc]
    clear hm
    go_enter Try.func8, Try.ntmps8
    go_wp2_with fail
    go_ret
    exact ⟨rfl, rfl⟩
  · by_cases h3 : most > 4096
    · have hc : capN most = 4096 := by unfold capN; omega
      rw [hc]
      clear hm
      go_enter Try.func8, Try.ntmps8
      go_wp2_with fail
      go_ret
      exact ⟨rfl, rfl⟩
    · have hc : ((capN most : Nat) : Int) = most := by unfold capN; omega
      rw [hc]
      clear hm
      go_enter Try.func8, Try.ntmps8
      go_wp2_with fail
      go_ret
      exact ⟨rfl, rfl⟩

end Go.Proofs.Ytfkmpegbidojoaa.Md
