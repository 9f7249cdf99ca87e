/-
  The chapter's example of dead letters.
-/
import Derived.Test.YtfkmpegbidojoaaMdPut
namespace Go.Proofs.Ytfkmpegbidojoaa.Md
open Go.RowKit
open Va
set_option linter.unusedVariables false
set_option linter.unusedSimpArgs false

theorem mini_bigD (n : Int) (h : 0 ≤ n) (h2 : n ≤ 1000) : MBig ⟨n, [], [], []⟩ := ⟨⟨by simp only; omega, by simp only; omega⟩, fun v hv => by simp at hv, fun v hv => by simp at hv, by simp, by simp, by simp⟩
theorem mini_dok (n i r : Int) (h : 0 ≤ n) (h2 : n ≤ 1000) (h3 : 0 ≤ i) (h4 : i ≤ 1000) (h5 : 0 ≤ r) (h6 : r ≤ 1000) : Dok ⟨n, ⟨i, [], [], []⟩, r⟩ := ⟨⟨⟨by simp only; omega, by simp only; omega⟩, ⟨by simp only; omega, by simp only; omega⟩, mini_bigD i h3 h4⟩, by simp, by simp⟩
theorem put_mini (i most : Int) (h3 : 0 ≤ i) (h4 : i ≤ 1000) (w : World) :
    Calls Try.prog 21 #[.slice none 0 0, .int .i64 1, .agg #[.int .i64 i, .string ⟨#[]⟩, .slice none 0 0, .slice none 0 0], .int .i64 5, .int .i64 most] w fun e w' => Putted [] 1 ⟨i, [], [], []⟩ 5 most w e w' ∧ Below w.heap.size w w' :=
  put_any [] (by simp) (fun x hx => by simp at hx) 1 ⟨i, [], [], []⟩ 5 most (mini_dok 1 i 5 (by omega) (by omega) h3 h4 (by omega) (by omega)) none 0 none 0 none 0 w (fun j hj => absurd hj (by simp)) (fun j hj => absurd hj (by simp)) (fun j hj => absurd hj (by simp))

set_option maxRecDepth 100000 in
set_option maxHeartbeats 8000000 in
theorem awake19_any (w : World) : Calls Try.prog 19 #[] w fun e w' => e = .returned (.bool true) ∧ Below w.heap.size w w' := by
  go_enter Try.func19, Try.ntmps19
  go_wp2_with fail
  refine (put_mini 0 0 (by omega) (by omega) _).mono ?_
  rintro e w1 ⟨h1, b1⟩
  have B1 := Lib.hid b1
  unfold Putted at h1
  rw [show putE [] 1 5 0 = 42 by decide, if_neg (by decide)] at h1
  subst h1
  clear b1
  go_wp2_with fail
  refine (put_mini 9 1 (by omega) (by omega) _).mono ?_
  rintro e w2 ⟨h2, b2⟩
  have B2 := Lib.hid (B1.out.trans (b2.mono B1.out.size))
  unfold Putted at h2
  rw [show putE [] 1 5 1 = 0 by decide, if_pos rfl] at h2
  obtain ⟨q, cp, rfl, hr, hc⟩ := h2
  have HF := Lib.hid (find_any [⟨1, ⟨9, [], [], []⟩, 5⟩] (by simp) cp hc (fun x hx => by
    have : x = ⟨1, ⟨9, [], [], []⟩, 5⟩ := by simpa using hx
    rw [this]; exact mini_dok 1 9 5 (by omega) (by omega) (by omega) (by omega) (by omega) (by omega)) 1 q w2 (DwR.deads hr))
  rw [show findL [⟨1, ⟨9, [], [], []⟩, 5⟩] 1 = some ⟨1, ⟨9, [], [], []⟩, 5⟩ by rfl] at HF
  simp only [List.length_nil, List.length_cons, Nat.zero_add] at HF
  clear hr hc b2
  simp only [List.length_nil, Nat.zero_add]
  go_wp2_with fail
  refine HF.out.mono ?_
  rintro e w3 ⟨⟨ka, kc, fa, fc, rfl, _, _⟩, b3⟩
  have B3 := Lib.hid (B2.out.trans (b3.mono B2.out.size))
  unfold dV
  clear b3
  simp only [List.length_nil]
  have k4 := (Below.refl w3.heap.size w3).alloc (Nat.le_refl _) (.cells #[.int .i64 1, .int .i64 9, .string (S []), .slice ka 0 kc, .slice fa 0 fc, .int .i64 5] 46)
  have B4 := Lib.hid (B3.out.trans (k4.mono B3.out.size))
  have HWD := Lib.hid (fun W => word_any 4 W)
  rw [show wordL 4 = [111, 118, 101, 114] from rfl] at HWD
  have e1 : ((S [111, 118, 101, 114]).toList == [111, 118, 101, 114]) = true := by rw [ByteArray.toList_eq, S_toList]; rfl
  clear k4
  go_wp2_with fail
  refine (HWD.out _).mono ?_
  rintro e w5 ⟨rfl, rfl⟩
  go_wp2_with fail
  go_ret
  exact ⟨rfl, B4.out⟩

end Go.Proofs.Ytfkmpegbidojoaa.Md
