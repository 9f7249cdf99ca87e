/-
  SeenAdds, walked.
-/
import Derived.Test.YtopaaokclfnhdaaSnE
namespace Go.Proofs.Ytopaaokclfnhdaa.Sn
open Go Go.RowKit
set_option linter.unusedVariables false
set_option linter.unusedSimpArgs false

set_option maxRecDepth 100000 in
set_option maxHeartbeats 8000000 in
theorem seenAdds_walk (l : List Int) (a : Option Addr) (cap : Nat) (x most : Int) (w : World) (hl : l.length ≤ 17592186044416) (hx : Row w a l cap) (hb : ∀ n ∈ l, Num64 n) (hx1 : Num64 x) (hm1 : Num64 most) :
    Calls Try.prog 3 #[.slice a l.length cap, .int .i64 x, .int .i64 most] w fun e w' => e = .returned (.bool true) ∧ Below w.heap.size w w' := by
  have HX := Lib.hid hx
  have HAW := Lib.hid awake20_any
  clear hx hb hx1 hm1
  go_enter Try.func3, Try.ntmps3
  go_wp2_with fail
  refine (HAW.out _).mono ?_
  rintro e w1 ⟨rfl, b1⟩
  have B1 := Lib.hid b1
  have HX1 := Lib.hid (HX.out.below b1)
  clear b1
  by_cases hbig : l.length ≤ 500
  rotate_left
  · have hbi : (l.length : Int) > 500 := by omega
    go_wp2_with fail
    refine (HAW.out _).mono ?_
    rintro e w2 ⟨rfl, b2⟩
    have B2 := Lib.hid (B1.out.trans (b2.mono B1.out.size))
    clear b2
    go_wp2_with fail
    go_ret
    exact ⟨rfl, B2.out⟩
  · have hbi : ¬ (l.length : Int) > 500 := by omega
    obtain ⟨v', w2, hrun, ho2, hg2⟩ := app_nums w1.heap.size (.slice none 0 0) 0 [] w1 (World.ownsRow_nil _ _ _ _) l a cap HX1.out.1 (by omega) (Nat.le_refl _)
    rw [List.nil_append] at ho2
    obtain ⟨a2, c2, rfl, hrow2⟩ := owned_row ho2 (by omega)
    have hb2 := (Below.refl w1.heap.size w1).grown hg2 (Nat.le_refl _) (by simp [Value.ownBlock])
    have HRUN := Lib.hid hrun
    have B2 := Lib.hid (B1.out.trans (hb2.mono B1.out.size))
    have HX2 := Lib.hid (HX1.out.below hb2)
    have HR2 := Lib.hid hrow2
    clear hrun ho2 hg2 hrow2 hb2
    go_wp2_with (at_builtin; refine wpList_app rfl _ _ _ _ rfl rfl rfl _ _ HRUN.out ?_)
    refine (add_any l x most (by omega) a cap w2 HX2.out).mono ?_
    rintro e w3 ⟨⟨a3, c3, rfl, hrow3⟩, b3⟩
    obtain ⟨p, hp⟩ : ∃ p, p = addM l x most := ⟨_, rfl⟩
    rw [← hp] at hrow3 ⊢
    have HP := Lib.hid hp
    have HPL := Lib.hid (show p.1.length ≤ 501 by rw [hp]; exact addM_len hbig)
    have B3 := Lib.hid (B2.out.trans (b3.mono B2.out.size))
    have HX3 := Lib.hid (HX2.out.below b3)
    have HR23 := Lib.hid (HR2.out.below b3)
    have HR3 := Lib.hid hrow3
    clear hrow3 b3 hp
    go_wp2_with fail
    refine (rAdd_any l x most (by omega) a cap w3 HX3.out.1).mono ?_
    rw [← HP.out]
    rintro e w4 ⟨⟨a4, c4, rfl, hrow4⟩, b4⟩
    have B4 := Lib.hid (B3.out.trans (b4.mono B3.out.size))
    have HX4 := Lib.hid (HX3.out.below b4)
    have HR24 := Lib.hid (HR23.out.below b4)
    have HR34 := Lib.hid (HR3.out.below b4)
    have HR4 := Lib.hid hrow4
    clear hrow4 b4
    go_wp2_with fail
    refine (HAW.out _).mono ?_
    rintro e w5 ⟨rfl, b5⟩
    have B5 := Lib.hid (B4.out.trans (b5.mono B4.out.size))
    have HX5 := Lib.hid (HX4.out.below b5)
    have HR25 := Lib.hid (HR24.out.below b5)
    have HR35 := Lib.hid (HR34.out.below b5)
    have HR45 := Lib.hid (HR4.out.below b5)
    clear b5
    go_wp2_with fail
    refine (same_any p.1 p.1 (by have := HPL.out; omega) a3 a4 c3 c4 w5 HR35.out.1 HR45.out.1).mono ?_
    rintro e w6 ⟨rfl, b6⟩
    rw [decide_eq_true (show p.1 = p.1 from rfl)]
    have B6 := Lib.hid (B5.out.trans (b6.mono B5.out.size))
    have HX6 := Lib.hid (HX5.out.below b6)
    have HR26 := Lib.hid (HR25.out.below b6)
    clear b6
    have hkr : knownB l x = true ∨ knownB l x = false := by cases knownB l x <;> simp
    have hur : upB l = true ∨ upB l = false := by cases upB l <;> simp
    have HK := Lib.hid (known_any l x (by omega) a cap w6 HX6.out.1)
    have HRK := Lib.hid (rKnown_any l x (by omega) a cap w6 HX6.out.1)
    have HU := Lib.hid (fun W (h : Below w6.heap.size w6 W) => right_any l (by omega) a cap W (HX6.out.below h).1)
    have HRU := Lib.hid (fun W (h : Below w6.heap.size w6 W) => rRight_any l (by omega) a cap W (HX6.out.below h).1)
    obtain ⟨kb, hkb⟩ : ∃ b, b = knownB l x := ⟨_, rfl⟩
    obtain ⟨ub, hub⟩ : ∃ b, b = upB l := ⟨_, rfl⟩
    rw [← hkb] at HK HRK
    rw [← hub] at HU HRU
    clear hkb hub hkr hur
    go_wp2_with fail
    refine HK.out.mono ?_
    rintro e w7 ⟨rfl, rfl⟩
    go_wp2_with fail
    refine HRK.out.mono ?_
    rintro e w7 ⟨rfl, b7⟩
    have B7 := Lib.hid b7
    clear b7
    go_wp2_with fail
    refine (HU.out _ B7.out).mono ?_
    rintro e w8 ⟨rfl, rfl⟩
    go_wp2_with fail
    refine (HRU.out _ B7.out).mono ?_
    rintro e w8 ⟨rfl, b8⟩
    have B8 := Lib.hid (B7.out.trans (b8.mono B7.out.size))
    clear b8
    go_wp2_with fail
    refine (same_any l l (by omega) a a2 cap c2 w8 (HX6.out.below B8.out).1 (HR26.out.below B8.out).1).mono ?_
    rintro e w9 ⟨rfl, b9⟩
    rw [decide_eq_true (show l = l from rfl)]
    have B9 := Lib.hid (B6.out.trans ((B8.out.trans (b9.mono B8.out.size)).mono B6.out.size))
    clear b9
    go_wp2_with fail
    go_ret
    exact ⟨rfl, B9.out⟩

end Go.Proofs.Ytopaaokclfnhdaa.Sn
