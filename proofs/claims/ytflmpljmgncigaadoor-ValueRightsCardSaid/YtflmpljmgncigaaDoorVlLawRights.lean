/-
  ValueRights, walked.
-/
import Derived.Test.YtflmpljmgncigaaDoorVlAwake
import Derived.Test.YtflmpljmgncigaaDoorVlOpen
import Derived.Test.YtflmpljmgncigaaDoorVlLawRanks
namespace Go.Proofs.YtflmpljmgncigaaDoor.Va
open Go.RowKit

set_option linter.unusedSimpArgs false
set_option maxRecDepth 100000 in
set_option maxHeartbeats 6400000 in
theorem ValueRights_walk (s : ByteArray) (x : V) (ax : Option Addr) (cx : Nat) (w : World) (hs : s.size ≤ maxLen) (_ : s.size ≤ 140737488355328) (vx : VArg x) (hx : NumsAt w ax x.list) (htab : Tab w) :
    Calls Tryd.prog 3 #[.string s, valC x ax cx] w fun e w' => e = .returned (.bool true) ∧ Below w.heap.size w w' := by
  unfold maxLen at hs
  have okx := vx.ok
  obtain ⟨W0, hW0⟩ : ∃ W0, W0 = w.alloc (boxO x.kind x.num x.text x.list.length ax cx) := ⟨_, rfl⟩
  have hbel : Below w.heap.size w W0 := by rw [hW0]; exact (Below.refl w.heap.size w).alloc (Nat.le_refl _) _
  have bx : BoxAt W0 w.heap.size x ax cx := by rw [hW0]; exact heap_alloc_new w _
  have hAw : ∀ wr, Good W0 wr → Calls Tryd.prog 13 #[] wr fun e w' => e = .returned (.bool true) ∧ Good W0 w' := fun wr h => by
    refine (awake_any wr ((htab.below hbel).below h)).mono ?_
    rintro e w' ⟨rfl, b⟩
    exact ⟨rfl, h.step b⟩
  have hNm : ∀ wr, Good W0 wr → Calls Tryd.prog 14 #[.string s] wr fun e w' => e = .returned (.bool (nameB s.data.toList)) ∧ Good W0 w' := fun wr h => by
    refine (Name_any s (by omega) wr).mono ?_
    rintro e w' ⟨rfl, b⟩
    exact ⟨rfl, h.step b⟩
  have hRn : ∀ wr, Good W0 wr → Calls Tryd.prog 15 #[.string s] wr fun e w' => e = .returned (.bool (nameB s.data.toList)) ∧ Good W0 w' := fun wr h => by
    refine (refName_any s (by omega) wr).mono ?_
    rintro e w' ⟨rfl, rfl⟩
    exact ⟨rfl, h⟩
  have hRt : ∀ wr, Good W0 wr → Calls Tryd.prog 16 #[valC x ax cx] wr fun e w' => e = .returned (.bool (rightB x)) ∧ Good W0 w' := fun wr h => by
    refine (Right_any x okx ax cx wr ((hx.below hbel).below h)).mono ?_
    rintro e w' ⟨rfl, b⟩
    exact ⟨rfl, h.step b⟩
  have hRr : ∀ wr, Good W0 wr → Calls Tryd.prog 17 #[valC x ax cx] wr fun e w' => e = .returned (.bool (rightB x)) ∧ Good W0 w' := fun wr h => by
    refine (refRight_any x okx ax cx wr).mono ?_
    rintro e w' ⟨rfl, b⟩
    exact ⟨rfl, h.step b⟩
  have HG0 := Lib.hid (Good.refl W0)
  have HFIN := Lib.hid (fun (wr : World) (h : Good W0 wr) => hbel.trans (h.mono hbel.size))
  have hkeep : ∀ wr, Good W0 wr → BoxAt wr w.heap.size x ax cx := fun wr h => bx.good h
  generalize rightB x = rx at *
  generalize nameB s.data.toList = nm at *
  obtain ⟨xk, xn, xt, xl⟩ := x
  unfold valC at *
  simp only at *
  have HKEEP := Lib.hid (fun wr (h : Good W0 wr) => (hkeep wr h).cells)
  have HAW := Lib.hid hAw
  have HNM := Lib.hid hNm
  have HRN := Lib.hid hRn
  have HRT := Lib.hid hRt
  have HRR := Lib.hid hRr
  have HW0 := Lib.hid hW0
  have e1 : (nm == nm) = true := by simp
  have e2 : (rx == rx) = true := by simp
  clear okx vx hx htab hbel bx hAw hNm hRn hRt hRr hkeep hW0
  go_enter Tryd.func3, Tryd.ntmps3
  go_wp2_with fail
  have hw0 := HW0.out
  unfold boxO at hw0
  rw [← hw0]
  clear hw0
  have HST := Lib.hid (HKEEP.out _ HG0.out.drew)
  go_region_held3 (fun w7 => (w7.cell? ⟨w.heap.size, 0, none⟩ = some (.int .i64 xk) ∧ w7.cell? ⟨w.heap.size, 1, none⟩ = some (.int .i64 xn) ∧ w7.cell? ⟨w.heap.size, 2, none⟩ = some (.string (S xt)) ∧ w7.cell? ⟨w.heap.size, 3, none⟩ = some (.slice ax xl.length cx)))
    (first | assumption | exact HST.out | exact HK7.out)
    (first
      | (go_at_call 13; with_reducible refine (HAW.out _ (by first | exact good_id (by assumption) | exact good_drew (by assumption))).mono ?_; rintro e w7 ⟨rfl, b7⟩; have HG7 := Lib.hid b7; have HK7 := Lib.hid (HKEEP.out _ b7); clear b7)
      | (go_at_call 14; with_reducible refine (HNM.out _ (by first | exact good_id (by assumption) | exact good_drew (by assumption))).mono ?_; rintro e w7 ⟨rfl, b7⟩; have HG7 := Lib.hid b7; have HK7 := Lib.hid (HKEEP.out _ b7); clear b7)
      | (go_at_call 15; with_reducible refine (HRN.out _ (by first | exact good_id (by assumption) | exact good_drew (by assumption))).mono ?_; rintro e w7 ⟨rfl, b7⟩; have HG7 := Lib.hid b7; have HK7 := Lib.hid (HKEEP.out _ b7); clear b7)
      | (go_at_call 16; with_reducible refine (HRT.out _ (by first | exact good_id (by assumption) | exact good_drew (by assumption))).mono ?_; rintro e w7 ⟨rfl, b7⟩; have HG7 := Lib.hid b7; have HK7 := Lib.hid (HKEEP.out _ b7); clear b7)
      | (go_at_call 17; with_reducible refine (HRR.out _ (by first | exact good_id (by assumption) | exact good_drew (by assumption))).mono ?_; rintro e w7 ⟨rfl, b7⟩; have HG7 := Lib.hid b7; have HK7 := Lib.hid (HKEEP.out _ b7); clear b7))
  all_goals
    go_wp2_with fail
    go_ret
    exact ⟨rfl, HFIN.out _ (by first | exact good_id (by assumption) | exact good_drew (by assumption))⟩

end Go.Proofs.YtflmpljmgncigaaDoor.Va
