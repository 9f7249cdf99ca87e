/-
  slices.Grow of a nil row, slices.Concat, and the program's Add.
-/
import Derived.Test.YtopaaokclfnhdaaSnA
namespace Go.Proofs.Ytopaaokclfnhdaa.Sn
open Go.RowKit
set_option linter.unusedVariables false
set_option linter.unusedSimpArgs false

/-- A row and its room. -/
def Row (w : World) (a : Option Addr) (l : List Int) (cap : Nat) : Prop := NumsAt w a l ∧ l.length ≤ cap
theorem Row.below {w w' : World} {a : Option Addr} {l : List Int} {cap : Nat} (h : Row w a l cap) (b : Below w.heap.size w w') : Row w' a l cap := ⟨h.1.below b, h.2⟩
/-- What is answered: a row, and a code. -/
def Out (w' : World) (p : List Int × Int) (e : Ending) : Prop := ∃ (a : Option Addr) (c : Nat), e = .returned (.tuple #[.slice a p.1.length c, .int .i64 p.2]) ∧ Row w' a p.1 c
theorem owned_row {w : World} {B n : Nat} {v : Value} {l : List Int} (h : w.ownsRow B 2 1 v n (i64C l)) (hn : n = l.length) : ∃ a c, v = .slice a l.length c ∧ Row w a l c := by
  obtain ⟨a, c, e, hx⟩ := owned_nums h hn
  refine ⟨a, c, e, hx, ?_⟩
  subst hn
  rcases h.2 with ⟨e2, h0⟩ | ⟨g, cap, cur, e2, _, _, hc, _⟩
  · omega
  · rw [e] at e2
    injection e2 with _ _ e3
    omega

/-- A row without numbers that has room. -/
def Grown (B : Nat) (w' : World) (e : Ending) : Prop := ∃ v, e = .returned v ∧ w'.ownsRow B 2 1 v 0 []
set_option maxRecDepth 100000 in
set_option maxHeartbeats 4000000 in
theorem grow_any (n : Nat) (h0 : 0 < n) (hn : n ≤ 1000000) (w : World) :
    Calls Try.prog 18 #[.slice none 0 0, .int .i64 (n : Int)] w fun e w' => Grown w.heap.size w' e ∧ Below w.heap.size w w' := by
  obtain ⟨i0, hi, hz0, hz1, hz2⟩ := info_parts info64
  have hrz : ∀ ty, (Builtin.append_ #[22, 3] ty #[.slice none 0 0, .int .i64 (n : Int)]).run Try.prog w =
      .ok (.slice (some ⟨w.heap.size, 0, none⟩) n (grownCap w n 0 2)) (w.drew.alloc (.cells (#[] ++ Builtin.zeroCells (Value.int .i64 0).cells n ++ Builtin.zeroCells (Value.int .i64 0).cells (grownCap w n 0 2 - n)) 2)) := fun ty => by
    have h := Lib.run_append_grow_zeros (P := Try.prog) w 22 3 ty 2 i0 _ .i64 .i64 Try.underlying22 Try.underlying3 hi hz0 none 0 0 [] (run_firstCells_none w.drew i0.size 0 0 0) n h0 (by omega) (by omega) (by omega) (by rw [hz2]; omega) (by rw [hz2, Nat.zero_add]; exact growslice_fits h0 (by omega))
    rw [Nat.zero_add] at h
    exact h
  have hG1 := grownCap_ge w n 0 2
  have hG2 := grownCap_le_maxLen w n 0 2 (by unfold maxLen; omega)
  generalize hGe : grownCap w n 0 2 = G at hrz hG1 hG2
  have hown := World.ownsRow_made (base := w.heap.size) (e := 2) (size := 1) w.drew (#[] ++ Builtin.zeroCells (Value.int .i64 0).cells n ++ Builtin.zeroCells (Value.int .i64 0).cells (G - n)) G (by simp) hG2 (by simp only [Array.size_append, size_zeroCells]; simp [Value.cells]; omega)
  have hbel := ((Below.refl w.heap.size w).drew).alloc (by simp) (.cells (#[] ++ Builtin.zeroCells (Value.int .i64 0).cells n ++ Builtin.zeroCells (Value.int .i64 0).cells (G - n)) 2)
  generalize (w.drew.alloc (.cells (#[] ++ Builtin.zeroCells (Value.int .i64 0).cells n ++ Builtin.zeroCells (Value.int .i64 0).cells (G - n)) 2)) = W1 at hrz hown hbel
  have hsz : w.drew.heap.size = w.heap.size := by simp
  rw [hsz] at hown
  have HR := Lib.hid hrz
  have HO := Lib.hid hown
  have HB := Lib.hid hbel
  have hs1 := fun W => cut_lo none 0 0 0 (Nat.le_refl _) W
  have hs2 := fun W => cut_lo (some ⟨w.heap.size, 0, none⟩) n G 0 (Nat.zero_le _) W
  have h1 : ¬ ((n : Int) < 0) := by omega
  have h4 : (n : Int) > 0 := by omega
  clear hrz hown hbel hGe hG2 hsz
  go_enter Try.func18, Try.ntmps18
  go_wp2_with (at_builtin; refine wpList_app rfl _ _ _ _ rfl rfl rfl _ _ (HR.out _) ?_)
  go_ret
  exact ⟨⟨_, rfl, HO.out⟩, HB.out⟩

/-- Rows, one behind the other. -/
def SlAt (w : World) (b : Nat) (rs : List (Option Addr × List Int × Nat)) : Prop := ∀ i, (h : i < rs.length) → w.cell? ⟨b, i, none⟩ = some (.slice rs[i].1 rs[i].2.1.length rs[i].2.2) ∧ NumsAt w rs[i].1 rs[i].2.1 ∧ b < w.heap.size
theorem SlAt.below {w w' : World} {b : Nat} {rs : List (Option Addr × List Int × Nat)} (h : SlAt w b rs) (k : Below w.heap.size w w') : SlAt w' b rs := fun i hi => by
  obtain ⟨h1, h2, h3⟩ := h i hi
  exact ⟨(k.cell (p := ⟨b, i, none⟩) h3).trans h1, h2.below k, Nat.lt_of_lt_of_le h3 k.size⟩
def catR (rs : List (Option Addr × List Int × Nat)) : List Int := (rs.map (·.2.1)).flatten
theorem catR_take (rs : List (Option Addr × List Int × Nat)) (k : Nat) (h : k < rs.length) : catR (rs.take (k + 1)) = catR (rs.take k) ++ rs[k].2.1 := by
  unfold catR
  rw [List.take_succ_eq_append_getElem h, List.map_append, List.flatten_append]
  simp only [List.map_cons, List.map_nil, List.flatten_cons, List.flatten_nil, List.append_nil]
theorem catR_le (rs : List (Option Addr × List Int × Nat)) (k : Nat) : (catR (rs.take k)).length ≤ (catR rs).length := by
  conv => rhs; rw [← List.take_append_drop k rs]
  unfold catR
  rw [List.map_append, List.flatten_append, List.length_append]
  omega

/-- A row of a call's own that holds these. -/
def Catted (B : Nat) (w' : World) (l : List Int) (e : Ending) : Prop := ∃ a c, e = .returned (.slice a l.length c) ∧ Row w' a l c
set_option maxRecDepth 100000 in
set_option maxHeartbeats 4000000 in
theorem concat_any (rs : List (Option Addr × List Int × Nat)) (hr : rs.length ≤ 10) (b cap : Nat) (h0 : 0 < (catR rs).length) (hn : (catR rs).length ≤ 1000000) (w : World) (hx : SlAt w b rs) :
    Calls Try.prog 15 #[.slice (some ⟨b, 0, none⟩) rs.length cap] w fun e w' => Catted w.heap.size w' (catR rs) e ∧ Below w.heap.size w w' := by
  have HX := Lib.hid hx
  clear hx
  go_enter Try.func15, Try.ntmps15
  go_wp2_with fail
  go_loopw [3, 11] (fun sv iv wr => ∃ k : Nat, k ≤ rs.length ∧ sv = .int .i64 ((catR (rs.take k)).length : Nat) ∧ iv = .int .i64 k ∧ wr = w) (fun _ iv _ => rs.length - (intOf iv).toNat)
  case atStart => exact ⟨0, by omega, by simp [catR], rfl, rfl⟩
  case round =>
    obtain ⟨k, hk, rfl, rfl, hw⟩ := hrel
    have hw2 := hw.symm
    subst hw2
    clear hw
    by_cases hlt : k < rs.length
    · have hki : (k : Int) < (rs.length : Int) := by omega
      obtain ⟨hc, hv, hb⟩ := HX.out k hlt
      have hct := catR_take rs k hlt
      have hle := catR_le rs (k + 1)
      have hlen : ((catR (rs.take (k + 1))).length : Int) = ((catR (rs.take k)).length : Int) + (rs[k].2.1.length : Int) := by rw [hct, List.length_append]; omega
      obtain ⟨T, hT⟩ : ∃ T, T = (catR (rs.take k)).length := ⟨_, rfl⟩
      obtain ⟨T2, hT2⟩ : ∃ T2, T2 = (catR (rs.take (k + 1))).length := ⟨_, rfl⟩
      rw [← hT2] at hle hlen
      rw [← hT] at hlen
      have HT2 := Lib.hid hT2
      obtain ⟨n, hnn⟩ : ∃ n, n = rs[k].2.1.length := ⟨_, rfl⟩
      rw [← hnn] at hc hlen
      rw [← hT]
      clear hct hT hT2 hnn hv hb
      have hneg : ¬ ((T : Int) + (n : Int) < 0) := by omega
      have hTi : (T : Int) + (n : Int) ≤ 1000000 := by omega
      go_wp2_with fail
      go_roundw
      case rel => exact ⟨k + 1, by omega, by rw [← HT2.out, hlen], by go_num, by trivial⟩
      case measure => simp [intOf]; omega
    · have hke : k = rs.length := by omega
      have hki : ¬ (k : Int) < (rs.length : Int) := by omega
      subst hke
      rw [List.take_length]
      go_wp2_with fail
      refine (grow_any (catR rs).length h0 hn _).mono ?_
      rintro e w1 ⟨⟨v, rfl, hown⟩, b1⟩
      have B1 := Lib.hid b1
      have HW := Lib.hid hown
      clear b1 hown
      go_wp2_with fail
      go_loopw [6, 27] (fun sv iv wr => ∃ k : Nat, k ≤ rs.length ∧ iv = .int .i64 k ∧ wr.ownsRow w.heap.size 2 1 sv (catR (rs.take k)).length (i64C (catR (rs.take k))) ∧ Below w.heap.size w wr) (fun _ iv _ => rs.length - (intOf iv).toNat)
      case atStart => exact ⟨0, by omega, rfl, HW.out, B1.out⟩
      case round =>
        obtain ⟨k, hk, rfl, hown, hbl⟩ := hrel
        have hsl := HX.out.below hbl
        by_cases hlt : k < rs.length
        · have hki : (k : Int) < (rs.length : Int) := by omega
          obtain ⟨hc, hv, hb⟩ := hsl k hlt
          have hct := catR_take rs k hlt
          have hle := catR_le rs (k + 1)
          have hlen : (catR (rs.take (k + 1))).length = (catR (rs.take k)).length + rs[k].2.1.length := by rw [hct, List.length_append]
          obtain ⟨v', w', hrun, ho2, hg2⟩ := app_nums w.heap.size _ _ _ wr hown rs[k].2.1 rs[k].1 rs[k].2.2 hv (by omega) hbl.size
          rw [← i64C_append, ← hct, ← hlen] at ho2
          have hbe := hbl.grown hg2 hbl.size (fun k hk => (hown.lt k hk).1)
          have HO2 := Lib.hid ho2
          have HRUN := Lib.hid hrun
          have HBE := Lib.hid hbe
          clear hv hct hlen hrun ho2 hg2 hbe hown hsl
          go_wp2_with (at_builtin; refine wpList_app rfl _ _ _ _ rfl rfl rfl _ _ HRUN.out ?_)
          go_roundw
          case rel => exact ⟨k + 1, by omega, by go_num, HO2.out, HBE.out⟩
          case measure => simp [intOf]; omega
        · have hke : k = rs.length := by omega
          have hki : ¬ (k : Int) < (rs.length : Int) := by omega
          subst hke
          rw [List.take_length] at hown
          obtain ⟨a', c', rfl, hrow⟩ := owned_row hown rfl
          have HROW := Lib.hid hrow
          have HBL := Lib.hid hbl
          clear hown hrow hbl hsl
          go_wp2_with fail
          go_ret
          exact ⟨⟨a', c', rfl, HROW.out⟩, HBL.out⟩

end Go.Proofs.Ytopaaokclfnhdaa.Sn
