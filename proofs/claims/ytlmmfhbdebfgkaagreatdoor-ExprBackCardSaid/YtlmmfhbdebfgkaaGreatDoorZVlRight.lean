/-
  VlRight.
-/
import Derived.Test.YtlmmfhbdebfgkaaGreatDoorZVlName
import Derived.Test.YtlmmfhbdebfgkaaGreatDoorZVlCmpQ
namespace Go.Proofs.YtlmmfhbdebfgkaaGreatDoor.Va
open Go.RowKit
theorem NumsAt_nil (w : World) (a : Option Addr) : NumsAt w a [] := fun i hi => absurd hi (by simp)
def bareB (n : Int) (t : List UInt8) (l : List Int) : Bool := n == 0 && t == [] && l == []
theorem sameV_bare (k n : Int) (t : List UInt8) (l : List Int) : sameV ⟨k, n, t, l⟩ ⟨k, 0, [], []⟩ = bareB n t l := by
  simp [sameV, bareB]
set_option linter.unusedSimpArgs false
set_option maxRecDepth 100000 in
set_option maxHeartbeats 3200000 in
theorem Right_any (v : V) (ok : VOk v) (a : Option Addr) (cap : Nat) (w : World) (hx : NumsAt w a v.list) :
    Calls Tryz.prog 127 #[valC v a cap] w fun e w' => e = .returned (.bool (rightB v)) ∧ Below w.heap.size w w' := by
  obtain ⟨k, n, t, l⟩ := v
  have ht1 := ok.text
  have hl1 := ok.list
  simp only at ht1 hl1 hx
  have hx0 : (S []).size = 0 := rfl
  have hts : (S t).size = t.length := S_size t
  have hS := fun (n' : Int) (t' : List UInt8) (l' : List Int) (h1 : t'.length ≤ 9223372036854775807) (h2 : l'.length ≤ 9223372036854775807) (a' : Option Addr) (c' : Nat) (w' : World) (hn : NumsAt w' a' l') => Same_any ⟨k, n', t', l'⟩ ⟨k, 0, [], []⟩ ⟨h1, h2⟩ ⟨by simp, by simp⟩ a' none c' 0 w' hn (NumsAt_nil _ _)
  simp only [sameV_bare] at hS
  unfold valC at hS
  simp only at hS
  have HS := Lib.hid hS
  have HNM := Lib.hid (Name_any (S t) (by omega))
  have HX := Lib.hid hx
  have hti : (t.length : Int) ≤ 9223372036854775807 := by omega
  unfold valC
  simp only
  clear ok hS hx
  by_cases h1 : k = 1
  · subst h1
    have HR := Lib.hid (show bareB 0 t l = rightB ⟨1, n, t, l⟩ by cases t <;> cases l <;> rfl)
    go_enter Tryz.func127, Tryz.ntmps127
    go_wp2_with fail
    go_region
    go_wp2_with fail
    refine (HS.out 0 t l ht1 hl1 a cap _ ((HX.out).below ((((Below.refl _ _).alloc (Nat.le_refl _) _).alloc (by simp) _).drew))).mono ?_
    rintro e w1 ⟨rfl, b1⟩
    have HB1 := Lib.hid (((((Below.refl w.heap.size w).alloc (Nat.le_refl _) _).alloc (by simp) _).drew).trans (b1.mono (by simp; omega)))
    clear b1
    go_wp2_with fail
    go_ret
    exact ⟨ret_b HR.out, HB1.out⟩
  · by_cases h0 : k = 0
    · subst h0
      have HR := Lib.hid (show bareB n t l = rightB ⟨0, n, t, l⟩ by cases t <;> cases l <;> simp [rightB, bareB])
      go_enter Tryz.func127, Tryz.ntmps127
      go_wp2_with fail
      go_region
      go_wp2_with fail
      refine (HS.out n t l ht1 hl1 a cap _ ((HX.out).below ((((Below.refl _ _).alloc (Nat.le_refl _) _).alloc (by simp) _).drew))).mono ?_
      rintro e w1 ⟨rfl, b1⟩
      have HB1 := Lib.hid (((((Below.refl w.heap.size w).alloc (Nat.le_refl _) _).alloc (by simp) _).drew).trans (b1.mono (by simp; omega)))
      clear b1
      go_wp2_with fail
      go_ret
      exact ⟨ret_b HR.out, HB1.out⟩
    · by_cases h2 : k = 2
      · subst h2
        by_cases n0 : n = 0
        · subst n0
          have HR := Lib.hid (show bareB 0 t l = rightB ⟨2, 0, t, l⟩ by cases t <;> cases l <;> rfl)
          go_enter Tryz.func127, Tryz.ntmps127
          go_wp2_with fail
          go_region
          go_wp2_with fail
          refine (HS.out 0 t l ht1 hl1 a cap _ ((HX.out).below ((((Below.refl _ _).alloc (Nat.le_refl _) _).alloc (by simp) _).drew))).mono ?_
          rintro e w1 ⟨rfl, b1⟩
          have HB1 := Lib.hid (((((Below.refl w.heap.size w).alloc (Nat.le_refl _) _).alloc (by simp) _).drew).trans (b1.mono (by simp; omega)))
          clear b1
          go_wp2_with fail
          go_ret
          exact ⟨ret_b HR.out, HB1.out⟩
        · have e0 : (n == 0) = false := by simpa using n0
          by_cases n1 : n = 1
          · subst n1
            have HR := Lib.hid (show bareB 0 t l = rightB ⟨2, 1, t, l⟩ by cases t <;> cases l <;> rfl)
            go_enter Tryz.func127, Tryz.ntmps127
            go_wp2_with fail
            go_region
            go_wp2_with fail
            refine (HS.out 0 t l ht1 hl1 a cap _ ((HX.out).below ((((Below.refl _ _).alloc (Nat.le_refl _) _).alloc (by simp) _).drew))).mono ?_
            rintro e w1 ⟨rfl, b1⟩
            have HB1 := Lib.hid (((((Below.refl w.heap.size w).alloc (Nat.le_refl _) _).alloc (by simp) _).drew).trans (b1.mono (by simp; omega)))
            clear b1
            go_wp2_with fail
            go_ret
            exact ⟨ret_b HR.out, HB1.out⟩
          · have e1 : (n == 1) = false := by simpa using n1
            have HR := Lib.hid (show false = rightB ⟨2, n, t, l⟩ by simp [rightB, e0, e1])
            clear n0 n1
            go_enter Tryz.func127, Tryz.ntmps127
            go_wp2_with fail
            go_region
            go_wp2_with fail
            go_ret
            exact ⟨ret_b HR.out, (((Below.refl w.heap.size w).alloc (Nat.le_refl _) _).alloc (by simp) _).drew⟩
      · by_cases h3 : k = 3
        · subst h3
          by_cases hlen : t.length ≤ 64
          · have hli : (t.length : Int) ≤ 64 := by omega
            have HR := Lib.hid (show bareB n [] l = rightB ⟨3, n, t, l⟩ by cases l <;> simp [rightB, bareB, hlen])
            go_enter Tryz.func127, Tryz.ntmps127
            go_wp2_with fail
            go_region
            go_wp2_with fail
            refine (HS.out n [] l (by simp) hl1 a cap _ ((HX.out).below ((((Below.refl _ _).alloc (Nat.le_refl _) _).alloc (by simp) _).drew))).mono ?_
            rintro e w1 ⟨rfl, b1⟩
            have HB1 := Lib.hid (((((Below.refl w.heap.size w).alloc (Nat.le_refl _) _).alloc (by simp) _).drew).trans (b1.mono (by simp; omega)))
            clear b1
            go_wp2_with fail
            go_ret
            exact ⟨ret_b HR.out, HB1.out⟩
          · have hli : ¬ (t.length : Int) ≤ 64 := by omega
            have HR := Lib.hid (show false = rightB ⟨3, n, t, l⟩ by simp [rightB, hlen])
            go_enter Tryz.func127, Tryz.ntmps127
            go_wp2_with fail
            go_region
            go_wp2_with fail
            go_ret
            exact ⟨ret_b HR.out, (((Below.refl w.heap.size w).alloc (Nat.le_refl _) _).alloc (by simp) _).drew⟩
        · by_cases h4 : k = 4
          · subst h4
            have hts2 : (S t).data.toList = t := S_toList t
            rw [hts2] at HNM
            cases hnm : nameB t with
            | true =>
              rw [hnm] at HNM
              have HR := Lib.hid (show bareB n [] l = rightB ⟨4, n, t, l⟩ by cases l <;> simp [rightB, bareB, hnm])
              clear hnm hts2
              go_enter Tryz.func127, Tryz.ntmps127
              go_wp2_with fail
              go_region
              go_wp2_with fail
              refine (HNM.out _).mono ?_
              rintro e w1 ⟨rfl, b1⟩
              have hw0 : (((w.alloc (boxO 4 n t l.length a cap)).alloc (boxO 4 n t l.length a cap)).drew).heap[w.heap.size]? = some (boxO 4 n t l.length a cap) := by
                show ((w.alloc _).alloc _).heap[w.heap.size]? = _
                rw [Below.heap_alloc _ _ _ (by simp)]; exact heap_alloc_new w _
              have hw1 : (((w.alloc (boxO 4 n t l.length a cap)).alloc (boxO 4 n t l.length a cap)).drew).heap[w.heap.size + 1]? = some (boxO 4 n t l.length a cap) := by
                have := heap_alloc_new (w.alloc (boxO 4 n t l.length a cap)) (boxO 4 n t l.length a cap)
                rwa [show (w.alloc (boxO 4 n t l.length a cap)).heap.size = w.heap.size + 1 by simp] at this
              have g0 := (b1.block w.heap.size (lt_of_heapV hw0)).trans hw0
              have g1 := (b1.block (w.heap.size + 1) (lt_of_heapV hw1)).trans hw1
              have HB1 := Lib.hid (((((Below.refl w.heap.size w).alloc (Nat.le_refl _) (boxO 4 n t l.length a cap)).alloc (by simp) (boxO 4 n t l.length a cap)).drew).trans (b1.mono (by simp; omega)))
              have p0 : w1.cell? ⟨w.heap.size, 0, none⟩ = some (.int .i64 4) := (cell_of_row w1 _ 0 _ _ (0, 0) g0).trans rfl
              have q0 : w1.cell? ⟨w.heap.size + 1, 0, none⟩ = some (.int .i64 4) := (cell_of_row w1 _ 0 _ _ (0, 0) g1).trans rfl
              have q1 : w1.cell? ⟨w.heap.size + 1, 1, none⟩ = some (.int .i64 n) := (cell_of_row w1 _ 1 _ _ (0, 0) g1).trans rfl
              have q2 : w1.cell? ⟨w.heap.size + 1, 2, none⟩ = some (.string (S t)) := (cell_of_row w1 _ 2 _ _ (0, 0) g1).trans rfl
              have q3 : w1.cell? ⟨w.heap.size + 1, 3, none⟩ = some (.slice a l.length cap) := (cell_of_row w1 _ 3 _ _ (0, 0) g1).trans rfl
              have f2 : w1.frozen? ⟨w.heap.size + 1, 2, none⟩ = false := by unfold World.frozen?; simp only [g1]; rfl
              clear b1 hw0 hw1 g0 g1
              go_wp2_with fail
              refine (HS.out n [] l (by simp) hl1 a cap _ ((HX.out).below (HB1.out.setCell (by simp) _))).mono ?_
              rintro e w2 ⟨rfl, b2⟩
              have HB2 := Lib.hid ((HB1.out.setCell (p := ⟨w.heap.size + 1, 2, none⟩) (by simp) (.string (S []))).trans (b2.mono (by simp; exact HB1.out.size)))
              clear b2
              go_wp2_with fail
              go_ret
              exact ⟨ret_b HR.out, HB2.out⟩
            | false =>
              rw [hnm] at HNM
              have HR := Lib.hid (show false = rightB ⟨4, n, t, l⟩ by simp [rightB, hnm])
              clear hnm hts2
              go_enter Tryz.func127, Tryz.ntmps127
              go_wp2_with fail
              go_region
              go_wp2_with fail
              refine (HNM.out _).mono ?_
              rintro e w1 ⟨rfl, b1⟩
              have hw0 : (((w.alloc (boxO 4 n t l.length a cap)).alloc (boxO 4 n t l.length a cap)).drew).heap[w.heap.size]? = some (boxO 4 n t l.length a cap) := by
                show ((w.alloc _).alloc _).heap[w.heap.size]? = _
                rw [Below.heap_alloc _ _ _ (by simp)]; exact heap_alloc_new w _
              have hw1 : (((w.alloc (boxO 4 n t l.length a cap)).alloc (boxO 4 n t l.length a cap)).drew).heap[w.heap.size + 1]? = some (boxO 4 n t l.length a cap) := by
                have := heap_alloc_new (w.alloc (boxO 4 n t l.length a cap)) (boxO 4 n t l.length a cap)
                rwa [show (w.alloc (boxO 4 n t l.length a cap)).heap.size = w.heap.size + 1 by simp] at this
              have g0 := (b1.block w.heap.size (lt_of_heapV hw0)).trans hw0
              have g1 := (b1.block (w.heap.size + 1) (lt_of_heapV hw1)).trans hw1
              have HB1 := Lib.hid (((((Below.refl w.heap.size w).alloc (Nat.le_refl _) (boxO 4 n t l.length a cap)).alloc (by simp) (boxO 4 n t l.length a cap)).drew).trans (b1.mono (by simp; omega)))
              have p0 : w1.cell? ⟨w.heap.size, 0, none⟩ = some (.int .i64 4) := (cell_of_row w1 _ 0 _ _ (0, 0) g0).trans rfl
              have q0 : w1.cell? ⟨w.heap.size + 1, 0, none⟩ = some (.int .i64 4) := (cell_of_row w1 _ 0 _ _ (0, 0) g1).trans rfl
              have q1 : w1.cell? ⟨w.heap.size + 1, 1, none⟩ = some (.int .i64 n) := (cell_of_row w1 _ 1 _ _ (0, 0) g1).trans rfl
              have q2 : w1.cell? ⟨w.heap.size + 1, 2, none⟩ = some (.string (S t)) := (cell_of_row w1 _ 2 _ _ (0, 0) g1).trans rfl
              have q3 : w1.cell? ⟨w.heap.size + 1, 3, none⟩ = some (.slice a l.length cap) := (cell_of_row w1 _ 3 _ _ (0, 0) g1).trans rfl
              have f2 : w1.frozen? ⟨w.heap.size + 1, 2, none⟩ = false := by unfold World.frozen?; simp only [g1]; rfl
              clear b1 hw0 hw1 g0 g1
              go_wp2_with fail
              go_ret
              exact ⟨ret_b HR.out, HB1.out.setCell (by simp) _⟩
          · by_cases h5 : k = 5
            · subst h5
              by_cases hlen : l.length ≤ 16
              · have hli : (l.length : Int) ≤ 16 := by omega
                have HR := Lib.hid (show bareB n t [] = rightB ⟨5, n, t, l⟩ by cases t <;> simp [rightB, bareB, hlen])
                go_enter Tryz.func127, Tryz.ntmps127
                go_wp2_with fail
                go_region
                go_wp2_with fail
                refine (HS.out n t [] ht1 (by simp) none 0 _ (NumsAt_nil _ _)).mono ?_
                rintro e w1 ⟨rfl, b1⟩
                have HB1 := Lib.hid (((((Below.refl w.heap.size w).alloc (Nat.le_refl _) _).alloc (by simp) _).drew).trans (b1.mono (by simp; omega)))
                clear b1
                go_wp2_with fail
                go_ret
                exact ⟨ret_b HR.out, HB1.out⟩
              · have hli : ¬ (l.length : Int) ≤ 16 := by omega
                have HR := Lib.hid (show false = rightB ⟨5, n, t, l⟩ by simp [rightB, hlen])
                go_enter Tryz.func127, Tryz.ntmps127
                go_wp2_with fail
                go_region
                go_wp2_with fail
                go_ret
                exact ⟨ret_b HR.out, (((Below.refl w.heap.size w).alloc (Nat.le_refl _) _).alloc (by simp) _).drew⟩
            · have e0 : (k == 0) = false := by simpa using h0
              have e1 : (k == 1) = false := by simpa using h1
              have e2 : (k == 2) = false := by simpa using h2
              have e3 : (k == 3) = false := by simpa using h3
              have e4 : (k == 4) = false := by simpa using h4
              have e5 : (k == 5) = false := by simpa using h5
              have HR := Lib.hid (show false = rightB ⟨k, n, t, l⟩ by
                unfold rightB
                have : decide (0 ≤ k ∧ k ≤ 5) = false := by simp; omega
                simp only [this, Bool.false_and])
              clear h0 h1 h2 h3 h4 h5
              go_enter Tryz.func127, Tryz.ntmps127
              go_wp2_with fail
              go_region
              go_wp2_with fail
              go_ret
              exact ⟨ret_b HR.out, (((Below.refl w.heap.size w).alloc (Nat.le_refl _) _).alloc (by simp) _).drew⟩
end Go.Proofs.YtlmmfhbdebfgkaaGreatDoor.Va
