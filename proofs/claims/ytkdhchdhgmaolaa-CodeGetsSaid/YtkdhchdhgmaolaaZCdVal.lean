/-
  The writer's value.
-/
import Derived.Test.YtkdhchdhgmaolaaZTzW
import Derived.Test.YtkdhchdhgmaolaaZTzV
namespace Go.Proofs.Ytkdhchdhgmaolaa.Cd
open Go.RowKit
open Pk Va
set_option linter.unusedVariables false
set_option linter.unusedSimpArgs false

/-- A value that comes in, as far as what is written asks. -/
structure VIn64 (v : V) : Prop where
  ok : VOk v
  num : Num64 v.num
  nums : ∀ n ∈ v.list, Num64 n
theorem right_parts {k n : Int} {t : List UInt8} {l : List Int} (h : rightB ⟨k, n, t, l⟩ = true) :
    (k = 0 ∧ n = 0 ∧ t = [] ∧ l = []) ∨ (k = 1 ∧ t = [] ∧ l = []) ∨ (k = 2 ∧ (n = 0 ∨ n = 1) ∧ t = [] ∧ l = []) ∨ (k = 3 ∧ t.length ≤ 64 ∧ l = []) ∨ (k = 4 ∧ t.length ≤ 24 ∧ l = []) ∨ (k = 5 ∧ l.length ≤ 16) := by
  simp only [rightB, Bool.and_eq_true, Bool.or_eq_true, decide_eq_true_eq, beq_iff_eq, bne_iff_ne, ne_eq, List.isEmpty_iff] at h
  obtain ⟨⟨⟨hk, hn⟩, ht⟩, hl⟩ := h
  by_cases h3 : k = 3
  · subst h3
    simp at ht hl hn
    exact .inr (.inr (.inr (.inl ⟨rfl, ht, hl⟩)))
  · by_cases h4 : k = 4
    · subst h4
      simp at ht hl hn
      exact .inr (.inr (.inr (.inr (.inl ⟨rfl, (nameB_ne ht).2.1, hl⟩))))
    · by_cases h5 : k = 5
      · subst h5
        simp at ht hl hn
        exact .inr (.inr (.inr (.inr (.inr ⟨rfl, hl⟩))))
      · have ht2 : t = [] := by
          rcases ht with (⟨e, _⟩ | ⟨e, _⟩) | ⟨_, e⟩
          · exact absurd e h3
          · exact absurd e h4
          · exact e
        have hl2 : l = [] := by
          rcases hl with ⟨e, _⟩ | ⟨_, e⟩
          · exact absurd e h5
          · exact e
        by_cases h1 : k = 1
        · exact .inr (.inl ⟨h1, ht2, hl2⟩)
        · by_cases h2 : k = 2
          · subst h2
            refine .inr (.inr (.inl ⟨rfl, ?_, ht2, hl2⟩))
            rcases hn with (e | ⟨_, e⟩) | e
            · exact absurd e h1
            · exact e
            · exact .inl e
          · refine .inl ⟨by omega, ?_, ht2, hl2⟩
            rcases hn with (e | ⟨e, _⟩) | e
            · exact absurd e h1
            · exact absurd e h2
            · exact e
theorem WrTo.box {H b r : Nat} {l : List UInt8} {bad : Bool} {w w' : World} {o : Obj} (t : WrTo H b l bad w w') (h : w.heap[r]? = some o) (f : Off b r w) : w'.heap[r]? = some o ∧ Off b r w' := by
  obtain ⟨e, f'⟩ := t.keeps r f
  exact ⟨e.trans h, f'⟩
theorem begin_w {H b : Nat} {l : List UInt8} {bad : Bool} {w w1 : World} {o : Obj} (h : Wr H b l bad w) (k : Below (w.alloc o).heap.size (w.alloc o) w1) : WrTo H b l bad w w1 ∧ w1.heap[w.heap.size]? = some o ∧ Off b w.heap.size w1 := by
  have k1 := (Below.refl w.heap.size w).alloc (Nat.le_refl _) o
  exact ⟨WrTo.of_below h (k1.trans (k.mono k1.size)), (k.block _ (by simp)).trans (heap_alloc_new w o), (h.off_new o).below k⟩

set_option maxRecDepth 100000 in
set_option maxHeartbeats 2000000 in
theorem value_0 (w0 : World) (b : Nat) (l : List UInt8) (bad : Bool) (k n : Int) (t : List UInt8) (li : List Int) (hk0 : k = 0 ∧ n = 0 ∧ t = [] ∧ li = []) (ok : VIn64 ⟨k, n, t, li⟩) (a : Option Addr) (cap : Nat) (hx : NumsAt w0 a li) (w : World) (hk : Below w0.heap.size w0 w) (h : Wr w0.heap.size b l bad w) (hl : l.length ≤ 90000000) :
    Calls Try.prog 56 #[.pointer (some ⟨b, 0, none⟩), valC ⟨k, n, t, li⟩ a cap] w fun e w' => PutsTo w0.heap.size b (valB ⟨k, n, t, li⟩) (rightB ⟨k, n, t, li⟩) 300 l bad w e w' := by
  obtain ⟨rfl, rfl, rfl, rfl⟩ := hk0
  have hb1 := (Below.refl w.heap.size w).alloc (Nat.le_refl _) (.cells #[.int .i64 0, .int .i64 0, .string (S []), .slice a ([] : List Int).length cap] 25)
  have HR := Lib.hid (Right_any ⟨0, 0, [], []⟩ ok.ok a cap _ ((hx.below hk).below hb1))
  have H0 := Lib.hid h
  have HB := Lib.hid (fun w1 k1 => begin_w (w1 := w1) (o := .cells #[.int .i64 0, .int .i64 0, .string (S []), .slice a ([] : List Int).length cap] 25) h k1)
  have HRT := Lib.hid (by rfl : rightB ⟨0, 0, [], []⟩ = true)
  rw [HRT.out] at HR ⊢
  unfold valC at *
  simp only at HR ⊢
  clear h hx hk hb1
  go_enter Try.func56, Try.ntmps56
  go_wp2_with fail
  refine HR.out.mono ?_
  rintro e w1 ⟨rfl, k1⟩
  obtain ⟨t1, x1, f1⟩ := HB.out w1 k1
  have p0 := cell_of_row w1 w.heap.size 0 _ _ (0, 0) x1
  have p1 := cell_of_row w1 w.heap.size 1 _ _ (0, 0) x1
  have p2 := cell_of_row w1 w.heap.size 2 _ _ (0, 0) x1
  have p3 := cell_of_row w1 w.heap.size 3 _ _ (0, 0) x1
  simp only [List.getElem?_toArray, List.getElem?_cons_zero, List.getElem?_cons_succ] at p0 p1 p2 p3
  have T1 := Lib.hid t1
  have X1 := Lib.hid x1
  have F1 := Lib.hid f1
  have HWB := Lib.hid (show ∀ W, Good w1 W → Calls Try.prog 90 #[.pointer (some ⟨b, 0, none⟩), .int .u8 (IntKind.u8.wrap 0)] W fun e w2 => e = .returned .nilIface ∧ WrTo w0.heap.size b (l ++ [0]) bad w1 w2 from fun W kk => by
    rw [show IntKind.u8.wrap (0 : Int) = (((0 : UInt8).toNat : Nat) : Int) by decide]
    refine (WriteByte_w w0.heap.size b l bad 0 W (T1.out.wr.below kk) (by omega)).mono ?_
    rintro e w2 ⟨rfl, t⟩
    exact ⟨rfl, (WrTo.of_below T1.out.wr kk).trans t⟩)
  have HG1 := Lib.hid (Good.refl w1)
  have HK1 := Lib.hid (show w1.drew.cell? ⟨w.heap.size, 0, none⟩ = some (.int .i64 0) from p0)
  have HKP := Lib.hid (fun w2 (t : WrTo w0.heap.size b (l ++ [0]) bad w1 w2) => show w2.cell? ⟨w.heap.size, 0, none⟩ = some (.int .i64 0) from cell_of_row w2 w.heap.size 0 _ _ (0, 0) (t.box X1.out F1.out).1)
  clear t1 x1 f1 k1
  go_wp2_with fail
  go_region_held3 (fun w7 => w7.cell? ⟨w.heap.size, 0, none⟩ = some (.int .i64 0)) (first | assumption | exact HK1.out | exact HK2.out)
    (first
      | (go_at_call 90; with_reducible refine (HWB.out _ (by first | exact good_id (by assumption) | exact good_drew (by assumption))).mono ?_; rintro e w2 ⟨rfl, t2⟩; have T2' := Lib.hid t2; have HK2 := Lib.hid (HKP.out _ t2); clear t2))
  obtain ⟨x2, f2⟩ := T2'.out.box X1.out F1.out
  have p0 := cell_of_row w2 w.heap.size 0 _ _ (0, 0) x2
  have p1 := cell_of_row w2 w.heap.size 1 _ _ (0, 0) x2
  have p2 := cell_of_row w2 w.heap.size 2 _ _ (0, 0) x2
  have p3 := cell_of_row w2 w.heap.size 3 _ _ (0, 0) x2
  simp only [List.getElem?_toArray, List.getElem?_cons_zero, List.getElem?_cons_succ] at p0 p1 p2 p3
  have T2 := Lib.hid (T1.out.trans T2'.out)
  have X2 := Lib.hid x2
  have F2 := Lib.hid f2
  clear x2 f2
  have hl2 : (l ++ [(0 : UInt8)]).length ≤ 90000001 := by simp; omega
  go_wp2_with fail
  go_end0
  exact ⟨rfl, _, _, T2.out, Wrote.all [0] l bad 300 (by simp)⟩

set_option maxRecDepth 100000 in
set_option maxHeartbeats 2000000 in
theorem value_1 (w0 : World) (b : Nat) (l : List UInt8) (bad : Bool) (k n : Int) (t : List UInt8) (li : List Int) (hk0 : k = 1 ∧ t = [] ∧ li = []) (ok : VIn64 ⟨k, n, t, li⟩) (a : Option Addr) (cap : Nat) (hx : NumsAt w0 a li) (w : World) (hk : Below w0.heap.size w0 w) (h : Wr w0.heap.size b l bad w) (hl : l.length ≤ 90000000) :
    Calls Try.prog 56 #[.pointer (some ⟨b, 0, none⟩), valC ⟨k, n, t, li⟩ a cap] w fun e w' => PutsTo w0.heap.size b (valB ⟨k, n, t, li⟩) (rightB ⟨k, n, t, li⟩) 300 l bad w e w' := by
  obtain ⟨rfl, rfl, rfl⟩ := hk0
  have HNM := Lib.hid ok.num
  have hb1 := (Below.refl w.heap.size w).alloc (Nat.le_refl _) (.cells #[.int .i64 1, .int .i64 n, .string (S []), .slice a ([] : List Int).length cap] 25)
  have HR := Lib.hid (Right_any ⟨1, n, [], []⟩ ok.ok a cap _ ((hx.below hk).below hb1))
  have H0 := Lib.hid h
  have HB := Lib.hid (fun w1 k1 => begin_w (w1 := w1) (o := .cells #[.int .i64 1, .int .i64 n, .string (S []), .slice a ([] : List Int).length cap] 25) h k1)
  have HRT := Lib.hid (by simp [rightB] : rightB ⟨1, n, [], []⟩ = true)
  rw [HRT.out] at HR ⊢
  unfold valC at *
  simp only at HR ⊢
  clear h hx hk hb1
  go_enter Try.func56, Try.ntmps56
  go_wp2_with fail
  refine HR.out.mono ?_
  rintro e w1 ⟨rfl, k1⟩
  obtain ⟨t1, x1, f1⟩ := HB.out w1 k1
  have p0 := cell_of_row w1 w.heap.size 0 _ _ (0, 0) x1
  have p1 := cell_of_row w1 w.heap.size 1 _ _ (0, 0) x1
  have p2 := cell_of_row w1 w.heap.size 2 _ _ (0, 0) x1
  have p3 := cell_of_row w1 w.heap.size 3 _ _ (0, 0) x1
  simp only [List.getElem?_toArray, List.getElem?_cons_zero, List.getElem?_cons_succ] at p0 p1 p2 p3
  have T1 := Lib.hid t1
  have X1 := Lib.hid x1
  have F1 := Lib.hid f1
  have HWB := Lib.hid (show ∀ W, Good w1 W → Calls Try.prog 90 #[.pointer (some ⟨b, 0, none⟩), .int .u8 (IntKind.u8.wrap 1)] W fun e w2 => e = .returned .nilIface ∧ WrTo w0.heap.size b (l ++ [1]) bad w1 w2 from fun W kk => by
    rw [show IntKind.u8.wrap (1 : Int) = (((1 : UInt8).toNat : Nat) : Int) by decide]
    refine (WriteByte_w w0.heap.size b l bad 1 W (T1.out.wr.below kk) (by omega)).mono ?_
    rintro e w2 ⟨rfl, t⟩
    exact ⟨rfl, (WrTo.of_below T1.out.wr kk).trans t⟩)
  have HG1 := Lib.hid (Good.refl w1)
  have HK1 := Lib.hid (show w1.drew.cell? ⟨w.heap.size, 0, none⟩ = some (.int .i64 1) from p0)
  have HKP := Lib.hid (fun w2 (t : WrTo w0.heap.size b (l ++ [1]) bad w1 w2) => show w2.cell? ⟨w.heap.size, 0, none⟩ = some (.int .i64 1) from cell_of_row w2 w.heap.size 0 _ _ (0, 0) (t.box X1.out F1.out).1)
  clear t1 x1 f1 k1
  go_wp2_with fail
  go_region_held3 (fun w7 => w7.cell? ⟨w.heap.size, 0, none⟩ = some (.int .i64 1)) (first | assumption | exact HK1.out | exact HK2.out)
    (first
      | (go_at_call 90; with_reducible refine (HWB.out _ (by first | exact good_id (by assumption) | exact good_drew (by assumption))).mono ?_; rintro e w2 ⟨rfl, t2⟩; have T2' := Lib.hid t2; have HK2 := Lib.hid (HKP.out _ t2); clear t2))
  obtain ⟨x2, f2⟩ := T2'.out.box X1.out F1.out
  have p0 := cell_of_row w2 w.heap.size 0 _ _ (0, 0) x2
  have p1 := cell_of_row w2 w.heap.size 1 _ _ (0, 0) x2
  have p2 := cell_of_row w2 w.heap.size 2 _ _ (0, 0) x2
  have p3 := cell_of_row w2 w.heap.size 3 _ _ (0, 0) x2
  simp only [List.getElem?_toArray, List.getElem?_cons_zero, List.getElem?_cons_succ] at p0 p1 p2 p3
  have T2 := Lib.hid (T1.out.trans T2'.out)
  have X2 := Lib.hid x2
  have F2 := Lib.hid f2
  clear x2 f2
  have hl2 : (l ++ [(1 : UInt8)]).length ≤ 90000001 := by simp; omega
  go_wp2_with fail
  refine (number_w w0.heap.size b (l ++ [1]) bad n HNM.out w2 T2.out.wr (by omega)).mono ?_
  rintro e w3 ⟨rfl, l3, b3, t3, q3⟩
  have T3 := Lib.hid (T2.out.trans t3)
  have Q3 := Lib.hid q3
  clear t3 q3
  go_wp2_with fail
  go_end0
  exact ⟨rfl, l3, b3, T3.out, ((Wrote.all [1] l bad 1 (by simp)).then Q3.out).conv (fun _ => by simp [valB, tailB, byteB]) rfl (by omega)⟩

set_option maxRecDepth 100000 in
set_option maxHeartbeats 2000000 in
theorem value_20 (w0 : World) (b : Nat) (l : List UInt8) (bad : Bool) (k n : Int) (t : List UInt8) (li : List Int) (hk0 : k = 2 ∧ n = 0 ∧ t = [] ∧ li = []) (ok : VIn64 ⟨k, n, t, li⟩) (a : Option Addr) (cap : Nat) (hx : NumsAt w0 a li) (w : World) (hk : Below w0.heap.size w0 w) (h : Wr w0.heap.size b l bad w) (hl : l.length ≤ 90000000) :
    Calls Try.prog 56 #[.pointer (some ⟨b, 0, none⟩), valC ⟨k, n, t, li⟩ a cap] w fun e w' => PutsTo w0.heap.size b (valB ⟨k, n, t, li⟩) (rightB ⟨k, n, t, li⟩) 300 l bad w e w' := by
  obtain ⟨rfl, rfl, rfl, rfl⟩ := hk0
  have hb1 := (Below.refl w.heap.size w).alloc (Nat.le_refl _) (.cells #[.int .i64 2, .int .i64 0, .string (S []), .slice a ([] : List Int).length cap] 25)
  have HR := Lib.hid (Right_any ⟨2, 0, [], []⟩ ok.ok a cap _ ((hx.below hk).below hb1))
  have H0 := Lib.hid h
  have HB := Lib.hid (fun w1 k1 => begin_w (w1 := w1) (o := .cells #[.int .i64 2, .int .i64 0, .string (S []), .slice a ([] : List Int).length cap] 25) h k1)
  have HRT := Lib.hid (by simp [rightB] : rightB ⟨2, 0, [], []⟩ = true)
  rw [HRT.out] at HR ⊢
  unfold valC at *
  simp only at HR ⊢
  clear h hx hk hb1
  go_enter Try.func56, Try.ntmps56
  go_wp2_with fail
  refine HR.out.mono ?_
  rintro e w1 ⟨rfl, k1⟩
  obtain ⟨t1, x1, f1⟩ := HB.out w1 k1
  have p0 := cell_of_row w1 w.heap.size 0 _ _ (0, 0) x1
  have p1 := cell_of_row w1 w.heap.size 1 _ _ (0, 0) x1
  have p2 := cell_of_row w1 w.heap.size 2 _ _ (0, 0) x1
  have p3 := cell_of_row w1 w.heap.size 3 _ _ (0, 0) x1
  simp only [List.getElem?_toArray, List.getElem?_cons_zero, List.getElem?_cons_succ] at p0 p1 p2 p3
  have T1 := Lib.hid t1
  have X1 := Lib.hid x1
  have F1 := Lib.hid f1
  have HWB := Lib.hid (show ∀ W, Good w1 W → Calls Try.prog 90 #[.pointer (some ⟨b, 0, none⟩), .int .u8 (IntKind.u8.wrap 2)] W fun e w2 => e = .returned .nilIface ∧ WrTo w0.heap.size b (l ++ [2]) bad w1 w2 from fun W kk => by
    rw [show IntKind.u8.wrap (2 : Int) = (((2 : UInt8).toNat : Nat) : Int) by decide]
    refine (WriteByte_w w0.heap.size b l bad 2 W (T1.out.wr.below kk) (by omega)).mono ?_
    rintro e w2 ⟨rfl, t⟩
    exact ⟨rfl, (WrTo.of_below T1.out.wr kk).trans t⟩)
  have HG1 := Lib.hid (Good.refl w1)
  have HK1 := Lib.hid (show w1.drew.cell? ⟨w.heap.size, 0, none⟩ = some (.int .i64 2) from p0)
  have HKP := Lib.hid (fun w2 (t : WrTo w0.heap.size b (l ++ [2]) bad w1 w2) => show w2.cell? ⟨w.heap.size, 0, none⟩ = some (.int .i64 2) from cell_of_row w2 w.heap.size 0 _ _ (0, 0) (t.box X1.out F1.out).1)
  clear t1 x1 f1 k1
  go_wp2_with fail
  go_region_held3 (fun w7 => w7.cell? ⟨w.heap.size, 0, none⟩ = some (.int .i64 2)) (first | assumption | exact HK1.out | exact HK2.out)
    (first
      | (go_at_call 90; with_reducible refine (HWB.out _ (by first | exact good_id (by assumption) | exact good_drew (by assumption))).mono ?_; rintro e w2 ⟨rfl, t2⟩; have T2' := Lib.hid t2; have HK2 := Lib.hid (HKP.out _ t2); clear t2))
  obtain ⟨x2, f2⟩ := T2'.out.box X1.out F1.out
  have p0 := cell_of_row w2 w.heap.size 0 _ _ (0, 0) x2
  have p1 := cell_of_row w2 w.heap.size 1 _ _ (0, 0) x2
  have p2 := cell_of_row w2 w.heap.size 2 _ _ (0, 0) x2
  have p3 := cell_of_row w2 w.heap.size 3 _ _ (0, 0) x2
  simp only [List.getElem?_toArray, List.getElem?_cons_zero, List.getElem?_cons_succ] at p0 p1 p2 p3
  have T2 := Lib.hid (T1.out.trans T2'.out)
  have X2 := Lib.hid x2
  have F2 := Lib.hid f2
  clear x2 f2
  have hl2 : (l ++ [(2 : UInt8)]).length ≤ 90000001 := by simp; omega
  go_wp2_with fail
  have HN := Lib.hid (show ∀ W, Good w2 W → Calls Try.prog 93 #[.bool false] W fun e w3 => e = .returned (.string (S (truthL false))) ∧ Good w2 w3 from fun W kk => by
    refine (truth_any false W).mono ?_
    rintro e w3 ⟨rfl, rfl⟩
    exact ⟨rfl, kk⟩)
  have HW := Lib.hid (fun W (kk : Good w2 W) => (WriteString_w w0.heap.size b (l ++ [2]) bad (truthL false) (by decide) W (T2.out.wr.below kk) (by have : (truthL false).length = 1 := rfl; omega)).mono (R' := fun e w4 => e = .returned (.tuple #[.int .i64 ((truthL false).length : Int), .nilIface]) ∧ WrTo w0.heap.size b (l ++ [2] ++ (truthL false)) bad w2 w4) (fun e w4 g => ⟨g.1, (WrTo.of_below T2.out.wr kk).trans g.2⟩))
  have HG2 := Lib.hid (Good.refl w2)
  have HS2 := Lib.hid (show w2.drew.cell? ⟨w.heap.size, 1, none⟩ = some (.int .i64 0) from p1)
  have HSG := Lib.hid (fun w3 (kk : Good w2 w3) => show w3.cell? ⟨w.heap.size, 1, none⟩ = some (.int .i64 0) from (kk.cell (p := ⟨w.heap.size, 1, none⟩) (lt_of_heapV X2.out)).trans p1)
  have HSW := Lib.hid (fun w4 (tw : WrTo w0.heap.size b (l ++ [2] ++ (truthL false)) bad w2 w4) => show w4.cell? ⟨w.heap.size, 1, none⟩ = some (.int .i64 0) from cell_of_row w4 w.heap.size 1 _ _ (0, 0) (tw.box X2.out F2.out).1)
  go_region_held3 (fun w7 => w7.cell? ⟨w.heap.size, 1, none⟩ = some (.int .i64 0)) (first | assumption | exact HS2.out | exact HS3.out | exact HS4.out)
    (first
      | (go_at_call 93; with_reducible refine (HN.out _ (by first | exact good_id (by assumption) | exact good_drew (by assumption))).mono ?_; rintro e w3 ⟨rfl, k3⟩; have HG3 := Lib.hid k3; have HS3 := Lib.hid (HSG.out _ k3); clear k3)
      | (go_at_call 92; with_reducible refine (HW.out _ (by first | exact good_id (by assumption) | exact good_drew (by assumption))).mono ?_; rintro e w4 ⟨rfl, t4⟩; have T4' := Lib.hid t4; have HS4 := Lib.hid (HSW.out _ t4); clear t4))
  all_goals
    have T4 := Lib.hid (T2.out.trans T4'.out)
    go_wp2_with fail
    go_end0
    exact ⟨rfl, _, _, T4.out, ((Wrote.all [2] l bad 1 (by simp)).then (Wrote.all (truthL false) _ bad 1 (by decide))).conv (fun _ => by simp [valB, tailB, byteB, truthL]) rfl (by omega)⟩

set_option maxRecDepth 100000 in
set_option maxHeartbeats 2000000 in
theorem value_21 (w0 : World) (b : Nat) (l : List UInt8) (bad : Bool) (k n : Int) (t : List UInt8) (li : List Int) (hk0 : k = 2 ∧ n = 1 ∧ t = [] ∧ li = []) (ok : VIn64 ⟨k, n, t, li⟩) (a : Option Addr) (cap : Nat) (hx : NumsAt w0 a li) (w : World) (hk : Below w0.heap.size w0 w) (h : Wr w0.heap.size b l bad w) (hl : l.length ≤ 90000000) :
    Calls Try.prog 56 #[.pointer (some ⟨b, 0, none⟩), valC ⟨k, n, t, li⟩ a cap] w fun e w' => PutsTo w0.heap.size b (valB ⟨k, n, t, li⟩) (rightB ⟨k, n, t, li⟩) 300 l bad w e w' := by
  obtain ⟨rfl, rfl, rfl, rfl⟩ := hk0
  have hb1 := (Below.refl w.heap.size w).alloc (Nat.le_refl _) (.cells #[.int .i64 2, .int .i64 1, .string (S []), .slice a ([] : List Int).length cap] 25)
  have HR := Lib.hid (Right_any ⟨2, 1, [], []⟩ ok.ok a cap _ ((hx.below hk).below hb1))
  have H0 := Lib.hid h
  have HB := Lib.hid (fun w1 k1 => begin_w (w1 := w1) (o := .cells #[.int .i64 2, .int .i64 1, .string (S []), .slice a ([] : List Int).length cap] 25) h k1)
  have HRT := Lib.hid (by simp [rightB] : rightB ⟨2, 1, [], []⟩ = true)
  rw [HRT.out] at HR ⊢
  unfold valC at *
  simp only at HR ⊢
  clear h hx hk hb1
  go_enter Try.func56, Try.ntmps56
  go_wp2_with fail
  refine HR.out.mono ?_
  rintro e w1 ⟨rfl, k1⟩
  obtain ⟨t1, x1, f1⟩ := HB.out w1 k1
  have p0 := cell_of_row w1 w.heap.size 0 _ _ (0, 0) x1
  have p1 := cell_of_row w1 w.heap.size 1 _ _ (0, 0) x1
  have p2 := cell_of_row w1 w.heap.size 2 _ _ (0, 0) x1
  have p3 := cell_of_row w1 w.heap.size 3 _ _ (0, 0) x1
  simp only [List.getElem?_toArray, List.getElem?_cons_zero, List.getElem?_cons_succ] at p0 p1 p2 p3
  have T1 := Lib.hid t1
  have X1 := Lib.hid x1
  have F1 := Lib.hid f1
  have HWB := Lib.hid (show ∀ W, Good w1 W → Calls Try.prog 90 #[.pointer (some ⟨b, 0, none⟩), .int .u8 (IntKind.u8.wrap 2)] W fun e w2 => e = .returned .nilIface ∧ WrTo w0.heap.size b (l ++ [2]) bad w1 w2 from fun W kk => by
    rw [show IntKind.u8.wrap (2 : Int) = (((2 : UInt8).toNat : Nat) : Int) by decide]
    refine (WriteByte_w w0.heap.size b l bad 2 W (T1.out.wr.below kk) (by omega)).mono ?_
    rintro e w2 ⟨rfl, t⟩
    exact ⟨rfl, (WrTo.of_below T1.out.wr kk).trans t⟩)
  have HG1 := Lib.hid (Good.refl w1)
  have HK1 := Lib.hid (show w1.drew.cell? ⟨w.heap.size, 0, none⟩ = some (.int .i64 2) from p0)
  have HKP := Lib.hid (fun w2 (t : WrTo w0.heap.size b (l ++ [2]) bad w1 w2) => show w2.cell? ⟨w.heap.size, 0, none⟩ = some (.int .i64 2) from cell_of_row w2 w.heap.size 0 _ _ (0, 0) (t.box X1.out F1.out).1)
  clear t1 x1 f1 k1
  go_wp2_with fail
  go_region_held3 (fun w7 => w7.cell? ⟨w.heap.size, 0, none⟩ = some (.int .i64 2)) (first | assumption | exact HK1.out | exact HK2.out)
    (first
      | (go_at_call 90; with_reducible refine (HWB.out _ (by first | exact good_id (by assumption) | exact good_drew (by assumption))).mono ?_; rintro e w2 ⟨rfl, t2⟩; have T2' := Lib.hid t2; have HK2 := Lib.hid (HKP.out _ t2); clear t2))
  obtain ⟨x2, f2⟩ := T2'.out.box X1.out F1.out
  have p0 := cell_of_row w2 w.heap.size 0 _ _ (0, 0) x2
  have p1 := cell_of_row w2 w.heap.size 1 _ _ (0, 0) x2
  have p2 := cell_of_row w2 w.heap.size 2 _ _ (0, 0) x2
  have p3 := cell_of_row w2 w.heap.size 3 _ _ (0, 0) x2
  simp only [List.getElem?_toArray, List.getElem?_cons_zero, List.getElem?_cons_succ] at p0 p1 p2 p3
  have T2 := Lib.hid (T1.out.trans T2'.out)
  have X2 := Lib.hid x2
  have F2 := Lib.hid f2
  clear x2 f2
  have hl2 : (l ++ [(2 : UInt8)]).length ≤ 90000001 := by simp; omega
  go_wp2_with fail
  have HN := Lib.hid (show ∀ W, Good w2 W → Calls Try.prog 93 #[.bool true] W fun e w3 => e = .returned (.string (S (truthL true))) ∧ Good w2 w3 from fun W kk => by
    refine (truth_any true W).mono ?_
    rintro e w3 ⟨rfl, rfl⟩
    exact ⟨rfl, kk⟩)
  have HW := Lib.hid (fun W (kk : Good w2 W) => (WriteString_w w0.heap.size b (l ++ [2]) bad (truthL true) (by decide) W (T2.out.wr.below kk) (by have : (truthL true).length = 1 := rfl; omega)).mono (R' := fun e w4 => e = .returned (.tuple #[.int .i64 ((truthL true).length : Int), .nilIface]) ∧ WrTo w0.heap.size b (l ++ [2] ++ (truthL true)) bad w2 w4) (fun e w4 g => ⟨g.1, (WrTo.of_below T2.out.wr kk).trans g.2⟩))
  have HG2 := Lib.hid (Good.refl w2)
  have HS2 := Lib.hid (show w2.drew.cell? ⟨w.heap.size, 1, none⟩ = some (.int .i64 1) from p1)
  have HSG := Lib.hid (fun w3 (kk : Good w2 w3) => show w3.cell? ⟨w.heap.size, 1, none⟩ = some (.int .i64 1) from (kk.cell (p := ⟨w.heap.size, 1, none⟩) (lt_of_heapV X2.out)).trans p1)
  have HSW := Lib.hid (fun w4 (tw : WrTo w0.heap.size b (l ++ [2] ++ (truthL true)) bad w2 w4) => show w4.cell? ⟨w.heap.size, 1, none⟩ = some (.int .i64 1) from cell_of_row w4 w.heap.size 1 _ _ (0, 0) (tw.box X2.out F2.out).1)
  go_region_held3 (fun w7 => w7.cell? ⟨w.heap.size, 1, none⟩ = some (.int .i64 1)) (first | assumption | exact HS2.out | exact HS3.out | exact HS4.out)
    (first
      | (go_at_call 93; with_reducible refine (HN.out _ (by first | exact good_id (by assumption) | exact good_drew (by assumption))).mono ?_; rintro e w3 ⟨rfl, k3⟩; have HG3 := Lib.hid k3; have HS3 := Lib.hid (HSG.out _ k3); clear k3)
      | (go_at_call 92; with_reducible refine (HW.out _ (by first | exact good_id (by assumption) | exact good_drew (by assumption))).mono ?_; rintro e w4 ⟨rfl, t4⟩; have T4' := Lib.hid t4; have HS4 := Lib.hid (HSW.out _ t4); clear t4))
  all_goals
    have T4 := Lib.hid (T2.out.trans T4'.out)
    go_wp2_with fail
    go_end0
    exact ⟨rfl, _, _, T4.out, ((Wrote.all [2] l bad 1 (by simp)).then (Wrote.all (truthL true) _ bad 1 (by decide))).conv (fun _ => by simp [valB, tailB, byteB, truthL]) rfl (by omega)⟩

set_option maxRecDepth 100000 in
set_option maxHeartbeats 2000000 in
theorem value_3 (w0 : World) (b : Nat) (l : List UInt8) (bad : Bool) (k n : Int) (t : List UInt8) (li : List Int) (hk0 : k = 3 ∧ t.length ≤ 64 ∧ li = []) (hr : rightB ⟨3, n, t, []⟩ = true) (ok : VIn64 ⟨k, n, t, li⟩) (a : Option Addr) (cap : Nat) (hx : NumsAt w0 a li) (w : World) (hk : Below w0.heap.size w0 w) (h : Wr w0.heap.size b l bad w) (hl : l.length ≤ 90000000) :
    Calls Try.prog 56 #[.pointer (some ⟨b, 0, none⟩), valC ⟨k, n, t, li⟩ a cap] w fun e w' => PutsTo w0.heap.size b (valB ⟨k, n, t, li⟩) (rightB ⟨k, n, t, li⟩) 300 l bad w e w' := by
  obtain ⟨rfl, htl, rfl⟩ := hk0
  have hts : (S t).size = t.length := S_size t
  have HTX := Lib.hid (fun w => text_any (S t) (by omega) w)
  rw [hts, S_toList] at HTX
  have hb1 := (Below.refl w.heap.size w).alloc (Nat.le_refl _) (.cells #[.int .i64 3, .int .i64 n, .string (S t), .slice a ([] : List Int).length cap] 25)
  have HR := Lib.hid (Right_any ⟨3, n, t, []⟩ ok.ok a cap _ ((hx.below hk).below hb1))
  have H0 := Lib.hid h
  have HB := Lib.hid (fun w1 k1 => begin_w (w1 := w1) (o := .cells #[.int .i64 3, .int .i64 n, .string (S t), .slice a ([] : List Int).length cap] 25) h k1)
  have HRT := Lib.hid (hr : rightB ⟨3, n, t, []⟩ = true)
  rw [HRT.out] at HR ⊢
  unfold valC at *
  simp only at HR ⊢
  clear h hx hk hb1 hr
  go_enter Try.func56, Try.ntmps56
  go_wp2_with fail
  refine HR.out.mono ?_
  rintro e w1 ⟨rfl, k1⟩
  obtain ⟨t1, x1, f1⟩ := HB.out w1 k1
  have p0 := cell_of_row w1 w.heap.size 0 _ _ (0, 0) x1
  have p1 := cell_of_row w1 w.heap.size 1 _ _ (0, 0) x1
  have p2 := cell_of_row w1 w.heap.size 2 _ _ (0, 0) x1
  have p3 := cell_of_row w1 w.heap.size 3 _ _ (0, 0) x1
  simp only [List.getElem?_toArray, List.getElem?_cons_zero, List.getElem?_cons_succ] at p0 p1 p2 p3
  have T1 := Lib.hid t1
  have X1 := Lib.hid x1
  have F1 := Lib.hid f1
  have HWB := Lib.hid (show ∀ W, Good w1 W → Calls Try.prog 90 #[.pointer (some ⟨b, 0, none⟩), .int .u8 (IntKind.u8.wrap 3)] W fun e w2 => e = .returned .nilIface ∧ WrTo w0.heap.size b (l ++ [3]) bad w1 w2 from fun W kk => by
    rw [show IntKind.u8.wrap (3 : Int) = (((3 : UInt8).toNat : Nat) : Int) by decide]
    refine (WriteByte_w w0.heap.size b l bad 3 W (T1.out.wr.below kk) (by omega)).mono ?_
    rintro e w2 ⟨rfl, t⟩
    exact ⟨rfl, (WrTo.of_below T1.out.wr kk).trans t⟩)
  have HG1 := Lib.hid (Good.refl w1)
  have HK1 := Lib.hid (show w1.drew.cell? ⟨w.heap.size, 0, none⟩ = some (.int .i64 3) from p0)
  have HKP := Lib.hid (fun w2 (t : WrTo w0.heap.size b (l ++ [3]) bad w1 w2) => show w2.cell? ⟨w.heap.size, 0, none⟩ = some (.int .i64 3) from cell_of_row w2 w.heap.size 0 _ _ (0, 0) (t.box X1.out F1.out).1)
  clear t1 x1 f1 k1
  go_wp2_with fail
  go_region_held3 (fun w7 => w7.cell? ⟨w.heap.size, 0, none⟩ = some (.int .i64 3)) (first | assumption | exact HK1.out | exact HK2.out)
    (first
      | (go_at_call 90; with_reducible refine (HWB.out _ (by first | exact good_id (by assumption) | exact good_drew (by assumption))).mono ?_; rintro e w2 ⟨rfl, t2⟩; have T2' := Lib.hid t2; have HK2 := Lib.hid (HKP.out _ t2); clear t2))
  obtain ⟨x2, f2⟩ := T2'.out.box X1.out F1.out
  have p0 := cell_of_row w2 w.heap.size 0 _ _ (0, 0) x2
  have p1 := cell_of_row w2 w.heap.size 1 _ _ (0, 0) x2
  have p2 := cell_of_row w2 w.heap.size 2 _ _ (0, 0) x2
  have p3 := cell_of_row w2 w.heap.size 3 _ _ (0, 0) x2
  simp only [List.getElem?_toArray, List.getElem?_cons_zero, List.getElem?_cons_succ] at p0 p1 p2 p3
  have T2 := Lib.hid (T1.out.trans T2'.out)
  have X2 := Lib.hid x2
  have F2 := Lib.hid f2
  clear x2 f2
  have hl2 : (l ++ [(3 : UInt8)]).length ≤ 90000001 := by simp; omega
  go_wp2_with fail
  have HN := Lib.hid (show ∀ W, Good w2 W → Calls Try.prog 94 #[.string (S t)] W fun e w3 => e = .returned (.string (S (txtB t))) ∧ Good w2 w3 from fun W kk => by
    refine (HTX.out W).mono ?_
    rintro e w3 ⟨rfl, b3⟩
    exact ⟨rfl, kk.step b3⟩)
  have HW := Lib.hid (fun W (kk : Good w2 W) => (WriteString_w w0.heap.size b (l ++ [3]) bad (txtB t) (by unfold txtB; intro e; exact enc_ne _ (List.append_eq_nil_iff.1 e).1) W (T2.out.wr.below kk) (by have := txtB_len t; omega)).mono (R' := fun e w4 => e = .returned (.tuple #[.int .i64 ((txtB t).length : Int), .nilIface]) ∧ WrTo w0.heap.size b (l ++ [3] ++ (txtB t)) bad w2 w4) (fun e w4 g => ⟨g.1, (WrTo.of_below T2.out.wr kk).trans g.2⟩))
  have HG2 := Lib.hid (Good.refl w2)
  have HS2 := Lib.hid (show w2.drew.cell? ⟨w.heap.size, 2, none⟩ = some (.string (S t)) from p2)
  have HSG := Lib.hid (fun w3 (kk : Good w2 w3) => show w3.cell? ⟨w.heap.size, 2, none⟩ = some (.string (S t)) from (kk.cell (p := ⟨w.heap.size, 2, none⟩) (lt_of_heapV X2.out)).trans p2)
  have HSW := Lib.hid (fun w4 (tw : WrTo w0.heap.size b (l ++ [3] ++ (txtB t)) bad w2 w4) => show w4.cell? ⟨w.heap.size, 2, none⟩ = some (.string (S t)) from cell_of_row w4 w.heap.size 2 _ _ (0, 0) (tw.box X2.out F2.out).1)
  go_region_held3 (fun w7 => w7.cell? ⟨w.heap.size, 2, none⟩ = some (.string (S t))) (first | assumption | exact HS2.out | exact HS3.out | exact HS4.out)
    (first
      | (go_at_call 94; with_reducible refine (HN.out _ (by first | exact good_id (by assumption) | exact good_drew (by assumption))).mono ?_; rintro e w3 ⟨rfl, k3⟩; have HG3 := Lib.hid k3; have HS3 := Lib.hid (HSG.out _ k3); clear k3)
      | (go_at_call 92; with_reducible refine (HW.out _ (by first | exact good_id (by assumption) | exact good_drew (by assumption))).mono ?_; rintro e w4 ⟨rfl, t4⟩; have T4' := Lib.hid t4; have HS4 := Lib.hid (HSW.out _ t4); clear t4))
  all_goals
    have T4 := Lib.hid (T2.out.trans T4'.out)
    go_wp2_with fail
    go_end0
    exact ⟨rfl, _, _, T4.out, ((Wrote.all [3] l bad 1 (by simp)).then (Wrote.all (txtB t) _ bad 299 (by have := txtB_len t; omega))).conv (fun _ => by simp [valB, tailB, byteB]) rfl (by omega)⟩

set_option maxRecDepth 100000 in
set_option maxHeartbeats 2000000 in
theorem value_4 (w0 : World) (b : Nat) (l : List UInt8) (bad : Bool) (k n : Int) (t : List UInt8) (li : List Int) (hk0 : k = 4 ∧ t.length ≤ 24 ∧ li = []) (hr : rightB ⟨4, n, t, []⟩ = true) (ok : VIn64 ⟨k, n, t, li⟩) (a : Option Addr) (cap : Nat) (hx : NumsAt w0 a li) (w : World) (hk : Below w0.heap.size w0 w) (h : Wr w0.heap.size b l bad w) (hl : l.length ≤ 90000000) :
    Calls Try.prog 56 #[.pointer (some ⟨b, 0, none⟩), valC ⟨k, n, t, li⟩ a cap] w fun e w' => PutsTo w0.heap.size b (valB ⟨k, n, t, li⟩) (rightB ⟨k, n, t, li⟩) 300 l bad w e w' := by
  obtain ⟨rfl, htl, rfl⟩ := hk0
  have hts : (S t).size = t.length := S_size t
  have HTX := Lib.hid (fun w => text_any (S t) (by omega) w)
  rw [hts, S_toList] at HTX
  have hb1 := (Below.refl w.heap.size w).alloc (Nat.le_refl _) (.cells #[.int .i64 4, .int .i64 n, .string (S t), .slice a ([] : List Int).length cap] 25)
  have HR := Lib.hid (Right_any ⟨4, n, t, []⟩ ok.ok a cap _ ((hx.below hk).below hb1))
  have H0 := Lib.hid h
  have HB := Lib.hid (fun w1 k1 => begin_w (w1 := w1) (o := .cells #[.int .i64 4, .int .i64 n, .string (S t), .slice a ([] : List Int).length cap] 25) h k1)
  have HRT := Lib.hid (hr : rightB ⟨4, n, t, []⟩ = true)
  rw [HRT.out] at HR ⊢
  unfold valC at *
  simp only at HR ⊢
  clear h hx hk hb1 hr
  go_enter Try.func56, Try.ntmps56
  go_wp2_with fail
  refine HR.out.mono ?_
  rintro e w1 ⟨rfl, k1⟩
  obtain ⟨t1, x1, f1⟩ := HB.out w1 k1
  have p0 := cell_of_row w1 w.heap.size 0 _ _ (0, 0) x1
  have p1 := cell_of_row w1 w.heap.size 1 _ _ (0, 0) x1
  have p2 := cell_of_row w1 w.heap.size 2 _ _ (0, 0) x1
  have p3 := cell_of_row w1 w.heap.size 3 _ _ (0, 0) x1
  simp only [List.getElem?_toArray, List.getElem?_cons_zero, List.getElem?_cons_succ] at p0 p1 p2 p3
  have T1 := Lib.hid t1
  have X1 := Lib.hid x1
  have F1 := Lib.hid f1
  have HWB := Lib.hid (show ∀ W, Good w1 W → Calls Try.prog 90 #[.pointer (some ⟨b, 0, none⟩), .int .u8 (IntKind.u8.wrap 4)] W fun e w2 => e = .returned .nilIface ∧ WrTo w0.heap.size b (l ++ [4]) bad w1 w2 from fun W kk => by
    rw [show IntKind.u8.wrap (4 : Int) = (((4 : UInt8).toNat : Nat) : Int) by decide]
    refine (WriteByte_w w0.heap.size b l bad 4 W (T1.out.wr.below kk) (by omega)).mono ?_
    rintro e w2 ⟨rfl, t⟩
    exact ⟨rfl, (WrTo.of_below T1.out.wr kk).trans t⟩)
  have HG1 := Lib.hid (Good.refl w1)
  have HK1 := Lib.hid (show w1.drew.cell? ⟨w.heap.size, 0, none⟩ = some (.int .i64 4) from p0)
  have HKP := Lib.hid (fun w2 (t : WrTo w0.heap.size b (l ++ [4]) bad w1 w2) => show w2.cell? ⟨w.heap.size, 0, none⟩ = some (.int .i64 4) from cell_of_row w2 w.heap.size 0 _ _ (0, 0) (t.box X1.out F1.out).1)
  clear t1 x1 f1 k1
  go_wp2_with fail
  go_region_held3 (fun w7 => w7.cell? ⟨w.heap.size, 0, none⟩ = some (.int .i64 4)) (first | assumption | exact HK1.out | exact HK2.out)
    (first
      | (go_at_call 90; with_reducible refine (HWB.out _ (by first | exact good_id (by assumption) | exact good_drew (by assumption))).mono ?_; rintro e w2 ⟨rfl, t2⟩; have T2' := Lib.hid t2; have HK2 := Lib.hid (HKP.out _ t2); clear t2))
  obtain ⟨x2, f2⟩ := T2'.out.box X1.out F1.out
  have p0 := cell_of_row w2 w.heap.size 0 _ _ (0, 0) x2
  have p1 := cell_of_row w2 w.heap.size 1 _ _ (0, 0) x2
  have p2 := cell_of_row w2 w.heap.size 2 _ _ (0, 0) x2
  have p3 := cell_of_row w2 w.heap.size 3 _ _ (0, 0) x2
  simp only [List.getElem?_toArray, List.getElem?_cons_zero, List.getElem?_cons_succ] at p0 p1 p2 p3
  have T2 := Lib.hid (T1.out.trans T2'.out)
  have X2 := Lib.hid x2
  have F2 := Lib.hid f2
  clear x2 f2
  have hl2 : (l ++ [(4 : UInt8)]).length ≤ 90000001 := by simp; omega
  go_wp2_with fail
  have HN := Lib.hid (show ∀ W, Good w2 W → Calls Try.prog 94 #[.string (S t)] W fun e w3 => e = .returned (.string (S (txtB t))) ∧ Good w2 w3 from fun W kk => by
    refine (HTX.out W).mono ?_
    rintro e w3 ⟨rfl, b3⟩
    exact ⟨rfl, kk.step b3⟩)
  have HW := Lib.hid (fun W (kk : Good w2 W) => (WriteString_w w0.heap.size b (l ++ [4]) bad (txtB t) (by unfold txtB; intro e; exact enc_ne _ (List.append_eq_nil_iff.1 e).1) W (T2.out.wr.below kk) (by have := txtB_len t; omega)).mono (R' := fun e w4 => e = .returned (.tuple #[.int .i64 ((txtB t).length : Int), .nilIface]) ∧ WrTo w0.heap.size b (l ++ [4] ++ (txtB t)) bad w2 w4) (fun e w4 g => ⟨g.1, (WrTo.of_below T2.out.wr kk).trans g.2⟩))
  have HG2 := Lib.hid (Good.refl w2)
  have HS2 := Lib.hid (show w2.drew.cell? ⟨w.heap.size, 2, none⟩ = some (.string (S t)) from p2)
  have HSG := Lib.hid (fun w3 (kk : Good w2 w3) => show w3.cell? ⟨w.heap.size, 2, none⟩ = some (.string (S t)) from (kk.cell (p := ⟨w.heap.size, 2, none⟩) (lt_of_heapV X2.out)).trans p2)
  have HSW := Lib.hid (fun w4 (tw : WrTo w0.heap.size b (l ++ [4] ++ (txtB t)) bad w2 w4) => show w4.cell? ⟨w.heap.size, 2, none⟩ = some (.string (S t)) from cell_of_row w4 w.heap.size 2 _ _ (0, 0) (tw.box X2.out F2.out).1)
  go_region_held3 (fun w7 => w7.cell? ⟨w.heap.size, 2, none⟩ = some (.string (S t))) (first | assumption | exact HS2.out | exact HS3.out | exact HS4.out)
    (first
      | (go_at_call 94; with_reducible refine (HN.out _ (by first | exact good_id (by assumption) | exact good_drew (by assumption))).mono ?_; rintro e w3 ⟨rfl, k3⟩; have HG3 := Lib.hid k3; have HS3 := Lib.hid (HSG.out _ k3); clear k3)
      | (go_at_call 92; with_reducible refine (HW.out _ (by first | exact good_id (by assumption) | exact good_drew (by assumption))).mono ?_; rintro e w4 ⟨rfl, t4⟩; have T4' := Lib.hid t4; have HS4 := Lib.hid (HSW.out _ t4); clear t4))
  all_goals
    have T4 := Lib.hid (T2.out.trans T4'.out)
    go_wp2_with fail
    go_end0
    exact ⟨rfl, _, _, T4.out, ((Wrote.all [4] l bad 1 (by simp)).then (Wrote.all (txtB t) _ bad 299 (by have := txtB_len t; omega))).conv (fun _ => by simp [valB, tailB, byteB]) rfl (by omega)⟩

set_option maxRecDepth 100000 in
set_option maxHeartbeats 2000000 in
theorem value_5 (w0 : World) (b : Nat) (l : List UInt8) (bad : Bool) (k n : Int) (t : List UInt8) (li : List Int) (hk0 : k = 5 ∧ li.length ≤ 16) (hr : rightB ⟨5, n, t, li⟩ = true) (ok : VIn64 ⟨k, n, t, li⟩) (a : Option Addr) (cap : Nat) (hx : NumsAt w0 a li) (w : World) (hk : Below w0.heap.size w0 w) (h : Wr w0.heap.size b l bad w) (hl : l.length ≤ 90000000) :
    Calls Try.prog 56 #[.pointer (some ⟨b, 0, none⟩), valC ⟨k, n, t, li⟩ a cap] w fun e w' => PutsTo w0.heap.size b (valB ⟨k, n, t, li⟩) (rightB ⟨k, n, t, li⟩) 300 l bad w e w' := by
  obtain ⟨rfl, hll⟩ := hk0
  have HNS := Lib.hid ok.nums
  have HX := Lib.hid hx
  have HK := Lib.hid hk
  have hb1 := (Below.refl w.heap.size w).alloc (Nat.le_refl _) (.cells #[.int .i64 5, .int .i64 n, .string (S t), .slice a li.length cap] 25)
  have HR := Lib.hid (Right_any ⟨5, n, t, li⟩ ok.ok a cap _ ((hx.below hk).below hb1))
  have H0 := Lib.hid h
  have HB := Lib.hid (fun w1 k1 => begin_w (w1 := w1) (o := .cells #[.int .i64 5, .int .i64 n, .string (S t), .slice a li.length cap] 25) h k1)
  have HRT := Lib.hid (hr : rightB ⟨5, n, t, li⟩ = true)
  rw [HRT.out] at HR ⊢
  unfold valC at *
  simp only at HR ⊢
  clear h hx hk hb1 hr
  go_enter Try.func56, Try.ntmps56
  go_wp2_with fail
  refine HR.out.mono ?_
  rintro e w1 ⟨rfl, k1⟩
  obtain ⟨t1, x1, f1⟩ := HB.out w1 k1
  have p0 := cell_of_row w1 w.heap.size 0 _ _ (0, 0) x1
  have p1 := cell_of_row w1 w.heap.size 1 _ _ (0, 0) x1
  have p2 := cell_of_row w1 w.heap.size 2 _ _ (0, 0) x1
  have p3 := cell_of_row w1 w.heap.size 3 _ _ (0, 0) x1
  simp only [List.getElem?_toArray, List.getElem?_cons_zero, List.getElem?_cons_succ] at p0 p1 p2 p3
  have T1 := Lib.hid t1
  have X1 := Lib.hid x1
  have F1 := Lib.hid f1
  have HWB := Lib.hid (show ∀ W, Good w1 W → Calls Try.prog 90 #[.pointer (some ⟨b, 0, none⟩), .int .u8 (IntKind.u8.wrap 5)] W fun e w2 => e = .returned .nilIface ∧ WrTo w0.heap.size b (l ++ [5]) bad w1 w2 from fun W kk => by
    rw [show IntKind.u8.wrap (5 : Int) = (((5 : UInt8).toNat : Nat) : Int) by decide]
    refine (WriteByte_w w0.heap.size b l bad 5 W (T1.out.wr.below kk) (by omega)).mono ?_
    rintro e w2 ⟨rfl, t⟩
    exact ⟨rfl, (WrTo.of_below T1.out.wr kk).trans t⟩)
  have HG1 := Lib.hid (Good.refl w1)
  have HK1 := Lib.hid (show w1.drew.cell? ⟨w.heap.size, 0, none⟩ = some (.int .i64 5) from p0)
  have HKP := Lib.hid (fun w2 (t : WrTo w0.heap.size b (l ++ [5]) bad w1 w2) => show w2.cell? ⟨w.heap.size, 0, none⟩ = some (.int .i64 5) from cell_of_row w2 w.heap.size 0 _ _ (0, 0) (t.box X1.out F1.out).1)
  clear t1 x1 f1 k1
  go_wp2_with fail
  go_region_held3 (fun w7 => w7.cell? ⟨w.heap.size, 0, none⟩ = some (.int .i64 5)) (first | assumption | exact HK1.out | exact HK2.out)
    (first
      | (go_at_call 90; with_reducible refine (HWB.out _ (by first | exact good_id (by assumption) | exact good_drew (by assumption))).mono ?_; rintro e w2 ⟨rfl, t2⟩; have T2' := Lib.hid t2; have HK2 := Lib.hid (HKP.out _ t2); clear t2))
  obtain ⟨x2, f2⟩ := T2'.out.box X1.out F1.out
  have p0 := cell_of_row w2 w.heap.size 0 _ _ (0, 0) x2
  have p1 := cell_of_row w2 w.heap.size 1 _ _ (0, 0) x2
  have p2 := cell_of_row w2 w.heap.size 2 _ _ (0, 0) x2
  have p3 := cell_of_row w2 w.heap.size 3 _ _ (0, 0) x2
  simp only [List.getElem?_toArray, List.getElem?_cons_zero, List.getElem?_cons_succ] at p0 p1 p2 p3
  have T2 := Lib.hid (T1.out.trans T2'.out)
  have X2 := Lib.hid x2
  have F2 := Lib.hid f2
  clear x2 f2
  have hl2 : (l ++ [(5 : UInt8)]).length ≤ 90000001 := by simp; omega
  go_wp2_with fail
  refine (allN_w w0 b (l ++ [5]) bad li HNS.out a cap HX.out (by omega) w2 (HK.out.trans T2.out.below) T2.out.wr (by omega)).mono ?_
  rintro e w3 ⟨rfl, l3, b3, t3, q3⟩
  have T3 := Lib.hid (T2.out.trans t3)
  have Q3 := Lib.hid q3
  clear t3 q3
  go_wp2_with fail
  go_end0
  exact ⟨rfl, l3, b3, T3.out, ((Wrote.all [5] l bad 1 (by simp)).then Q3.out).conv (fun _ => by simp [valB, tailB, byteB]) (by simp [hll]) (by omega)⟩

set_option maxRecDepth 100000 in
set_option maxHeartbeats 2000000 in
theorem value_no (w0 : World) (b : Nat) (l : List UInt8) (bad : Bool) (k n : Int) (t : List UInt8) (li : List Int) (hr : rightB ⟨k, n, t, li⟩ = false) (ok : VIn64 ⟨k, n, t, li⟩) (a : Option Addr) (cap : Nat) (hx : NumsAt w0 a li) (w : World) (hk : Below w0.heap.size w0 w) (h : Wr w0.heap.size b l bad w) (hl : l.length ≤ 90000000) :
    Calls Try.prog 56 #[.pointer (some ⟨b, 0, none⟩), valC ⟨k, n, t, li⟩ a cap] w fun e w' => PutsTo w0.heap.size b (valB ⟨k, n, t, li⟩) (rightB ⟨k, n, t, li⟩) 300 l bad w e w' := by
  have hb1 := (Below.refl w.heap.size w).alloc (Nat.le_refl _) (.cells #[.int .i64 k, .int .i64 n, .string (S t), .slice a li.length cap] 25)
  have HR := Lib.hid (Right_any ⟨k, n, t, li⟩ ok.ok a cap _ ((hx.below hk).below hb1))
  have H0 := Lib.hid h
  have HB := Lib.hid (fun w1 k1 => begin_w (w1 := w1) (o := .cells #[.int .i64 k, .int .i64 n, .string (S t), .slice a li.length cap] 25) h k1)
  rw [hr] at HR ⊢
  unfold valC at *
  simp only at HR ⊢
  clear h hx hk hb1 hr
  go_enter Try.func56, Try.ntmps56
  go_wp2_with fail
  refine HR.out.mono ?_
  rintro e w1 ⟨rfl, k1⟩
  obtain ⟨t1, x1, f1⟩ := HB.out w1 k1
  have p0 := cell_of_row w1 w.heap.size 0 _ _ (0, 0) x1
  have p1 := cell_of_row w1 w.heap.size 1 _ _ (0, 0) x1
  have p2 := cell_of_row w1 w.heap.size 2 _ _ (0, 0) x1
  have p3 := cell_of_row w1 w.heap.size 3 _ _ (0, 0) x1
  simp only [List.getElem?_toArray, List.getElem?_cons_zero, List.getElem?_cons_succ] at p0 p1 p2 p3
  have c2 := t1.wr.mark
  have fz := t1.wr.frozen 2
  have T2 := Lib.hid (t1.trans (WrTo.set t1.wr true))
  clear t1 x1 f1 k1 p0 p1 p2 p3
  go_wp2_with fail
  go_end0
  exact ⟨rfl, _, _, T2.out, Wrote.no _ l bad 300⟩

theorem value_w (w0 : World) (b : Nat) (l : List UInt8) (bad : Bool) (v : V) (ok : VIn64 v) (a : Option Addr) (cap : Nat) (hx : NumsAt w0 a v.list) (w : World) (hk : Below w0.heap.size w0 w) (h : Wr w0.heap.size b l bad w) (hl : l.length ≤ 90000000) :
    Calls Try.prog 56 #[.pointer (some ⟨b, 0, none⟩), valC v a cap] w fun e w' => PutsTo w0.heap.size b (valB v) (rightB v) 300 l bad w e w' := by
  obtain ⟨k, n, t, li⟩ := v
  cases hr : rightB ⟨k, n, t, li⟩ with
  | false => rw [← hr]; exact value_no w0 b l bad k n t li hr ok a cap hx w hk h hl
  | true =>
    rw [← hr]
    rcases right_parts hr with h0 | h0 | ⟨h2, hn, h3, h4⟩ | h0 | h0 | h0
    · exact value_0 w0 b l bad k n t li h0 ok a cap hx w hk h hl
    · exact value_1 w0 b l bad k n t li h0 ok a cap hx w hk h hl
    · rcases hn with hn | hn
      · exact value_20 w0 b l bad k n t li ⟨h2, hn, h3, h4⟩ ok a cap hx w hk h hl
      · exact value_21 w0 b l bad k n t li ⟨h2, hn, h3, h4⟩ ok a cap hx w hk h hl
    · obtain ⟨rfl, _, rfl⟩ := id h0
      exact value_3 w0 b l bad 3 n t [] h0 hr ok a cap hx w hk h hl
    · obtain ⟨rfl, _, rfl⟩ := id h0
      exact value_4 w0 b l bad 4 n t [] h0 hr ok a cap hx w hk h hl
    · obtain ⟨rfl, _⟩ := id h0
      exact value_5 w0 b l bad 5 n t li h0 hr ok a cap hx w hk h hl

end Go.Proofs.Ytkdhchdhgmaolaa.Cd
