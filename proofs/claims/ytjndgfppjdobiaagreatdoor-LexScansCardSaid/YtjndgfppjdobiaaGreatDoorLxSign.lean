/-
  The program's lexer: signs.
-/
import Derived.Test.YtjndgfppjdobiaaGreatDoorLxName
import Derived.Test.YtjndgfppjdobiaaGreatDoorLxBlank
import Derived.Deep.MidRow
namespace Go.Proofs.YtjndgfppjdobiaaGreatDoor.Lx
open Go.RowKit
open Va

def signsC : List Value := signs.map fun t => Value.string (S t)
/-- The program's own table. -/
def SignsAt (w : World) : Prop := w.rangeAt 0 0 signsC ∧ 0 < w.heap.size
theorem SignsAt.below {w w' : World} (h : SignsAt w) (b : Below w.heap.size w w') : SignsAt w' :=
  ⟨fun j v hv => (b.cell (p := ⟨0, 0 + j, none⟩) h.2).trans (h.1 j v hv), Nat.lt_of_lt_of_le h.2 b.size⟩
theorem signs_get (k : Nat) (hk : k < 27) : signsC[k]? = some (.string (S (signs.getD k []))) := by
  have h : k < signs.length := hk
  unfold signsC
  rw [List.getElem?_map, List.getElem?_eq_getElem h]
  simp [List.getD, List.getElem?_eq_getElem h]
theorem sign_idx (k : Nat) (hk : k < 27) (w : World) : (Instr.index 70 (.agg signsC.toArray) (.int .i64 (k : Int))).run Tryz.prog w = .ok (.string (S (signs.getD k []))) w := by
  have h1 : (0 : Int) ≤ (k : Int) ∧ (k : Int) < ((27 : Nat) : Int) := by omega
  have h2 := signs_get k hk
  simp [Instr.index, run_underlying Tryz.underlying70, asIntOf, h1, h2, go_sem]
  intro h
  omega
theorem find_at (p : List UInt8 → Bool) (k : Nat) (hk : k < 27) (h0 : ∀ j, j < k → p (signs.getD j []) = false) (h : p (signs.getD k []) = true) : signs.find? p = some (signs.getD k []) := by
  have : ∀ (l : List (List UInt8)) (k : Nat), k < l.length → (∀ j, j < k → p (l.getD j []) = false) → p (l.getD k []) = true → l.find? p = some (l.getD k []) := by
    intro l
    induction l with
    | nil => intro k hk; simp at hk
    | cons a r ih =>
      intro k hk h0 h
      cases k with
      | zero => rw [List.find?_cons, show p a = true from h]; rfl
      | succ k =>
        rw [List.find?_cons, show p a = false from h0 0 (by omega)]
        exact ih k (by simpa using hk) (fun j hj => h0 (j + 1) (by omega)) h
  exact this signs k hk h0 h
theorem find_no (p : List UInt8 → Bool) (h0 : ∀ j, j < 27 → p (signs.getD j []) = false) : signs.find? p = none := by
  rw [List.find?_eq_none]
  intro x hx
  obtain ⟨j, hj, rfl⟩ := List.getElem_of_mem hx
  have := h0 j hj
  simp [List.getD, hj] at this
  simp [this]
def signM (l : List UInt8) : Option Tok := match signs.find? (fun s => s.isPrefixOf l) with
  | none => none
  | some s => some ⟨5, s, 0, s.length⟩
theorem sign_len (k : Nat) (hk : k < 27) : (signs.getD k []).length ≤ 2 := by
  have : ∀ i : Fin 27, (signs.getD i.val []).length ≤ 2 := by decide
  exact this ⟨k, hk⟩

set_option linter.unusedSimpArgs false
set_option maxRecDepth 100000 in
set_option maxHeartbeats 3200000 in
theorem sign_any (s : ByteArray) (w : World) (hsg : SignsAt w) :
    Calls Tryz.prog 21 #[.string s] w fun e w' => e = .returned (ansV (signM s.data.toList)) ∧ Below w.heap.size w w' := by
  have hb0 := (Below.refl w.heap.size w).alloc (Nat.le_refl _) (.cells #[.int .i64 0, .string ⟨#[]⟩, .int .i64 0, .int .i64 0] 32)
  have HLD := Lib.hid (hsg.below hb0).1
  have HSZ := Lib.hid (show (Tryz.prog.info? 70).map (·.size) = some signsC.length by kernel_rfl)
  have HG0 := Lib.hid (Good.refl (w.alloc (tokO 0 [] 0 0)))
  have HBOX := Lib.hid (box_here w 0 [] 0 0)
  have HFIN := Lib.hid (fun (wr : World) (h : Good (w.alloc (tokO 0 [] 0 0)) wr) => hb0.trans (h.mono (by simp)))
  have HPF := Lib.hid (fun (p : List UInt8) (wr : World) => show Calls Tryz.prog 13 #[.string s, .string (S p)] wr fun e w' => e = .returned (.bool (p.isPrefixOf s.data.toList)) ∧ wr = w' from by
    refine (Tryz.strings_HasPrefix s (S p) wr).mono ?_
    rintro e w' ⟨rfl, rfl⟩
    rw [S_toList]
    exact ⟨rfl, rfl⟩)
  have HIDX := Lib.hid sign_idx
  have HCL := Lib.hid (fun (p : List UInt8) (hp : p.length ≤ 2) => clone_any (S p) (by rw [S_size]; omega))
  have HFA := Lib.hid (fun k (hk : k < 27) h0 h => find_at (fun p => p.isPrefixOf s.data.toList) k hk h0 h)
  have HFN := Lib.hid (find_no (fun p => p.isPrefixOf s.data.toList))
  have HM := Lib.hid (show signM s.data.toList = match signs.find? (fun p => p.isPrefixOf s.data.toList) with | none => none | some s => some ⟨5, s, 0, s.length⟩ from rfl)
  clear hb0 hsg
  go_enter Tryz.func21, Tryz.ntmps21
  go_wp2_with (refine wpList_load_mid rfl 70 _ rfl 0 0 rfl signsC _ HLD.out Tryz.underlying70 rfl HSZ.out ?_)
  go_loopw [7] (fun i wr => ∃ k : Nat, k ≤ 27 ∧ i = .int .i64 k ∧ Hid (∀ j, j < k → (signs.getD j []).isPrefixOf s.data.toList = false) ∧ Good (w.alloc (tokO 0 [] 0 0)) wr) (fun i _ => 27 - (intOf i).toNat)
  case atStart => exact ⟨0, by omega, rfl, Lib.hid (fun j hj => absurd hj (by omega)), HG0.out⟩
  case round =>
    obtain ⟨k, hk, rfl, HN, hg⟩ := hrel
    have HG := Lib.hid hg
    clear hg
    by_cases hlt : k < 27
    · have hki : (k : Int) < 27 := by omega
      have hidx := HIDX.out k hlt
      have hsl := sign_len k hlt
      have HHIT := Lib.hid (HFA.out k hlt HN.out)
      have HP := Lib.hid (HPF.out (signs.getD k []))
      have HC := Lib.hid (HCL.out (signs.getD k []) hsl)
      have HST := Lib.hid (fun (e : (signs.getD k []).isPrefixOf s.data.toList = false) => show Hid (∀ j, j < k + 1 → (signs.getD j []).isPrefixOf s.data.toList = false) from Lib.hid (fun j hj => by
        by_cases ej : j = k
        · subst ej; exact e
        · exact HN.out j (by omega)))
      generalize signs.getD k [] = t at *
      have htz : (S t).size = t.length := S_size t
      cases hp : t.isPrefixOf s.data.toList with
      | true =>
        rw [hp] at HP
        have HR := Lib.hid (show signM s.data.toList = some ⟨5, t, 0, t.length⟩ by rw [HM.out, HHIT.out hp])
        clear hp
        go_wp2_with fail
        refine (HP.out _).mono ?_
        rintro e w2 ⟨rfl, rfl⟩
        go_wp2_with fail
        refine (HC.out _).mono ?_
        rintro e w3 ⟨rfl, b3⟩
        have HGG := Lib.hid (HG.out.step b3)
        obtain ⟨⟨c0, c1, c2, c3⟩, f0, f1, f2, f3⟩ := HBOX.out _ HGG.out
        clear b3
        go_wp2_with fail
        rw [HR.out]
        obtain ⟨d0, d1, d2, d3⟩ := put4 c0 c1 c2 c3 (.int .i64 5) (.string (S t)) (.int .i64 0) (.int .i64 0)
        exact bodyPost_ret (v := ansV (some ⟨5, t, 0, t.length⟩)) (by simp [results, d0, d1, d2, d3, Tryz.results21, go_sem, ansV, tokC]) rfl ⟨rfl, (((((HFIN.out _ HGG.out).setCell (p := ⟨w.heap.size, 0, none⟩) (Nat.le_refl _) _).setCell (p := ⟨w.heap.size, 1, none⟩) (Nat.le_refl _) _).setCell (p := ⟨w.heap.size, 2, none⟩) (Nat.le_refl _) _).setCell (p := ⟨w.heap.size, 3, none⟩) (Nat.le_refl _) _)⟩
      | false =>
        rw [hp] at HP
        have HN2 := HST.out hp
        clear hp
        go_wp2_with fail
        refine (HP.out _).mono ?_
        rintro e w2 ⟨rfl, rfl⟩
        go_wp2_with fail
        go_roundw
        case rel => exact ⟨k + 1, by omega, by go_num, HN2, HG.out⟩
        case measure => simp [intOf]; omega
    · obtain rfl : k = 27 := by omega
      have HR := Lib.hid (show signM s.data.toList = none by rw [HM.out, HFN.out HN.out])
      have HGG := HG
      obtain ⟨⟨c0, c1, c2, c3⟩, f0, f1, f2, f3⟩ := HBOX.out _ HGG.out
      go_wp2_with fail
      rw [HR.out]
      obtain ⟨d0, d1, d2, d3⟩ := put4 c0 c1 c2 c3 (.int .i64 0) (.string ⟨#[]⟩) (.int .i64 0) (.int .i64 0)
      exact bodyPost_ret (v := ansV none) (by simp [results, d0, d1, d2, d3, S, Tryz.results21, go_sem, ansV, tokC]) rfl ⟨rfl, (((((HFIN.out _ HGG.out).setCell (p := ⟨w.heap.size, 0, none⟩) (Nat.le_refl _) _).setCell (p := ⟨w.heap.size, 1, none⟩) (Nat.le_refl _) _).setCell (p := ⟨w.heap.size, 2, none⟩) (Nat.le_refl _) _).setCell (p := ⟨w.heap.size, 3, none⟩) (Nat.le_refl _) _)⟩

end Go.Proofs.YtjndgfppjdobiaaGreatDoor.Lx
