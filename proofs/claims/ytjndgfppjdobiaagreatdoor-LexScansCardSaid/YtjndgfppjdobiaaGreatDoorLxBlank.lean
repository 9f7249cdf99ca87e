/-
  The program's lexer: blanks.
-/
import Derived.Test.YtjndgfppjdobiaaGreatDoorLxName
import Derived.Test.YtjndgfppjdobiaaGreatDoorLxBlk
import Derived.Shelf.Strings.SlTrimAscii
import Derived.Lib.IndexMore
import Derived.Lib.SmallJoins
namespace Go.Proofs.YtjndgfppjdobiaaGreatDoor.Lx
open Go.RowKit
open Va

theorem index_aft : ∀ l : List UInt8, (if 0 ≤ Lib.index l [10] then l.drop ((Lib.index l [10]).toNat + 1) else []) = aft l
  | [] => by simp [Lib.index, aft]
  | c :: r => by
    have ih := index_aft r
    have hge := Lib.index_ge r [10]
    unfold Lib.index aft
    by_cases hc : c = 10
    · subst hc
      simp [List.isPrefixOf]
    · have h1 : ([10] : List UInt8).isPrefixOf (c :: r) = false := by
        simp [List.isPrefixOf]; exact fun e => hc e.symm
      rw [h1, if_neg hc]
      simp only [Bool.false_eq_true, if_false]
      by_cases h2 : Lib.index r [10] = -1
      · rw [h2] at ih ⊢
        simp at ih ⊢
        exact ih
      · have h3 : (Lib.index r [10] == -1) = false := by simpa using h2
        rw [h3]
        simp only [Bool.false_eq_true, if_false]
        rw [if_pos (by omega)] at ih
        rw [if_pos (by omega), ← ih, show (Lib.index r [10] + 1).toNat + 1 = ((Lib.index r [10]).toNat + 1) + 1 by omega]
        rfl
theorem cut_aft (l : List UInt8) : (Lib.cut l [10]).2.1 = aft l := by
  rw [← index_aft]
  unfold Lib.cut
  split <;> rfl
theorem trim_W (l : List UInt8) : Lib.trimLeftS l [9, 10, 13, 32] = trimW l := by
  unfold Lib.trimLeftS trimW
  congr 1
  funext c
  simp [whiteB, List.contains, List.elem]
  cases c == 9 <;> cases c == 10 <;> cases c == 13 <;> cases c == 32 <;> rfl
theorem pre_com (l : List UInt8) : Lib.hasPrefix l [47, 47] = comB l := rfl

/-- How long a text in a slot is. -/
def strLen : Value → Nat
  | .string s => s.size
  | _ => 0
/-- A variable of the library's that holds a number. -/
def IntVar (w : World) (g : Nat) : Prop := ∃ m : Int, w.cell? ⟨g, 0, none⟩ = some (.int .i64 m) ∧ g < w.heap.size
theorem IntVar.below {w w' : World} {g : Nat} (h : IntVar w g) (b : Below w.heap.size w w') : IntVar w' g := by
  obtain ⟨m, h1, h2⟩ := h
  exact ⟨m, (b.cell (p := ⟨g, 0, none⟩) h2).trans h1, Nat.lt_of_lt_of_le h2 b.size⟩

set_option linter.unusedSimpArgs false
set_option maxRecDepth 100000 in
set_option maxHeartbeats 1600000 in
theorem blank_any (s : ByteArray) (hs : s.size ≤ 100000) (w : World) (hm : IntVar w 1) :
    Calls Tryz.prog 8 #[.string s] w fun e w' => e = .returned (.int .i64 (blk false s.data.toList : Int)) ∧ Below w.heap.size w w' := by
  have hls := list_size s
  have HLS := Lib.hid hls
  have HM := Lib.hid hm
  have HG0 := Lib.hid (Good.refl w)
  have HTR := Lib.hid (fun (l : List UInt8) (wr : World) => show Calls Tryz.prog 12 #[.string (S l), .string ⟨#[9, 10, 13, 32]⟩] wr fun e w' => e = .returned (.string (S (trimW l))) ∧ Below wr.heap.size wr w' from by
    have := Any.strings_TrimLeft_laid Tryz.lays161 (by kernel_rfl) (S l) ⟨#[9, 10, 13, 32]⟩ wr (by decide) (ascii_of_all (by decide))
    rw [S_toList] at this
    refine this.mono ?_
    rintro e w' ⟨rfl, b⟩
    exact ⟨by rw [← trim_W]; rfl, b⟩)
  have HPF := Lib.hid (fun (l : List UInt8) (wr : World) => show Calls Tryz.prog 13 #[.string (S l), .string ⟨#[47, 47]⟩] wr fun e w' => e = .returned (.bool (comB l)) ∧ wr = w' from by
    refine (Tryz.strings_HasPrefix (S l) ⟨#[47, 47]⟩ wr).mono ?_
    rintro e w' ⟨rfl, rfl⟩
    rw [S_toList]
    exact ⟨rfl, rfl⟩)
  have HCU := Lib.hid (fun (l : List UInt8) (hl : l.length ≤ 100000) (wr : World) (h : IntVar wr 1) => show Calls Tryz.prog 14 #[.string (S l), .string ⟨#[10]⟩] wr fun e w' => (∃ a b, e = .returned (.tuple #[.string a, .string (S (aft l)), .bool b])) ∧ Below wr.heap.size wr w' from by
    obtain ⟨m, h1, _⟩ := h
    refine (Tryz.strings_Cut (S l) ⟨#[10]⟩ m wr (by rw [S_size]; omega) h1).mono ?_
    rintro e w' ⟨rfl, n, rfl⟩
    refine ⟨⟨⟨(Lib.cut l [10]).1.toArray⟩, (Lib.cut l [10]).2.2, ?_⟩, Go.Joins.below_draws _ _ _⟩
    rw [S_toList, show (⟨#[10]⟩ : ByteArray).data.toList = [10] from rfl, cut_aft]
    rfl)
  obtain ⟨l0, hl0⟩ : ∃ l0, l0 = s.data.toList := ⟨_, rfl⟩
  have hs0 : s = S l0 := by rw [hl0, S_list]
  have hlen0 : l0.length = s.size := by rw [hl0, hls]
  rw [← hl0] at HLS ⊢
  have HB0 := Lib.hid (show l0.length ≤ l0.length ∧ blk false l0 = (l0.length - l0.length) + blk false l0 from ⟨Nat.le_refl _, by omega⟩)
  subst hs0
  have hsz : (S l0).size = l0.length := S_size l0
  clear hls hl0 hm hlen0 HLS
  go_enter Tryz.func8, Tryz.ntmps8
  go_wp2_with fail
  go_loopw [3] (fun v wr => ∃ l : List UInt8, v = .string (S l) ∧ l.length ≤ l0.length ∧ Hid (blk false l0 = (l0.length - l.length) + blk false l) ∧ Good w wr) (fun v _ => strLen v)
  case atStart => exact ⟨l0, rfl, Nat.le_refl _, Lib.hid HB0.out.2, HG0.out⟩
  case round =>
    obtain ⟨l, rfl, hll, HE, hg⟩ := hrel
    have HG := Lib.hid hg
    have HL1 := Lib.hid (trimW_le l)
    clear hg
    cases hc : comB (trimW l) with
    | true =>
      have hr := blk_round l0 l hll HE.out hc
      have HR := Lib.hid hr
      have HP := Lib.hid (HPF.out (trimW l))
      rw [hc] at HP
      clear hr hc
      go_wp2_with fail
      refine (HTR.out _ _).mono ?_
      rintro e w1 ⟨rfl, b1⟩
      have HG1 := Lib.hid (HG.out.step b1)
      clear b1
      go_wp2_with fail
      refine (HP.out _).mono ?_
      rintro e w2 ⟨rfl, rfl⟩
      go_wp2_with fail
      refine (HCU.out _ (by have := HL1.out; have := hsz; have := hs; omega) _ (HM.out.below HG1.out)).mono ?_
      rintro e w3 ⟨⟨a3, c3, rfl⟩, b3⟩
      have HG3 := Lib.hid (HG1.out.step b3)
      clear b3
      go_wp2_with fail
      go_roundw
      case rel => exact ⟨aft (trimW l), rfl, HR.out.1, Lib.hid HR.out.2.1, HG3.out⟩
      case measure => have := HR.out.2.2; simp only [strLen, S_size]; exact this
    | false =>
      have hr := blk_done l0 l hll HE.out hc
      have HR := Lib.hid hr
      have HP := Lib.hid (HPF.out (trimW l))
      rw [hc] at HP
      have HT := Lib.hid (show ((l0.length : Int) - ((trimW l).length : Int)) = (blk false l0 : Int) by have := HL1.out; rw [hr]; omega)
      have hst : (S (trimW l)).size = (trimW l).length := S_size _
      have hti : ((trimW l).length : Int) ≤ (l0.length : Int) := by have := HL1.out; omega
      clear hr hc
      go_wp2_with fail
      refine (HTR.out _ _).mono ?_
      rintro e w1 ⟨rfl, b1⟩
      have HG1 := Lib.hid (HG.out.step b1)
      clear b1
      go_wp2_with fail
      refine (HP.out _).mono ?_
      rintro e w2 ⟨rfl, rfl⟩
      go_wp2_with fail
      go_ret
      exact ⟨ret_i HT.out, HG1.out⟩

end Go.Proofs.YtjndgfppjdobiaaGreatDoor.Lx
