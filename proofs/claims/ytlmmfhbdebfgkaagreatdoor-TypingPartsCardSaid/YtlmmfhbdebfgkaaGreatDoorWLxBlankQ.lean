/-
  LxBlank, LxSign, LxFirst.
-/
import Derived.Test.YtlmmfhbdebfgkaaGreatDoorWLxGoodQ
import Derived.Test.YtlmmfhbdebfgkaaGreatDoorWLxBlkQ
import Derived.Test.YtlmmfhbdebfgkaaGreatDoorWLxUnquoQ
import Derived.Shelf.Strings.SlTrimAscii
import Derived.Lib.IndexMore
import Derived.Lib.SmallJoins
import Derived.Deep.MidRow
set_option linter.unusedVariables false
set_option linter.unusedSimpArgs false
set_option maxRecDepth 100000
set_option maxHeartbeats 6400000
namespace Go.Proofs.YtlmmfhbdebfgkaaGreatDoor.Lx
open Go.RowKit
open Va
theorem index_aft : ∀ l : List UInt8, (if 0 ≤ Lib.index l [10] then l.drop ((Lib.index l [10]).toNat + 1) else []) = aft l
  | [] => by simp [Lib.index, aft]
  | c :: r => by
    have ih := index_aft r
    have hge := Lib.index_ge r [10]
    unfold Lib.index aft
    by_cases hc : c = 10
    · subst hc
      simp [List.isPrefixOf]
    · have h1 : ([10] : List UInt8).isPrefixOf (c :: r) = false := by
        simp [List.isPrefixOf]; exact fun e => hc e.symm
      rw [h1, if_neg hc]
      simp only [Bool.false_eq_true, if_false]
      by_cases h2 : Lib.index r [10] = -1
      · rw [h2] at ih ⊢
        simp at ih ⊢
        exact ih
      · have h3 : (Lib.index r [10] == -1) = false := by simpa using h2
        rw [h3]
        simp only [Bool.false_eq_true, if_false]
        rw [if_pos (by omega)] at ih
        rw [if_pos (by omega), ← ih, show (Lib.index r [10] + 1).toNat + 1 = ((Lib.index r [10]).toNat + 1) + 1 by omega]
        rfl
theorem cut_aft (l : List UInt8) : (Lib.cut l [10]).2.1 = aft l := by
  rw [← index_aft]
  unfold Lib.cut
  split <;> rfl
theorem trim_W (l : List UInt8) : Lib.trimLeftS l [9, 10, 13, 32] = trimW l := by
  unfold Lib.trimLeftS trimW
  congr 1
  funext c
  simp [whiteB, List.contains, List.elem]
  cases c == 9 <;> cases c == 10 <;> cases c == 13 <;> cases c == 32 <;> rfl
def strLen : Value → Nat
  | .string s => s.size
  | _ => 0
def IntVar (w : World) (g : Nat) : Prop := ∃ m : Int, w.cell? ⟨g, 0, none⟩ = some (.int .i64 m) ∧ g < w.heap.size
theorem IntVar.below {w w' : World} {g : Nat} (h : IntVar w g) (b : Below w.heap.size w w') : IntVar w' g := by
  obtain ⟨m, h1, h2⟩ := h
  exact ⟨m, (b.cell (p := ⟨g, 0, none⟩) h2).trans h1, Nat.lt_of_lt_of_le h2 b.size⟩
theorem blank_any (s : ByteArray) (hs : s.size ≤ 100000) (w : World) (hm : IntVar w 2) :
    Calls Tryz.prog 43 #[.string s] w fun e w' => e = .returned (.int .i64 (blk false s.data.toList : Int)) ∧ Below w.heap.size w w' := by
  have hls := list_size s
  have HLS := Lib.hid hls
  have HM := Lib.hid hm
  have HG0 := Lib.hid (Good.refl w)
  have HTR := Lib.hid (fun (l : List UInt8) (wr : World) => show Calls Tryz.prog 68 #[.string (S l), .string ⟨#[9, 10, 13, 32]⟩] wr fun e w' => e = .returned (.string (S (trimW l))) ∧ Below wr.heap.size wr w' from by
    have := Any.strings_TrimLeft_laid Tryz.lays161 (by kernel_rfl) (S l) ⟨#[9, 10, 13, 32]⟩ wr (by decide) (ascii_of_all (by decide))
    rw [S_toList] at this
    refine this.mono ?_
    rintro e w' ⟨rfl, b⟩
    exact ⟨by rw [← trim_W]; rfl, b⟩)
  have HPF := Lib.hid (fun (l : List UInt8) (wr : World) => show Calls Tryz.prog 69 #[.string (S l), .string ⟨#[47, 47]⟩] wr fun e w' => e = .returned (.bool (comB l)) ∧ wr = w' from by
    refine (Tryz.strings_HasPrefix (S l) ⟨#[47, 47]⟩ wr).mono ?_
    rintro e w' ⟨rfl, rfl⟩
    rw [S_toList]
    exact ⟨rfl, rfl⟩)
  have HCU := Lib.hid (fun (l : List UInt8) (hl : l.length ≤ 100000) (wr : World) (h : IntVar wr 2) => show Calls Tryz.prog 70 #[.string (S l), .string ⟨#[10]⟩] wr fun e w' => (∃ a b, e = .returned (.tuple #[.string a, .string (S (aft l)), .bool b])) ∧ Below wr.heap.size wr w' from by
    obtain ⟨m, h1, _⟩ := h
    refine (Tryz.strings_Cut (S l) ⟨#[10]⟩ m wr (by rw [S_size]; omega) h1).mono ?_
    rintro e w' ⟨rfl, n, rfl⟩
    refine ⟨⟨⟨(Lib.cut l [10]).1.toArray⟩, (Lib.cut l [10]).2.2, ?_⟩, Go.Joins.below_draws _ _ _⟩
    rw [S_toList, show (⟨#[10]⟩ : ByteArray).data.toList = [10] from rfl, cut_aft]
    rfl)
  obtain ⟨l0, hl0⟩ : ∃ l0, l0 = s.data.toList := ⟨_, rfl⟩
  have hs0 : s = S l0 := by rw [hl0, S_list]
  have hlen0 : l0.length = s.size := by rw [hl0, hls]
  rw [← hl0] at HLS ⊢
  have HB0 := Lib.hid (show l0.length ≤ l0.length ∧ blk false l0 = (l0.length - l0.length) + blk false l0 from ⟨Nat.le_refl _, by omega⟩)
  subst hs0
  have hsz : (S l0).size = l0.length := S_size l0
  clear hls hl0 hm hlen0 HLS
  go_enter Tryz.func43, Tryz.ntmps43
  go_wp2_with fail
  go_loopw [3] (fun v wr => ∃ l : List UInt8, v = .string (S l) ∧ l.length ≤ l0.length ∧ Hid (blk false l0 = (l0.length - l.length) + blk false l) ∧ Good w wr) (fun v _ => strLen v)
  case atStart => exact ⟨l0, rfl, Nat.le_refl _, Lib.hid HB0.out.2, HG0.out⟩
  case round =>
    obtain ⟨l, rfl, hll, HE, hg⟩ := hrel
    have HG := Lib.hid hg
    have HL1 := Lib.hid (trimW_le l)
    clear hg
    cases hc : comB (trimW l) with
    | true =>
      have hr := blk_round l0 l hll HE.out hc
      have HR := Lib.hid hr
      have HP := Lib.hid (HPF.out (trimW l))
      rw [hc] at HP
      clear hr hc
      go_wp2_with fail
      refine (HTR.out _ _).mono ?_
      rintro e w1 ⟨rfl, b1⟩
      have HG1 := Lib.hid (HG.out.step b1)
      clear b1
      go_wp2_with fail
      refine (HP.out _).mono ?_
      rintro e w2 ⟨rfl, rfl⟩
      go_wp2_with fail
      refine (HCU.out _ (by have := HL1.out; have := hsz; have := hs; omega) _ (HM.out.below HG1.out)).mono ?_
      rintro e w3 ⟨⟨a3, c3, rfl⟩, b3⟩
      have HG3 := Lib.hid (HG1.out.step b3)
      clear b3
      go_wp2_with fail
      go_roundw
      case rel => exact ⟨aft (trimW l), rfl, HR.out.1, Lib.hid HR.out.2.1, HG3.out⟩
      case measure => have := HR.out.2.2; simp only [strLen, S_size]; exact this
    | false =>
      have hr := blk_done l0 l hll HE.out hc
      have HR := Lib.hid hr
      have HP := Lib.hid (HPF.out (trimW l))
      rw [hc] at HP
      have HT := Lib.hid (show ((l0.length : Int) - ((trimW l).length : Int)) = (blk false l0 : Int) by have := HL1.out; rw [hr]; omega)
      have hst : (S (trimW l)).size = (trimW l).length := S_size _
      have hti : ((trimW l).length : Int) ≤ (l0.length : Int) := by have := HL1.out; omega
      clear hr hc
      go_wp2_with fail
      refine (HTR.out _ _).mono ?_
      rintro e w1 ⟨rfl, b1⟩
      have HG1 := Lib.hid (HG.out.step b1)
      clear b1
      go_wp2_with fail
      refine (HP.out _).mono ?_
      rintro e w2 ⟨rfl, rfl⟩
      go_wp2_with fail
      go_ret
      exact ⟨ret_i HT.out, HG1.out⟩
end Go.Proofs.YtlmmfhbdebfgkaaGreatDoor.Lx
namespace Go.Proofs.YtlmmfhbdebfgkaaGreatDoor.Lx
open Go.RowKit
open Va
def signsC : List Value := signs.map fun t => Value.string (S t)
def SignsAt (w : World) : Prop := w.rangeAt 1 0 signsC ∧ 1 < w.heap.size
theorem SignsAt.below {w w' : World} (h : SignsAt w) (b : Below w.heap.size w w') : SignsAt w' :=
  ⟨fun j v hv => (b.cell (p := ⟨1, 0 + j, none⟩) h.2).trans (h.1 j v hv), Nat.lt_of_lt_of_le h.2 b.size⟩
theorem signs_get (k : Nat) (hk : k < 27) : signsC[k]? = some (.string (S (signs.getD k []))) := by
  have h : k < signs.length := hk
  unfold signsC
  rw [List.getElem?_map, List.getElem?_eq_getElem h]
  simp [List.getD, List.getElem?_eq_getElem h]
theorem sign_idx (k : Nat) (hk : k < 27) (w : World) : (Instr.index 186 (.agg signsC.toArray) (.int .i64 (k : Int))).run Tryz.prog w = .ok (.string (S (signs.getD k []))) w := by
  have h1 : (0 : Int) ≤ (k : Int) ∧ (k : Int) < ((27 : Nat) : Int) := by omega
  have h2 := signs_get k hk
  simp [Instr.index, run_underlying Tryz.underlying186, asIntOf, h1, h2, go_sem]
  intro h
  omega
theorem find_at (p : List UInt8 → Bool) (k : Nat) (hk : k < 27) (h0 : ∀ j, j < k → p (signs.getD j []) = false) (h : p (signs.getD k []) = true) : signs.find? p = some (signs.getD k []) := by
  have : ∀ (l : List (List UInt8)) (k : Nat), k < l.length → (∀ j, j < k → p (l.getD j []) = false) → p (l.getD k []) = true → l.find? p = some (l.getD k []) := by
    intro l
    induction l with
    | nil => intro k hk; simp at hk
    | cons a r ih =>
      intro k hk h0 h
      cases k with
      | zero => rw [List.find?_cons, show p a = true from h]; rfl
      | succ k =>
        rw [List.find?_cons, show p a = false from h0 0 (by omega)]
        exact ih k (by simpa using hk) (fun j hj => h0 (j + 1) (by omega)) h
  exact this signs k hk h0 h
theorem find_no (p : List UInt8 → Bool) (h0 : ∀ j, j < 27 → p (signs.getD j []) = false) : signs.find? p = none := by
  rw [List.find?_eq_none]
  intro x hx
  obtain ⟨j, hj, rfl⟩ := List.getElem_of_mem hx
  have := h0 j hj
  simp [List.getD, hj] at this
  simp [this]
def signM (l : List UInt8) : Option Tok := match signs.find? (fun s => s.isPrefixOf l) with
  | none => none
  | some s => some ⟨5, s, 0, s.length⟩
theorem sign_len (k : Nat) (hk : k < 27) : (signs.getD k []).length ≤ 2 := by
  have : ∀ i : Fin 27, (signs.getD i.val []).length ≤ 2 := by decide
  exact this ⟨k, hk⟩
theorem sign_any (s : ByteArray) (w : World) (hsg : SignsAt w) :
    Calls Tryz.prog 77 #[.string s] w fun e w' => e = .returned (ansV (signM s.data.toList)) ∧ Below w.heap.size w w' := by
  have hb0 := (Below.refl w.heap.size w).alloc (Nat.le_refl _) (.cells #[.int .i64 0, .string ⟨#[]⟩, .int .i64 0, .int .i64 0] 79)
  have HLD := Lib.hid (hsg.below hb0).1
  have HSZ := Lib.hid (show (Tryz.prog.info? 186).map (·.size) = some signsC.length by kernel_rfl)
  have HG0 := Lib.hid (Good.refl (w.alloc (tokO 0 [] 0 0)))
  have HBOX := Lib.hid (box_here w 0 [] 0 0)
  have HFIN := Lib.hid (fun (wr : World) (h : Good (w.alloc (tokO 0 [] 0 0)) wr) => hb0.trans (h.mono (by simp)))
  have HPF := Lib.hid (fun (p : List UInt8) (wr : World) => show Calls Tryz.prog 69 #[.string s, .string (S p)] wr fun e w' => e = .returned (.bool (p.isPrefixOf s.data.toList)) ∧ wr = w' from by
    refine (Tryz.strings_HasPrefix s (S p) wr).mono ?_
    rintro e w' ⟨rfl, rfl⟩
    rw [S_toList]
    exact ⟨rfl, rfl⟩)
  have HIDX := Lib.hid sign_idx
  have HCL := Lib.hid (fun (p : List UInt8) (hp : p.length ≤ 2) => clone_any (S p) (by rw [S_size]; omega))
  have HFA := Lib.hid (fun k (hk : k < 27) h0 h => find_at (fun p => p.isPrefixOf s.data.toList) k hk h0 h)
  have HFN := Lib.hid (find_no (fun p => p.isPrefixOf s.data.toList))
  have HM := Lib.hid (show signM s.data.toList = match signs.find? (fun p => p.isPrefixOf s.data.toList) with | none => none | some s => some ⟨5, s, 0, s.length⟩ from rfl)
  clear hb0 hsg
  go_enter Tryz.func77, Tryz.ntmps77
  go_wp2_with (refine wpList_load_mid rfl 186 _ rfl 1 0 rfl signsC _ HLD.out Tryz.underlying186 rfl HSZ.out ?_)
  go_loopw [7] (fun i wr => ∃ k : Nat, k ≤ 27 ∧ i = .int .i64 k ∧ Hid (∀ j, j < k → (signs.getD j []).isPrefixOf s.data.toList = false) ∧ Good (w.alloc (tokO 0 [] 0 0)) wr) (fun i _ => 27 - (intOf i).toNat)
  case atStart => exact ⟨0, by omega, rfl, Lib.hid (fun j hj => absurd hj (by omega)), HG0.out⟩
  case round =>
    obtain ⟨k, hk, rfl, HN, hg⟩ := hrel
    have HG := Lib.hid hg
    clear hg
    by_cases hlt : k < 27
    · have hki : (k : Int) < 27 := by omega
      have hidx := HIDX.out k hlt
      have hsl := sign_len k hlt
      have HHIT := Lib.hid (HFA.out k hlt HN.out)
      have HP := Lib.hid (HPF.out (signs.getD k []))
      have HC := Lib.hid (HCL.out (signs.getD k []) hsl)
      have HST := Lib.hid (fun (e : (signs.getD k []).isPrefixOf s.data.toList = false) => show Hid (∀ j, j < k + 1 → (signs.getD j []).isPrefixOf s.data.toList = false) from Lib.hid (fun j hj => by
        by_cases ej : j = k
        · subst ej; exact e
        · exact HN.out j (by omega)))
      generalize signs.getD k [] = t at *
      have htz : (S t).size = t.length := S_size t
      cases hp : t.isPrefixOf s.data.toList with
      | true =>
        rw [hp] at HP
        have HR := Lib.hid (show signM s.data.toList = some ⟨5, t, 0, t.length⟩ by rw [HM.out, HHIT.out hp])
        clear hp
        go_wp2_with fail
        refine (HP.out _).mono ?_
        rintro e w2 ⟨rfl, rfl⟩
        go_wp2_with fail
        refine (HC.out _).mono ?_
        rintro e w3 ⟨rfl, b3⟩
        have HGG := Lib.hid (HG.out.step b3)
        obtain ⟨⟨c0, c1, c2, c3⟩, f0, f1, f2, f3⟩ := HBOX.out _ HGG.out
        clear b3
        go_wp2_with fail
        rw [HR.out]
        obtain ⟨d0, d1, d2, d3⟩ := put4 c0 c1 c2 c3 (.int .i64 5) (.string (S t)) (.int .i64 0) (.int .i64 0)
        exact bodyPost_ret (v := ansV (some ⟨5, t, 0, t.length⟩)) (by simp [results, d0, d1, d2, d3, Tryz.results77, go_sem, ansV, tokC]) rfl ⟨rfl, (((((HFIN.out _ HGG.out).setCell (p := ⟨w.heap.size, 0, none⟩) (Nat.le_refl _) _).setCell (p := ⟨w.heap.size, 1, none⟩) (Nat.le_refl _) _).setCell (p := ⟨w.heap.size, 2, none⟩) (Nat.le_refl _) _).setCell (p := ⟨w.heap.size, 3, none⟩) (Nat.le_refl _) _)⟩
      | false =>
        rw [hp] at HP
        have HN2 := HST.out hp
        clear hp
        go_wp2_with fail
        refine (HP.out _).mono ?_
        rintro e w2 ⟨rfl, rfl⟩
        go_wp2_with fail
        go_roundw
        case rel => exact ⟨k + 1, by omega, by go_num, HN2, HG.out⟩
        case measure => simp [intOf]; omega
    · obtain rfl : k = 27 := by omega
      have HR := Lib.hid (show signM s.data.toList = none by rw [HM.out, HFN.out HN.out])
      have HGG := HG
      obtain ⟨⟨c0, c1, c2, c3⟩, f0, f1, f2, f3⟩ := HBOX.out _ HGG.out
      go_wp2_with fail
      rw [HR.out]
      obtain ⟨d0, d1, d2, d3⟩ := put4 c0 c1 c2 c3 (.int .i64 0) (.string ⟨#[]⟩) (.int .i64 0) (.int .i64 0)
      exact bodyPost_ret (v := ansV none) (by simp [results, d0, d1, d2, d3, S, Tryz.results77, go_sem, ansV, tokC]) rfl ⟨rfl, (((((HFIN.out _ HGG.out).setCell (p := ⟨w.heap.size, 0, none⟩) (Nat.le_refl _) _).setCell (p := ⟨w.heap.size, 1, none⟩) (Nat.le_refl _) _).setCell (p := ⟨w.heap.size, 2, none⟩) (Nat.le_refl _) _).setCell (p := ⟨w.heap.size, 3, none⟩) (Nat.le_refl _) _)⟩
end Go.Proofs.YtlmmfhbdebfgkaaGreatDoor.Lx
namespace Go.Proofs.YtlmmfhbdebfgkaaGreatDoor.Lx
open Go.RowKit
open Va
theorem tok_sym (r : List UInt8) : tokM (39 :: r) = symM r := by
  rw [tokM_cons, if_pos rfl]
  unfold symM nameM
  by_cases h : nameB (r.takeWhile wordB) = true
  · simp only [h, if_true]
  · simp only [if_neg h]
theorem tok_name (c : UInt8) (r : List UInt8) (h : letB c = true) : tokM (c :: r) = nameM (c :: r) := by
  have h39 : c ≠ 39 := by intro e; subst e; exact absurd h (by decide)
  rw [tokM_cons, if_neg h39, if_pos h]
  rfl
theorem tok_dig (c : UInt8) (r : List UInt8) (hl : letB c = false) (h : digB c = true) : tokM (c :: r) = digM (c :: r) := by
  have h39 : c ≠ 39 := by intro e; subst e; exact absurd h (by decide)
  rw [tokM_cons, if_neg h39, if_neg (by rw [hl]; decide), if_pos h]
  rfl
theorem tok_quo (r : List UInt8) : tokM (34 :: r) = quoM (34 :: r) := by
  rw [tokM_cons, if_neg (by decide), if_neg (by decide), if_neg (by decide), if_pos rfl]
  rfl
theorem tok_sign (c : UInt8) (r : List UInt8) (h39 : c ≠ 39) (hl : letB c = false) (hd : digB c = false) (h34 : c ≠ 34) : tokM (c :: r) = signM (c :: r) := by
  rw [tokM_cons, if_neg h39, if_neg (by rw [hl]; decide), if_neg (by rw [hd]; decide), if_neg h34]
  rfl
structure Laid (w : World) : Prop where
  rng : ErrAt w 7
  syn : ErrAt w 6
  tab : Tab w
  signs : SignsAt w
  max : IntVar w 2
theorem Laid.below {w w' : World} (h : Laid w) (b : Below w.heap.size w w') : Laid w' :=
  ⟨h.rng.below b, h.syn.below b, h.tab.below b, h.signs.below b, h.max.below b⟩
theorem rune_let0 (c : UInt8) : letR (c.toNat : Int) = letB c ∧ digR (c.toNat : Int) = digB c := by
  have : ∀ i : Fin 256, letR (i.val : Int) = letB (UInt8.ofNat i.val) ∧ digR (i.val : Int) = digB (UInt8.ofNat i.val) := by decide +kernel
  have h := this ⟨c.toNat, c.toNat_lt⟩
  simpa using h
theorem ans_shape (x : Option Tok) : ∃ (k : Int) (t : List UInt8) (n : Int) (z : Nat), ansV x = .tuple #[.agg #[.int .i64 k, .string (S t), .int .i64 n, .int .i64 0], .int .i64 (z : Int)] := by
  cases x with
  | none => exact ⟨0, [], 0, 0, rfl⟩
  | some x => exact ⟨x.kind, x.text, x.num, x.len, rfl⟩
theorem first_any (s : ByteArray) (hs : s.size ≤ 100000) (hs1 : 1 ≤ s.size) (w : World) (hL : Laid w) :
    Calls Tryz.prog 44 #[.string s] w fun e w' => e = .returned (ansV (tokM s.data.toList)) ∧ Below w.heap.size w w' := by
  have hls := list_size s
  have hb0 := (Below.refl w.heap.size w).alloc (Nat.le_refl _) (tokO 0 [] 0 0)
  have HG0 := Lib.hid (Good.refl (w.alloc (tokO 0 [] 0 0)))
  have HBOX := Lib.hid (box_here w 0 [] 0 0)
  have HFIN := Lib.hid (fun (wr : World) (h : Good (w.alloc (tokO 0 [] 0 0)) wr) => hb0.trans (h.mono (by simp)))
  have HLD := Lib.hid (fun (wr : World) (h : Good (w.alloc (tokO 0 [] 0 0)) wr) => (hL.below hb0).below h)
  obtain ⟨l, hl⟩ : ∃ l, s.data.toList = l := ⟨_, rfl⟩
  rw [hl] at hls ⊢
  have hsi : (1 : Int) ≤ (s.size : Int) := by omega
  match l, hl, hls with
  | [], _, hls => simp at hls; omega
  | c :: r, hl, hls =>
    have h0 : s[0]'hs1 = c := S_get s _ hl 0 hs1 c rfl
    have hc256 := byte_lt c
    obtain ⟨hrl, hrd⟩ := rune_let0 c
    have HLE := Lib.hid (lxLetter_any (c.toNat : Int))
    have HDI := Lib.hid (lxDigit_any (c.toNat : Int))
    rw [hrl] at HLE
    rw [hrd] at HDI
    clear hrl hrd hL hb0
    cases hlb : letB c with
    | true =>
      rw [hlb] at HLE
      have HT := Lib.hid (tok_name c r hlb)
      have HC := Lib.hid (fun wr => name_any s hs wr)
      rw [hl, ← HT.out] at HC
      clear hl hls hlb
      obtain ⟨k, t, n, z, hz⟩ := ans_shape (tokM (c :: r))
      have HZ := Lib.hid hz
      rw [hz] at HC
      clear hz HT
      go_enter Tryz.func44, Tryz.ntmps44
      go_wp2_with fail
      refine (HLE.out _).mono ?_
      rintro e w1 ⟨rfl, rfl⟩
      go_wp2_with fail
      refine (HC.out _).mono ?_
      rintro e w2 ⟨rfl, b2⟩
      have HGE := Lib.hid (HG0.out.step b2)
      clear b2
      obtain ⟨⟨c0, c1, c2, c3⟩, f0, f1, f2, f3⟩ := HBOX.out _ HGE.out
      go_wp2_with fail
      rw [HZ.out]
      obtain ⟨d0, d1, d2, d3⟩ := put4 c0 c1 c2 c3 (.int .i64 k) (.string (S t)) (.int .i64 n) (.int .i64 0)
      exact bodyPost_ret (v := .tuple #[.agg #[.int .i64 k, .string (S t), .int .i64 n, .int .i64 0], .int .i64 (z : Int)]) (by simp [results, d0, d1, d2, d3, Tryz.results44, go_sem]) rfl ⟨rfl, (((((HFIN.out _ HGE.out).setCell (p := ⟨w.heap.size, 0, none⟩) (Nat.le_refl _) _).setCell (p := ⟨w.heap.size, 1, none⟩) (Nat.le_refl _) _).setCell (p := ⟨w.heap.size, 2, none⟩) (Nat.le_refl _) _).setCell (p := ⟨w.heap.size, 3, none⟩) (Nat.le_refl _) _)⟩
    | false =>
      rw [hlb] at HLE
      cases hdb : digB c with
      | true =>
        rw [hdb] at HDI
        have HT := Lib.hid (tok_dig c r hlb hdb)
        have HC := Lib.hid (fun (wr : World) (h : Laid wr) => digits_any s hs (by rw [hl, List.takeWhile_cons, if_pos hdb]; simp) wr h.rng)
        rw [hl, ← HT.out] at HC
        clear hl hls hlb hdb
        obtain ⟨k, t, n, z, hz⟩ := ans_shape (tokM (c :: r))
        have HZ := Lib.hid hz
        rw [hz] at HC
        clear hz HT
        go_enter Tryz.func44, Tryz.ntmps44
        go_wp2_with fail
        refine (HLE.out _).mono ?_
        rintro e w1 ⟨rfl, rfl⟩
        go_wp2_with fail
        refine (HDI.out _).mono ?_
        rintro e w1 ⟨rfl, rfl⟩
        go_wp2_with fail
        refine (HC.out _ (HLD.out _ HG0.out)).mono ?_
        rintro e w2 ⟨rfl, b2⟩
        have HGE := Lib.hid (HG0.out.step b2)
        clear b2
        obtain ⟨⟨c0, c1, c2, c3⟩, f0, f1, f2, f3⟩ := HBOX.out _ HGE.out
        go_wp2_with fail
        rw [HZ.out]
        obtain ⟨d0, d1, d2, d3⟩ := put4 c0 c1 c2 c3 (.int .i64 k) (.string (S t)) (.int .i64 n) (.int .i64 0)
        exact bodyPost_ret (v := .tuple #[.agg #[.int .i64 k, .string (S t), .int .i64 n, .int .i64 0], .int .i64 (z : Int)]) (by simp [results, d0, d1, d2, d3, Tryz.results44, go_sem]) rfl ⟨rfl, (((((HFIN.out _ HGE.out).setCell (p := ⟨w.heap.size, 0, none⟩) (Nat.le_refl _) _).setCell (p := ⟨w.heap.size, 1, none⟩) (Nat.le_refl _) _).setCell (p := ⟨w.heap.size, 2, none⟩) (Nat.le_refl _) _).setCell (p := ⟨w.heap.size, 3, none⟩) (Nat.le_refl _) _)⟩
      | false =>
        rw [hdb] at HDI
        by_cases h34 : c = 34
        · subst h34
          have HT := Lib.hid (tok_quo r)
          have HC := Lib.hid (fun (wr : World) (h : Laid wr) => quoted_any s hs (by rw [hl]; rfl) wr h.syn h.tab)
          rw [hl, ← HT.out] at HC
          clear hl hls hlb hdb
          obtain ⟨k, t, n, z, hz⟩ := ans_shape (tokM (34 :: r))
          have HZ := Lib.hid hz
          rw [hz] at HC
          clear hz HT
          go_enter Tryz.func44, Tryz.ntmps44
          go_wp2_with fail
          refine (HLE.out _).mono ?_
          rintro e w1 ⟨rfl, rfl⟩
          go_wp2_with fail
          refine (HDI.out _).mono ?_
          rintro e w1 ⟨rfl, rfl⟩
          go_wp2_with fail
          refine (HC.out _ (HLD.out _ HG0.out)).mono ?_
          rintro e w2 ⟨rfl, b2⟩
          have HGE := Lib.hid (HG0.out.step b2)
          clear b2
          obtain ⟨⟨c0, c1, c2, c3⟩, f0, f1, f2, f3⟩ := HBOX.out _ HGE.out
          go_wp2_with fail
          rw [HZ.out]
          obtain ⟨d0, d1, d2, d3⟩ := put4 c0 c1 c2 c3 (.int .i64 k) (.string (S t)) (.int .i64 n) (.int .i64 0)
          exact bodyPost_ret (v := .tuple #[.agg #[.int .i64 k, .string (S t), .int .i64 n, .int .i64 0], .int .i64 (z : Int)]) (by simp [results, d0, d1, d2, d3, Tryz.results44, go_sem]) rfl ⟨rfl, (((((HFIN.out _ HGE.out).setCell (p := ⟨w.heap.size, 0, none⟩) (Nat.le_refl _) _).setCell (p := ⟨w.heap.size, 1, none⟩) (Nat.le_refl _) _).setCell (p := ⟨w.heap.size, 2, none⟩) (Nat.le_refl _) _).setCell (p := ⟨w.heap.size, 3, none⟩) (Nat.le_refl _) _)⟩
        · have b34 : ((c.toNat : Int) == 34) = false := byte_ne c 34 h34
          by_cases h39 : c = 39
          · subst h39
            have HT := Lib.hid (tok_sym r)
            have HC := Lib.hid (fun wr => symbol_any s hs hs1 wr)
            rw [hl, show (39 :: r).drop 1 = r from rfl, ← HT.out] at HC
            clear hl hls hlb hdb h34
            obtain ⟨k, t, n, z, hz⟩ := ans_shape (tokM (39 :: r))
            have HZ := Lib.hid hz
            rw [hz] at HC
            clear hz HT
            go_enter Tryz.func44, Tryz.ntmps44
            go_wp2_with fail
            refine (HLE.out _).mono ?_
            rintro e w1 ⟨rfl, rfl⟩
            go_wp2_with fail
            refine (HDI.out _).mono ?_
            rintro e w1 ⟨rfl, rfl⟩
            go_wp2_with fail
            refine (HC.out _).mono ?_
            rintro e w2 ⟨rfl, b2⟩
            have HGE := Lib.hid (HG0.out.step b2)
            clear b2
            obtain ⟨⟨c0, c1, c2, c3⟩, f0, f1, f2, f3⟩ := HBOX.out _ HGE.out
            go_wp2_with fail
            rw [HZ.out]
            obtain ⟨d0, d1, d2, d3⟩ := put4 c0 c1 c2 c3 (.int .i64 k) (.string (S t)) (.int .i64 n) (.int .i64 0)
            exact bodyPost_ret (v := .tuple #[.agg #[.int .i64 k, .string (S t), .int .i64 n, .int .i64 0], .int .i64 (z : Int)]) (by simp [results, d0, d1, d2, d3, Tryz.results44, go_sem]) rfl ⟨rfl, (((((HFIN.out _ HGE.out).setCell (p := ⟨w.heap.size, 0, none⟩) (Nat.le_refl _) _).setCell (p := ⟨w.heap.size, 1, none⟩) (Nat.le_refl _) _).setCell (p := ⟨w.heap.size, 2, none⟩) (Nat.le_refl _) _).setCell (p := ⟨w.heap.size, 3, none⟩) (Nat.le_refl _) _)⟩
          · have b39 : ((c.toNat : Int) == 39) = false := byte_ne c 39 h39
            have HT := Lib.hid (tok_sign c r h39 hlb hdb h34)
            have HC := Lib.hid (fun (wr : World) (h : Laid wr) => sign_any s wr h.signs)
            rw [hl, ← HT.out] at HC
            clear h39 h34
            clear hl hls hlb hdb
            obtain ⟨k, t, n, z, hz⟩ := ans_shape (tokM (c :: r))
            have HZ := Lib.hid hz
            rw [hz] at HC
            clear hz HT
            go_enter Tryz.func44, Tryz.ntmps44
            go_wp2_with fail
            refine (HLE.out _).mono ?_
            rintro e w1 ⟨rfl, rfl⟩
            go_wp2_with fail
            refine (HDI.out _).mono ?_
            rintro e w1 ⟨rfl, rfl⟩
            go_wp2_with fail
            refine (HC.out _ (HLD.out _ HG0.out)).mono ?_
            rintro e w2 ⟨rfl, b2⟩
            have HGE := Lib.hid (HG0.out.step b2)
            clear b2
            obtain ⟨⟨c0, c1, c2, c3⟩, f0, f1, f2, f3⟩ := HBOX.out _ HGE.out
            go_wp2_with fail
            rw [HZ.out]
            obtain ⟨d0, d1, d2, d3⟩ := put4 c0 c1 c2 c3 (.int .i64 k) (.string (S t)) (.int .i64 n) (.int .i64 0)
            exact bodyPost_ret (v := .tuple #[.agg #[.int .i64 k, .string (S t), .int .i64 n, .int .i64 0], .int .i64 (z : Int)]) (by simp [results, d0, d1, d2, d3, Tryz.results44, go_sem]) rfl ⟨rfl, (((((HFIN.out _ HGE.out).setCell (p := ⟨w.heap.size, 0, none⟩) (Nat.le_refl _) _).setCell (p := ⟨w.heap.size, 1, none⟩) (Nat.le_refl _) _).setCell (p := ⟨w.heap.size, 2, none⟩) (Nat.le_refl _) _).setCell (p := ⟨w.heap.size, 3, none⟩) (Nat.le_refl _) _)⟩
end Go.Proofs.YtlmmfhbdebfgkaaGreatDoor.Lx
