/-
  TyNam, TyAlk, TyFit.
-/
import Derived.Test.YtlmmfhbdebfgkaaGreatDoorWExResQ
import Derived.Test.YtlmmfhbdebfgkaaGreatDoorWShelf
import Derived.Deep.RegionHeld3
import Derived.Deep.QuietTactic
import Derived.BigQuiet
import Derived.Lib.SmallJoins
set_option linter.unusedVariables false
set_option linter.unusedSimpArgs false
set_option maxRecDepth 100000
set_option maxHeartbeats 4000000
namespace Go.Proofs.YtlmmfhbdebfgkaaGreatDoor.Ty
open Go.RowKit
open Ex Lx
theorem clone_any (s : ByteArray) (hs : s.size ≤ 281474976710656) (w : World) :
    Calls Tryz.prog 53 #[.string s] w fun e w' => e = .returned (.string s) ∧ Below w.heap.size w w' := by
  go_enter Tryz.func53, Tryz.ntmps53
  go_wp2_with fail
  refine (Tryz.stringslite_Clone s _ hs).mono ?_
  rintro e w1 ⟨rfl, b1⟩
  have HB := Lib.hid b1
  clear b1
  go_wp2_with fail
  go_ret
  exact ⟨rfl, HB.out⟩
theorem named_idx : ∀ (l : List AttrP) (n : List UInt8), (fstIdx (fun x => x.name == n) l = -1 ∧ namedTy l n = (TT.zero, 20)) ∨ ∃ k, ∃ h : k < l.length, fstIdx (fun x => x.name == n) l = (k : Int) ∧ namedTy l n = (⟨l[k].kind, l[k].enum, []⟩, 0)
  | [], _ => .inl ⟨rfl, rfl⟩
  | e :: r, n => by
    have e1 : fstIdx (fun x : AttrP => x.name == n) (e :: r) = (if (e.name == n) = true then 0 else if fstIdx (fun x : AttrP => x.name == n) r < 0 then -1 else fstIdx (fun x : AttrP => x.name == n) r + 1) := rfl
    have e2 : namedTy (e :: r) n = if e.name = n then (⟨e.kind, e.enum, []⟩, 0) else namedTy r n := rfl
    rw [e1, e2]
    by_cases hn : e.name = n
    · rw [if_pos hn, if_pos (by simpa using hn)]
      exact .inr ⟨0, by simp, rfl, rfl⟩
    · rw [if_neg hn, if_neg (by simpa using hn)]
      rcases named_idx r n with ⟨h1, h2⟩ | ⟨k, hk, h1, h2⟩
      · rw [h1]; exact .inl ⟨rfl, h2⟩
      · rw [h1]
        refine .inr ⟨k + 1, by simp; omega, ?_, ?_⟩
        · rw [if_neg (by omega)]; omega
        · simpa using h2
def TB (w : World) (H : Nat) (k e l : Value) : Prop := w.heap[H]? = some (.cells #[k, e, l] 44 (0, 0))
section
variable {w w' : World} {H : Nat} {a b c : Value}
theorem TB.c0 (h : TB w H a b c) : w.cell? ⟨H, 0, none⟩ = some a := cell_of_row w H 0 _ _ (0, 0) h
theorem TB.c1 (h : TB w H a b c) : w.cell? ⟨H, 1, none⟩ = some b := cell_of_row w H 1 _ _ (0, 0) h
theorem TB.c2 (h : TB w H a b c) : w.cell? ⟨H, 2, none⟩ = some c := cell_of_row w H 2 _ _ (0, 0) h
theorem TB.fz (h : TB w H a b c) (j : Nat) : w.frozen? ⟨H, j, none⟩ = false := frozen_of_row w H j _ _ h
theorem TB.lt (h : TB w H a b c) : H < w.heap.size := World.block_lt_of_cell? w _ h.c0
theorem TB.later (h : TB w H a b c) (k : Below w.heap.size w w') : TB w' H a b c := (k.block H h.lt).trans h
theorem TB.put (h : TB w H a b c) (x y z : Value) : TB (((w.setCell ⟨H, 0, none⟩ x).setCell ⟨H, 1, none⟩ y).setCell ⟨H, 2, none⟩ z) H x y z :=
  heap_setCell_same _ H 2 _ _ _ (heap_setCell_same _ H 1 _ _ _ (heap_setCell_same w H 0 _ _ _ h))
end
theorem set3_other (w : World) (H b j : Nat) (x y z : Value) (h : b ≠ H) : (((w.setCell ⟨H, 0, none⟩ x).setCell ⟨H, 1, none⟩ y).setCell ⟨H, 2, none⟩ z).cell? ⟨b, j, none⟩ = w.cell? ⟨b, j, none⟩ := by
  have o : ∀ (x : World) (i : Nat) (v : Value), (x.setCell ⟨H, i, none⟩ v).cell? ⟨b, j, none⟩ = x.cell? ⟨b, j, none⟩ := fun x i v =>
    World.cell?_setCell_other (w := x) (a := ⟨H, i, none⟩) (b := ⟨b, j, none⟩) (v := v) (h := by intro e; injection e with e2 _ _; exact h e2.symm)
  rw [o, o, o]
theorem TB.new (W : World) (a b c : Value) (k : Nat) (h : W.heap.size = k) : TB (W.alloc (.cells #[a, b, c] 44)) k a b c := new_box W _ _ k h
def retT (x : TT × Nat) : Ending := .returned (.tuple #[.agg #[.int .i64 x.1.kind, .string (S x.1.enum), .string (S x.1.lit)], .int .i64 (x.2 : Int)])
theorem named_any (l : List AttrP) (n : List UInt8) (p : Option Addr) (c : Nat) (w : World) (hl : AttrsAt w p l) (hlen : l.length ≤ 281474976710656) (hen : ∀ a ∈ l, a.enum.length ≤ 281474976710656) :
    Calls Tryz.prog 84 #[.slice p l.length c, .string (S n)] w fun e w' => e = retT (namedTy l n) ∧ Below w.heap.size w w' := by
  have hki : (l.length : Int) ≤ 281474976710656 := by omega
  have ba := ((Below.refl w.heap.size w).alloc (Nat.le_refl _) (.cells #[.string (S n)] 9)).alloc (by simp) (.cells #[.int .i64 0, .string ⟨#[]⟩, .string ⟨#[]⟩] 44)
  have hla := hl.later ba
  have HI := Lib.hid (attr_idx l n p c w.heap.size _ hla hlen (by simp) (by simp; omega))
  have HL0 := Lib.hid hl
  have HBA := Lib.hid ba
  clear hl ba hla
  unfold retT
  rcases named_idx l n with ⟨h1, h2⟩ | ⟨k, hk, h1, h2⟩
  · rw [h1] at HI
    rw [h2]
    clear h1 h2
    go_enter Tryz.func84, Tryz.ntmps84
    go_wp2_with fail
    refine HI.out.mono ?_
    rintro e w1 ⟨rfl, b1⟩
    have HB1 := Lib.hid (HBA.out.trans (b1.mono HBA.out.size))
    have hnb := (TB.new (w.alloc (.cells #[.string (S n)] 9)) (.int .i64 0) (.string ⟨#[]⟩) (.string ⟨#[]⟩) (w.heap.size + 1) (by simp)).later b1
    have fz := hnb.fz
    have k0 := hnb.c0
    have k1 := hnb.c1
    have k2 := hnb.c2
    have HP := Lib.hid (hnb.put (.int .i64 0) (.string ⟨#[]⟩) (.string ⟨#[]⟩))
    clear b1 hnb
    go_wp2_with fail
    have d0 := HP.out.c0
    have d1 := HP.out.c1
    have d2 := HP.out.c2
    exact bodyPost_ret (v := .tuple #[.agg #[.int .i64 0, .string ⟨#[]⟩, .string ⟨#[]⟩], .int .i64 20]) (by simp [results, d0, d1, d2, Tryz.results84, go_sem]) rfl ⟨rfl, ((HB1.out.setCell (p := ⟨w.heap.size + 1, 0, none⟩) (by simp) _).setCell (p := ⟨w.heap.size + 1, 1, none⟩) (by simp) _).setCell (p := ⟨w.heap.size + 1, 2, none⟩) (by simp) _⟩
  · rw [h1] at HI
    rw [h2]
    clear h1 h2
    have hsl := hen l[k] (List.getElem_mem hk)
    obtain ⟨y, hy⟩ : ∃ y, y = l[k] := ⟨_, rfl⟩
    rw [← hy] at hsl ⊢
    have HY := Lib.hid hy
    clear hy
    have hki2 : (k : Int) < (l.length : Int) := by omega
    go_enter Tryz.func84, Tryz.ntmps84
    go_wp2_with fail
    refine HI.out.mono ?_
    rintro e w1 ⟨rfl, b1⟩
    have HB1 := Lib.hid (HBA.out.trans (b1.mono HBA.out.size))
    have hb0 := HBA.out.trans (b1.mono HBA.out.size)
    obtain ⟨b, o, rfl, hb, f0, f1, f2⟩ := HL0.out k hk
    rw [← hb0.cell (p := ⟨b, _, none⟩) hb] at f0 f1 f2
    have hneb : b ≠ w.heap.size + 1 := by omega
    have hb := Nat.lt_of_lt_of_le hb hb0.size
    rw [← HY.out] at f0 f1 f2
    have HNB := Lib.hid ((TB.new (w.alloc (.cells #[.string (S n)] 9)) (.int .i64 0) (.string ⟨#[]⟩) (.string ⟨#[]⟩) (w.heap.size + 1) (by simp)).later b1)
    have HCL := Lib.hid (fun wr => clone_any (S y.enum) (by rw [S_size]; exact hsl) wr)
    have HF1 := Lib.hid f1
    have HF2 := Lib.hid f2
    have HLT := Lib.hid hb
    have HLH := Lib.hid HNB.out.lt
    clear b1 hb0
    go_wp2_with fail
    go_region_held3 (fun w' => w'.cell? ⟨b, o + k * 3 + 1, none⟩ = some (.int .i64 y.kind) ∧ w'.cell? ⟨b, o + k * 3 + 2, none⟩ = some (.string (S y.enum)))
      (first | assumption | exact ⟨HF1.out, HF2.out⟩ | exact ⟨by assumption, by assumption⟩ | exact ⟨(set3_other _ _ _ _ _ _ _ hneb).trans (by assumption), (set3_other _ _ _ _ _ _ _ hneb).trans (by assumption)⟩ | go_keep)
      (first
        | (go_at_call 53; (with_reducible refine (HCL.out _).mono ?_); rintro e w2 ⟨rfl, b2⟩; have g1 := (b2.cell (p := ⟨b, o + k * 3 + 1, none⟩) HLT.out).trans HF1.out; have g2 := (b2.cell (p := ⟨b, o + k * 3 + 2, none⟩) HLT.out).trans HF2.out; have hnb := (show TB w1.drew _ _ _ _ from HNB.out).later b2; have fz := hnb.fz; have k0 := hnb.c0; have k1 := hnb.c1; have k2 := hnb.c2; have HB2 := Lib.hid (HB1.out.drew.trans (b2.mono HB1.out.size)); have HP := Lib.hid (hnb.put (.int .i64 y.kind) (.string (S y.enum)) (.string ⟨#[]⟩)); clear b2 hnb))
    go_wp2_with fail
    have d0 := HP.out.c0
    have d1 := HP.out.c1
    have d2 := HP.out.c2
    exact bodyPost_ret (v := .tuple #[.agg #[.int .i64 y.kind, .string (S y.enum), .string ⟨#[]⟩], .int .i64 0]) (by simp [results, d0, d1, d2, Tryz.results84, go_sem]) rfl ⟨rfl, ((HB2.out.setCell (p := ⟨w.heap.size + 1, 0, none⟩) (by simp) _).setCell (p := ⟨w.heap.size + 1, 1, none⟩) (by simp) _).setCell (p := ⟨w.heap.size + 1, 2, none⟩) (by simp) _⟩
end Go.Proofs.YtlmmfhbdebfgkaaGreatDoor.Ty
namespace Go.Proofs.YtlmmfhbdebfgkaaGreatDoor.Ty
open Go.RowKit
open Ex Lx
theorem S_nil : S [] = ⟨#[]⟩ := rfl
theorem nil_list : (S []).toList = [] := by rw [ByteArray.toList_eq, S_toList]
theorem nil_empty : (S []).toList.isEmpty = true := by rw [nil_list]; rfl
theorem nonempty_a (c : UInt8) (r : List UInt8) : ((S (c :: r)).toList == (⟨#[]⟩ : ByteArray).toList) = false := by
  rw [← S_nil, S_beq]; rfl
theorem nonempty_b (c : UInt8) (r : List UInt8) : (S (c :: r)).toList.isEmpty = false := by rw [ByteArray.toList_eq, S_toList]; rfl
theorem alike_any (l : List EnumP) (a b : TT) (p : Option Addr) (c : Nat) (w : World) (hl : EnumsAt w p l) (hlen : l.length ≤ 281474976710656) (hsy : ∀ e ∈ l, e.syms.length ≤ 281474976710656) :
    Calls Tryz.prog 143 #[.slice p l.length c, .agg #[.int .i64 a.kind, .string (S a.enum), .string (S a.lit)], .agg #[.int .i64 b.kind, .string (S b.enum), .string (S b.lit)]] w fun e w' => e = .returned (.bool (alikeB l a b)) ∧ Below w.heap.size w w' := by
  obtain ⟨ka, ea, la⟩ := a
  obtain ⟨kb, eb, lb⟩ := b
  simp only
  have hba := ((Below.refl w.heap.size w).alloc (Nat.le_refl _) (.cells #[.int .i64 ka, .string (S ea), .string (S la)] 44)).alloc (by simp) (.cells #[.int .i64 kb, .string (S eb), .string (S lb)] 44)
  have HH := Lib.hid (fun n s => has_any l n s p c _ (hl.later hba) hlen hsy)
  have HBA := Lib.hid hba
  clear hl hba
  unfold alikeB
  simp only
  by_cases hk : ka = kb
  · rw [if_neg (by simpa using hk)]
    subst hk
    by_cases h4 : ka = 4
    · rw [if_neg (by simpa using h4)]
      subst h4
      cases la with
      | cons ca ra =>
        have na := nonempty_a ca ra
        have na2 := nonempty_b ca ra
        cases lb with
        | cons cb rb =>
          have nb := nonempty_a cb rb
          have nb2 := nonempty_b cb rb
          rw [if_pos (by simp)]
          generalize S (ca :: ra) = Sa at *
          generalize S (cb :: rb) = Sb at *
          go_enter Tryz.func143, Tryz.ntmps143
          go_wp2_with fail
          go_ret
          exact ⟨rfl, HBA.out⟩
        | nil =>
          have e0 := nil_list
          have e1 := nil_empty
          rw [if_neg (by simp), if_pos (by simp)]
          have HC := Lib.hid (HH.out eb (ca :: ra))
          generalize hasB l eb (ca :: ra) = r at *
          generalize S (ca :: ra) = Sa at *
          go_enter Tryz.func143, Tryz.ntmps143
          go_wp2_with fail
          refine HC.out.mono ?_
          rintro e w1 ⟨rfl, b1⟩
          have HB1 := Lib.hid (HBA.out.trans (b1.mono HBA.out.size))
          clear b1
          go_wp2_with fail
          go_ret
          exact ⟨rfl, HB1.out⟩
      | nil =>
        have e0 := nil_list
        have e1 := nil_empty
        cases lb with
        | cons cb rb =>
          have nb := nonempty_a cb rb
          have nb2 := nonempty_b cb rb
          rw [if_neg (by simp), if_neg (by simp), if_pos (by simp)]
          have HC := Lib.hid (HH.out ea (cb :: rb))
          generalize hasB l ea (cb :: rb) = r at *
          generalize S (cb :: rb) = Sb at *
          go_enter Tryz.func143, Tryz.ntmps143
          go_wp2_with fail
          refine HC.out.mono ?_
          rintro e w1 ⟨rfl, b1⟩
          have HB1 := Lib.hid (HBA.out.trans (b1.mono HBA.out.size))
          clear b1
          go_wp2_with fail
          go_ret
          exact ⟨rfl, HB1.out⟩
        | nil =>
          rw [if_neg (by simp), if_neg (by simp), if_neg (by simp)]
          go_enter Tryz.func143, Tryz.ntmps143
          go_wp2_with fail
          go_ret
          exact ⟨by first | rfl | (rw [S_beq]; rfl), HBA.out⟩
    · rw [if_pos (by simpa using h4)]
      have h4b : (ka == 4) = false := by simpa using h4
      go_enter Tryz.func143, Tryz.ntmps143
      go_wp2_with fail
      go_ret
      exact ⟨rfl, HBA.out⟩
  · rw [if_pos (by simpa using hk)]
    have hkb : (ka == kb) = false := by simpa using hk
    have hkc : (ka != kb) = true := by simpa using hk
    go_enter Tryz.func143, Tryz.ntmps143
    go_wp2_with fail
    go_ret
    exact ⟨rfl, HBA.out⟩
end Go.Proofs.YtlmmfhbdebfgkaaGreatDoor.Ty
namespace Go.Proofs.YtlmmfhbdebfgkaaGreatDoor.Ty
open Go.RowKit
open Ex Lx
theorem fit_a (s : Sc) (pe pa pf : Option Addr) (ce ca cf : Nat) (op : Int) (l : List TT) (q : Option Addr) (c : Nat) (w : World) (hs : ScAt w pe pa pf s) (hf : ScFit s) (hl : TTsAt w q l) (hlen : l.length ≤ 281474976710656) (hop : op = 10 ∨ op = 40 ∨ op = 41) :
    Calls Tryz.prog 85 #[.agg #[.slice pe s.enums.length ce, .slice pa s.attrs.length ca, .slice pf s.fields.length cf], .int .i64 op, .slice q l.length c] w fun e w' => e = .returned (.bool (fitB s.enums op l)) ∧ Below w.heap.size w w' := by
  have hba := (Below.refl w.heap.size w).alloc (Nat.le_refl _) (.cells #[.slice pe s.enums.length ce, .slice pa s.attrs.length ca, .slice pf s.fields.length cf] 85)
  have HALL := Lib.hid (fun k wr (b : Below w.heap.size w wr) => all_any l k q c wr (hl.later b) hlen)
  have HBA := Lib.hid hba
  clear hl hs hba
  have hfb : fitB s.enums op l = allK l 2 := by
    unfold fitB
    rcases hop with rfl | rfl | rfl <;> rfl
  rw [hfb]
  clear hfb
  have HC := Lib.hid (HALL.out 2 _ HBA.out)
  generalize allK l 2 = r at *
  rcases hop with rfl | rfl | rfl
  all_goals
    go_enter Tryz.func85, Tryz.ntmps85
    go_wp2_with fail
    refine HC.out.mono ?_
    rintro e w1 ⟨rfl, b1⟩
    have HB1 := Lib.hid (HBA.out.trans (b1.mono HBA.out.size))
    clear b1
    go_wp2_with fail
    go_ret
    exact ⟨rfl, HB1.out⟩
theorem fit_b (s : Sc) (pe pa pf : Option Addr) (ce ca cf : Nat) (op : Int) (l : List TT) (q : Option Addr) (c : Nat) (w : World) (hs : ScAt w pe pa pf s) (hf : ScFit s) (hl : TTsAt w q l) (hlen : l.length ≤ 281474976710656) (hop : op = 12) :
    Calls Tryz.prog 85 #[.agg #[.slice pe s.enums.length ce, .slice pa s.attrs.length ca, .slice pf s.fields.length cf], .int .i64 op, .slice q l.length c] w fun e w' => e = .returned (.bool (fitB s.enums op l)) ∧ Below w.heap.size w w' := by
  have hba := (Below.refl w.heap.size w).alloc (Nat.le_refl _) (.cells #[.slice pe s.enums.length ce, .slice pa s.attrs.length ca, .slice pf s.fields.length cf] 85)
  have HALL := Lib.hid (fun k wr (b : Below w.heap.size w wr) => all_any l k q c wr (hl.later b) hlen)
  have HBA := Lib.hid hba
  clear hl hs hba
  have hfb : fitB s.enums op l = (allK l 5 || allK l 3) := by
    unfold fitB
    subst hop; rfl
  rw [hfb]
  clear hfb
  have HC := Lib.hid (HALL.out 5 _ HBA.out)
  have HD := Lib.hid (HALL.out 3)
  generalize allK l 5 = r at *
  generalize allK l 3 = u at *
  subst hop
  all_goals
    cases r with
    | true =>
      go_enter Tryz.func85, Tryz.ntmps85
      go_wp2_with fail
      refine HC.out.mono ?_
      rintro e w1 ⟨rfl, b1⟩
      have HB1 := Lib.hid (HBA.out.trans (b1.mono HBA.out.size))
      clear b1
      go_wp2_with fail
      go_ret
      exact ⟨rfl, HB1.out⟩
    | false =>
      go_enter Tryz.func85, Tryz.ntmps85
      go_wp2_with fail
      refine HC.out.mono ?_
      rintro e w1 ⟨rfl, b1⟩
      have HB1 := Lib.hid (HBA.out.trans (b1.mono HBA.out.size))
      clear b1
      go_wp2_with fail
      refine (HD.out _ HB1.out).mono ?_
      rintro e w2 ⟨rfl, b2⟩
      have HB2 := Lib.hid (HB1.out.trans (b2.mono HB1.out.size))
      clear b2
      go_wp2_with fail
      go_ret
      exact ⟨rfl, HB2.out⟩
theorem fit_c (s : Sc) (pe pa pf : Option Addr) (ce ca cf : Nat) (op : Int) (l : List TT) (q : Option Addr) (c : Nat) (w : World) (hs : ScAt w pe pa pf s) (hf : ScFit s) (hl : TTsAt w q l) (hlen : l.length ≤ 281474976710656) (hop : op = 32 ∨ op = 33) :
    Calls Tryz.prog 85 #[.agg #[.slice pe s.enums.length ce, .slice pa s.attrs.length ca, .slice pf s.fields.length cf], .int .i64 op, .slice q l.length c] w fun e w' => e = .returned (.bool (fitB s.enums op l)) ∧ Below w.heap.size w w' := by
  have hba := (Below.refl w.heap.size w).alloc (Nat.le_refl _) (.cells #[.slice pe s.enums.length ce, .slice pa s.attrs.length ca, .slice pf s.fields.length cf] 85)
  have HALL := Lib.hid (fun k wr (b : Below w.heap.size w wr) => all_any l k q c wr (hl.later b) hlen)
  have HBA := Lib.hid hba
  clear hl hs hba
  have hfb : fitB s.enums op l = (allK l 1 || allK l 3) := by
    unfold fitB
    rcases hop with rfl | rfl <;> rfl
  rw [hfb]
  clear hfb
  have HC := Lib.hid (HALL.out 1 _ HBA.out)
  have HD := Lib.hid (HALL.out 3)
  generalize allK l 1 = r at *
  generalize allK l 3 = u at *
  rcases hop with rfl | rfl
  all_goals
    cases r with
    | true =>
      go_enter Tryz.func85, Tryz.ntmps85
      go_wp2_with fail
      refine HC.out.mono ?_
      rintro e w1 ⟨rfl, b1⟩
      have HB1 := Lib.hid (HBA.out.trans (b1.mono HBA.out.size))
      clear b1
      go_wp2_with fail
      go_ret
      exact ⟨rfl, HB1.out⟩
    | false =>
      go_enter Tryz.func85, Tryz.ntmps85
      go_wp2_with fail
      refine HC.out.mono ?_
      rintro e w1 ⟨rfl, b1⟩
      have HB1 := Lib.hid (HBA.out.trans (b1.mono HBA.out.size))
      clear b1
      go_wp2_with fail
      refine (HD.out _ HB1.out).mono ?_
      rintro e w2 ⟨rfl, b2⟩
      have HB2 := Lib.hid (HB1.out.trans (b2.mono HB1.out.size))
      clear b2
      go_wp2_with fail
      go_ret
      exact ⟨rfl, HB2.out⟩
theorem fit_d (s : Sc) (pe pa pf : Option Addr) (ce ca cf : Nat) (op : Int) (l : List TT) (q : Option Addr) (c : Nat) (w : World) (hs : ScAt w pe pa pf s) (hf : ScFit s) (hl : TTsAt w q l) (hlen : l.length ≤ 281474976710656) (hop : op = 25 ∨ op = 26) (h2 : l.length = 2) :
    Calls Tryz.prog 85 #[.agg #[.slice pe s.enums.length ce, .slice pa s.attrs.length ca, .slice pf s.fields.length cf], .int .i64 op, .slice q l.length c] w fun e w' => e = .returned (.bool (fitB s.enums op l)) ∧ Below w.heap.size w w' := by
  have hba := (Below.refl w.heap.size w).alloc (Nat.le_refl _) (.cells #[.slice pe s.enums.length ce, .slice pa s.attrs.length ca, .slice pf s.fields.length cf] 85)
  have HALL := Lib.hid (fun k wr (b : Below w.heap.size w wr) => all_any l k q c wr (hl.later b) hlen)
  have HBA := Lib.hid hba
  clear hs
  match l, h2 with
  | [x, y], _ =>
    have hfb : fitB s.enums op [x, y] = (x.kind == 5 && y.kind == 1) := by
      unfold fitB
      rcases hop with rfl | rfl <;> rfl
    rw [hfb]
    clear hfb
    obtain ⟨b, o, rfl, hb, f0, _, _⟩ := hl 0 (by simp)
    obtain ⟨b', o', e, hb', g0, _, _⟩ := hl 1 (by simp)
    injection e with e
    injection e with e1 e2 _
    subst e1 e2
    simp only [Nat.zero_mul, Nat.one_mul, Nat.add_zero, List.getElem_cons_zero, List.getElem_cons_succ] at f0 g0
    have f1 := (hba.cell (p := ⟨b, o, none⟩) hb).trans f0
    have g1 := (hba.cell (p := ⟨b, o + 3, none⟩) hb).trans g0
    clear hl HALL hba f0 g0
    simp only [List.length_cons, List.length_nil]
    by_cases hx : x.kind = 5
    · have hx2 : (x.kind == 5) = true := by simpa using hx
      rw [hx2, Bool.true_and]
      rcases hop with rfl | rfl
      all_goals
        go_enter Tryz.func85, Tryz.ntmps85
        go_wp2_with fail
        go_ret
        exact ⟨rfl, HBA.out⟩
    · have hx2 : (x.kind == 5) = false := by simpa using hx
      rw [hx2, Bool.false_and]
      rcases hop with rfl | rfl
      all_goals
        go_enter Tryz.func85, Tryz.ntmps85
        go_wp2_with fail
        go_ret
        exact ⟨rfl, HBA.out⟩
theorem fit_e (s : Sc) (pe pa pf : Option Addr) (ce ca cf : Nat) (op : Int) (l : List TT) (q : Option Addr) (c : Nat) (w : World) (hs : ScAt w pe pa pf s) (hf : ScFit s) (hl : TTsAt w q l) (hlen : l.length ≤ 281474976710656) (hop : op = 30 ∨ op = 31) (h2 : l.length = 2) :
    Calls Tryz.prog 85 #[.agg #[.slice pe s.enums.length ce, .slice pa s.attrs.length ca, .slice pf s.fields.length cf], .int .i64 op, .slice q l.length c] w fun e w' => e = .returned (.bool (fitB s.enums op l)) ∧ Below w.heap.size w w' := by
  have hba := (Below.refl w.heap.size w).alloc (Nat.le_refl _) (.cells #[.slice pe s.enums.length ce, .slice pa s.attrs.length ca, .slice pf s.fields.length cf] 85)
  have HALL := Lib.hid (fun k wr (b : Below w.heap.size w wr) => all_any l k q c wr (hl.later b) hlen)
  have HBA := Lib.hid hba
  match l, h2 with
  | [x, y], _ =>
    have hfb : fitB s.enums op [x, y] = alikeB s.enums x y := by
      unfold fitB
      rcases hop with rfl | rfl <;> rfl
    rw [hfb]
    clear hfb
    have HC := Lib.hid (fun wr (b : Below w.heap.size w wr) => alike_any s.enums x y pe ce wr (hs.enums.later b) hf.enums hf.syms)
    generalize alikeB s.enums x y = r at *
    obtain ⟨b, o, rfl, hb, f0, f1, f2⟩ := hl 0 (by simp)
    obtain ⟨b', o', e, hb', g0, g1, g2⟩ := hl 1 (by simp)
    injection e with e
    injection e with e1 e2 _
    subst e1 e2
    simp only [Nat.zero_mul, Nat.one_mul, Nat.add_zero, List.getElem_cons_zero, List.getElem_cons_succ] at f0 f1 f2 g0 g1 g2
    have F0 := Lib.hid (fun wr (k : Below w.heap.size w wr) => (k.cell (p := ⟨b, o, none⟩) hb).trans f0)
    have F1 := Lib.hid (fun wr (k : Below w.heap.size w wr) => (k.cell (p := ⟨b, o + 1, none⟩) hb).trans f1)
    have F2 := Lib.hid (fun wr (k : Below w.heap.size w wr) => (k.cell (p := ⟨b, o + 2, none⟩) hb).trans f2)
    have G0 := Lib.hid (fun wr (k : Below w.heap.size w wr) => (k.cell (p := ⟨b, o + 3, none⟩) hb).trans g0)
    have G1 := Lib.hid (fun wr (k : Below w.heap.size w wr) => (k.cell (p := ⟨b, o + 3 + 1, none⟩) hb).trans g1)
    have G2 := Lib.hid (fun wr (k : Below w.heap.size w wr) => (k.cell (p := ⟨b, o + 3 + 2, none⟩) hb).trans g2)
    obtain ⟨W1, hW1⟩ : ∃ W1, W1 = w.alloc (.cells #[.slice pe s.enums.length ce, .slice pa s.attrs.length ca, .slice pf s.fields.length cf] 85) := ⟨_, rfl⟩
    have hbox : W1.cell? ⟨w.heap.size, 0, none⟩ = some (.slice pe s.enums.length ce) := by rw [hW1]; exact cell_of_row _ w.heap.size 0 _ _ (0, 0) (heap_alloc_new w _)
    have hsz : w.heap.size < W1.heap.size := by rw [hW1]; simp
    have HBX := Lib.hid hbox
    have HSZ := Lib.hid hsz
    rw [← hW1] at HBA hba
    have HW1 := Lib.hid hW1
    clear hl HALL hba hs hb f0 f1 f2 g0 g1 g2 hbox hsz hW1
    simp only [List.length_cons, List.length_nil]
    rcases hop with rfl | rfl
    all_goals
      go_enter Tryz.func85, Tryz.ntmps85
      go_wp2_with fail
      rw [← HW1.out]
      go_region_held3 (fun w' => w'.cell? ⟨w.heap.size, 0, none⟩ = some (.slice pe s.enums.length ce) ∧ w'.cell? ⟨b, o, none⟩ = some (.int .i64 x.kind) ∧ w'.cell? ⟨b, o + 1, none⟩ = some (.string (S x.enum)) ∧ w'.cell? ⟨b, o + 2, none⟩ = some (.string (S x.lit)) ∧ w'.cell? ⟨b, o + 3, none⟩ = some (.int .i64 y.kind) ∧ w'.cell? ⟨b, o + 3 + 1, none⟩ = some (.string (S y.enum)) ∧ w'.cell? ⟨b, o + 3 + 2, none⟩ = some (.string (S y.lit)))
        (first | assumption | exact ⟨HBX.out, F0.out _ HBA.out.drew, F1.out _ HBA.out.drew, F2.out _ HBA.out.drew, G0.out _ HBA.out.drew, G1.out _ HBA.out.drew, G2.out _ HBA.out.drew⟩ | exact ⟨by assumption, by assumption, by assumption, by assumption, by assumption, by assumption, by assumption⟩ | go_keep)
        (first
          | (go_at_call 143; (with_reducible refine (HC.out _ HBA.out.drew).mono ?_); rintro e w2 ⟨rfl, b2⟩; have B2 := HBA.out.drew.trans (b2.mono HBA.out.size); have q0 := (b2.cell (p := ⟨w.heap.size, 0, none⟩) HSZ.out).trans HBX.out; have q1 := F0.out _ B2; have q2 := F1.out _ B2; have q3 := F2.out _ B2; have q4 := G0.out _ B2; have q5 := G1.out _ B2; have q6 := G2.out _ B2; have HB2 := Lib.hid B2; clear b2 B2))
      go_wp2_with fail
      go_ret
      exact ⟨rfl, HB2.out⟩
theorem fit_f (s : Sc) (pe pa pf : Option Addr) (ce ca cf : Nat) (op : Int) (l : List TT) (q : Option Addr) (c : Nat) (w : World) (hs : ScAt w pe pa pf s) (hf : ScFit s) (hl : TTsAt w q l) (hlen : l.length ≤ 281474976710656) (hop : op ≠ 10 ∧ op ≠ 40 ∧ op ≠ 41 ∧ op ≠ 12 ∧ op ≠ 25 ∧ op ≠ 26 ∧ op ≠ 30 ∧ op ≠ 31 ∧ op ≠ 32 ∧ op ≠ 33) :
    Calls Tryz.prog 85 #[.agg #[.slice pe s.enums.length ce, .slice pa s.attrs.length ca, .slice pf s.fields.length cf], .int .i64 op, .slice q l.length c] w fun e w' => e = .returned (.bool (fitB s.enums op l)) ∧ Below w.heap.size w w' := by
  have hba := (Below.refl w.heap.size w).alloc (Nat.le_refl _) (.cells #[.slice pe s.enums.length ce, .slice pa s.attrs.length ca, .slice pf s.fields.length cf] 85)
  have HALL := Lib.hid (fun k wr (b : Below w.heap.size w wr) => all_any l k q c wr (hl.later b) hlen)
  have HBA := Lib.hid hba
  clear hl hs hba
  have hfb : fitB s.enums op l = allK l 1 := by
    unfold fitB
    rw [if_neg (by omega), if_neg (by omega), if_neg (by omega), if_neg (by omega), if_neg (by omega)]
  rw [hfb]
  clear hfb
  have HC := Lib.hid (HALL.out 1 _ HBA.out)
  generalize allK l 1 = r at *
  have n10 : (op == 10) = false := by simp; omega
  have n40 : (op == 40) = false := by simp; omega
  have n41 : (op == 41) = false := by simp; omega
  have n12 : (op == 12) = false := by simp; omega
  have n25 : (op == 25) = false := by simp; omega
  have n26 : (op == 26) = false := by simp; omega
  have n30 : (op == 30) = false := by simp; omega
  have n31 : (op == 31) = false := by simp; omega
  have n32 : (op == 32) = false := by simp; omega
  have n33 : (op == 33) = false := by simp; omega
  clear hop
  go_enter Tryz.func85, Tryz.ntmps85
  go_wp2_with fail
  refine HC.out.mono ?_
  rintro e w1 ⟨rfl, b1⟩
  have HB1 := Lib.hid (HBA.out.trans (b1.mono HBA.out.size))
  clear b1
  go_wp2_with fail
  go_ret
  exact ⟨rfl, HB1.out⟩
theorem fit_any (s : Sc) (pe pa pf : Option Addr) (ce ca cf : Nat) (op : Int) (l : List TT) (q : Option Addr) (c : Nat) (w : World) (hs : ScAt w pe pa pf s) (hf : ScFit s) (hl : TTsAt w q l) (hlen : l.length ≤ 281474976710656) (h2 : op = 25 ∨ op = 26 ∨ op = 30 ∨ op = 31 → l.length = 2) :
    Calls Tryz.prog 85 #[.agg #[.slice pe s.enums.length ce, .slice pa s.attrs.length ca, .slice pf s.fields.length cf], .int .i64 op, .slice q l.length c] w fun e w' => e = .returned (.bool (fitB s.enums op l)) ∧ Below w.heap.size w w' := by
  by_cases ha : op = 10 ∨ op = 40 ∨ op = 41
  · exact fit_a s pe pa pf ce ca cf op l q c w hs hf hl hlen ha
  by_cases hb : op = 12
  · exact fit_b s pe pa pf ce ca cf op l q c w hs hf hl hlen hb
  by_cases hc : op = 32 ∨ op = 33
  · exact fit_c s pe pa pf ce ca cf op l q c w hs hf hl hlen hc
  by_cases hd : op = 25 ∨ op = 26
  · exact fit_d s pe pa pf ce ca cf op l q c w hs hf hl hlen hd (h2 (by omega))
  by_cases he : op = 30 ∨ op = 31
  · exact fit_e s pe pa pf ce ca cf op l q c w hs hf hl hlen he (h2 (by omega))
  exact fit_f s pe pa pf ce ca cf op l q c w hs hf hl hlen (by omega)
end Go.Proofs.YtlmmfhbdebfgkaaGreatDoor.Ty
