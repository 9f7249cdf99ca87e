/- ZTzN -/
import Derived.Test.YtchjckdjkecjnaaGreatDoorYTzA
import Derived.Test.YtchjckdjkecjnaaGreatDoorYTzTy
import Derived.Test.YtchjckdjkecjnaaGreatDoorYExWrH
namespace Go.Proofs.YtchjckdjkecjnaaGreatDoor.Ty
open Ex Lx
def whenR (k : Int) (ok : Bool) : TT × Nat := if ok then (⟨k, [], []⟩, 0) else (TT.zero, 23)
def oneR (s : Sc) (o : Int) (t : List UInt8) (l : List TT) : TT × Nat :=
  if o = 1 then (⟨1, [], []⟩, 0) else if o = 2 then (⟨3, [], []⟩, 0) else if o = 3 then (⟨2, [], []⟩, 0) else if o = 4 then (⟨4, [], t⟩, 0) else if o = 5 then whenR 5 (allK l 1)
  else if o = 6 then namedTy s.attrs t else if o = 7 then namedTy s.fields t else if o = 10 ∨ 40 ≤ o then whenR 2 (allK l 2)
  else if o = 12 then whenR 1 ((arg l 0).kind == 5 || (arg l 0).kind == 3) else if o = 25 then whenR 1 ((arg l 0).kind == 5 && (arg l 1).kind == 1) else if o = 26 then whenR 5 ((arg l 0).kind == 5 && (arg l 1).kind == 1)
  else if o = 30 ∨ o = 31 then whenR 2 (alikeB s.enums (arg l 0) (arg l 1)) else if o = 32 ∨ o = 33 then whenR 2 (allK l 1 || ((arg l 0).kind == 3 && (arg l 1).kind == 3)) else whenR 1 (allK l 1)
theorem oneR_eq (s : Sc) (o : Int) (t : List UInt8) (l : List TT) (h : cntB o l.length = true) : oneR s o t l = oneTy s o t l := by
  have hw : ∀ (k : Int) (b : Bool), whenR k b = if b = true then (⟨k, [], []⟩, 0) else (TT.zero, 23) := fun k b => by cases b <;> rfl
  unfold cntB at h
  by_cases h5 : o = 5
  · subst h5
    show whenR 5 (allK l 1) = if allK l 1 = true then _ else _
    rw [hw]; rfl
  rw [if_neg h5] at h
  by_cases h7 : 1 ≤ o ∧ o ≤ 7
  · rw [if_pos h7] at h
    have hl : l = [] := List.eq_nil_of_length_eq_zero (by simpa using h)
    subst hl
    have : o = 1 ∨ o = 2 ∨ o = 3 ∨ o = 4 ∨ o = 6 ∨ o = 7 := by omega
    rcases this with rfl | rfl | rfl | rfl | rfl | rfl <;> rfl
  rw [if_neg h7] at h
  by_cases h12 : 10 ≤ o ∧ o ≤ 12
  · rw [if_pos h12] at h
    match l, (show l.length = 1 by simpa using h) with
    | [x], _ =>
      have : o = 10 ∨ o = 11 ∨ o = 12 := by omega
      rcases this with rfl | rfl | rfl
      · show whenR 2 (allK [x] 2) = if allK [x] 2 = true then _ else _
        rw [hw]; rfl
      · show whenR 1 (allK [x] 1) = if allK [x] 1 = true then _ else _
        rw [hw]; rfl
      · show whenR 1 (x.kind == 5 || x.kind == 3) = if (allK [x] 5 || allK [x] 3) = true then _ else _
        have e : ∀ k, allK [x] k = (x.kind == k) := fun k => by show (x.kind == k && true) = _; rw [Bool.and_true]
        rw [hw, e, e]; rfl
  rw [if_neg h12] at h
  split at h
  · rename_i h20
    match l, (show l.length = 2 by simpa using h) with
    | [x, y], _ =>
      have e : ∀ k, allK [x, y] k = (x.kind == k && y.kind == k) := fun k => by show (x.kind == k && (y.kind == k && true)) = _; rw [Bool.and_true]
      by_cases h25 : o = 25 ∨ o = 26 ∨ o = 30 ∨ o = 31 ∨ o = 32 ∨ o = 33 ∨ o = 40 ∨ o = 41
      · rcases h25 with rfl | rfl | rfl | rfl | rfl | rfl | rfl | rfl
        · show whenR 1 (x.kind == 5 && y.kind == 1) = if (x.kind == 5 && y.kind == 1) = true then _ else _
          rw [hw]; rfl
        · show whenR 5 (x.kind == 5 && y.kind == 1) = if (x.kind == 5 && y.kind == 1) = true then _ else _
          rw [hw]; rfl
        · show whenR 2 (alikeB s.enums x y) = if alikeB s.enums x y = true then _ else _
          rw [hw]; rfl
        · show whenR 2 (alikeB s.enums x y) = if alikeB s.enums x y = true then _ else _
          rw [hw]; rfl
        · show whenR 2 (allK [x, y] 1 || (x.kind == 3 && y.kind == 3)) = if (allK [x, y] 1 || allK [x, y] 3) = true then _ else _
          rw [hw, e 3]; rfl
        · show whenR 2 (allK [x, y] 1 || (x.kind == 3 && y.kind == 3)) = if (allK [x, y] 1 || allK [x, y] 3) = true then _ else _
          rw [hw, e 3]; rfl
        · show whenR 2 (allK [x, y] 2) = if allK [x, y] 2 = true then _ else _
          rw [hw]; rfl
        · show whenR 2 (allK [x, y] 2) = if allK [x, y] 2 = true then _ else _
          rw [hw]; rfl
      · have : o = 20 ∨ o = 21 ∨ o = 22 ∨ o = 23 ∨ o = 24 := by omega
        rcases this with rfl | rfl | rfl | rfl | rfl
        all_goals
          show whenR 1 (allK [x, y] 1) = if allK [x, y] 1 = true then _ else _
          rw [hw]; rfl
  · cases h
end Go.Proofs.YtchjckdjkecjnaaGreatDoor.Ty
namespace Go.Proofs.YtchjckdjkecjnaaGreatDoor.Ty
open Go.RowKit
open Ex Lx
set_option linter.unusedVariables false
set_option linter.unusedSimpArgs false
def RB (w : World) (H : Nat) (k e l : Value) : Prop := w.heap[H]? = some (.cells #[k, e, l] 35 (0, 0))
section
variable {w w' : World} {H : Nat} {a b c : Value}
theorem RB.c0 (h : RB w H a b c) : w.cell? ⟨H, 0, none⟩ = some a := cell_of_row w H 0 _ _ (0, 0) h
theorem RB.c1 (h : RB w H a b c) : w.cell? ⟨H, 1, none⟩ = some b := cell_of_row w H 1 _ _ (0, 0) h
theorem RB.c2 (h : RB w H a b c) : w.cell? ⟨H, 2, none⟩ = some c := cell_of_row w H 2 _ _ (0, 0) h
theorem RB.fz (h : RB w H a b c) (j : Nat) : w.frozen? ⟨H, j, none⟩ = false := frozen_of_row w H j _ _ h
theorem RB.lt (h : RB w H a b c) : H < w.heap.size := World.block_lt_of_cell? w _ h.c0
theorem RB.later (h : RB w H a b c) (k : Below w.heap.size w w') : RB w' H a b c := (k.block H h.lt).trans h
theorem RB.put (h : RB w H a b c) (x y z : Value) : RB (((w.setCell ⟨H, 0, none⟩ x).setCell ⟨H, 1, none⟩ y).setCell ⟨H, 2, none⟩ z) H x y z :=
  heap_setCell_same _ H 2 _ _ _ (heap_setCell_same _ H 1 _ _ _ (heap_setCell_same w H 0 _ _ _ h))
end
theorem RB.new (W : World) (a b c : Value) (k : Nat) (h : W.heap.size = k) : RB (W.alloc (.cells #[a, b, c] 35)) k a b c := new_box W _ _ k h
set_option maxHeartbeats 1000000 in
theorem when_any (kd : Int) (ok : Bool) (w : World) : Calls Tryz.prog 42 #[.int .i64 kd, .bool ok] w fun e w' => e = retT (whenR kd ok) ∧ Below w.heap.size w w' := by
  have hnb := RB.new w (.int .i64 0) (.string ⟨#[]⟩) (.string ⟨#[]⟩) w.heap.size rfl
  have HBA := Lib.hid ((Below.refl w.heap.size w).alloc (Nat.le_refl _) (.cells #[.int .i64 0, .string ⟨#[]⟩, .string ⟨#[]⟩] 35))
  unfold retT
  cases ok with
  | true =>
    have HP := Lib.hid (hnb.put (.int .i64 kd) (.string ⟨#[]⟩) (.string ⟨#[]⟩))
    clear hnb
    go_enter Tryz.func42, Tryz.ntmps42
    go_wp2_with fail
    have d0 := HP.out.c0
    have d1 := HP.out.c1
    have d2 := HP.out.c2
    exact bodyPost_ret (v := .tuple #[.agg #[.int .i64 kd, .string ⟨#[]⟩, .string ⟨#[]⟩], .int .i64 0]) (by simp [results, d0, d1, d2, Tryz.results42, go_sem]) rfl ⟨rfl, (Below.refl w.heap.size w).alloc (Nat.le_refl _) _⟩
  | false =>
    have HP := Lib.hid (hnb.put (.int .i64 0) (.string ⟨#[]⟩) (.string ⟨#[]⟩))
    clear hnb
    go_enter Tryz.func42, Tryz.ntmps42
    go_wp2_with fail
    have d0 := HP.out.c0
    have d1 := HP.out.c1
    have d2 := HP.out.c2
    exact bodyPost_ret (v := .tuple #[.agg #[.int .i64 0, .string ⟨#[]⟩, .string ⟨#[]⟩], .int .i64 23]) (by simp [results, d0, d1, d2, Tryz.results42, go_sem]) rfl ⟨rfl, (Below.refl w.heap.size w).alloc (Nat.le_refl _) _⟩
theorem named_miss (l : List AttrP) (n : List UInt8) (h : ∀ j, (h : j < l.length) → (l[j].name == n) = false) : namedTy l n = (TT.zero, 20) := by
  have e := fst_miss (fun x : AttrP => x.name == n) l (fun j hj => h j hj)
  rcases named_idx l n with ⟨_, h2⟩ | ⟨k, hk, h1, h2⟩
  · exact h2
  · rw [e] at h1; omega
theorem named_hit (l : List AttrP) (n : List UInt8) (k : Nat) (hk : k < l.length) (h : ∀ j, (h : j < l.length) → j < k → (l[j].name == n) = false) (hp : (l[k].name == n) = true) : namedTy l n = (⟨l[k].kind, l[k].enum, []⟩, 0) := by
  have e := fst_hit (fun x : AttrP => x.name == n) l k hk (fun j hj => h j (by omega) hj) hp
  rcases named_idx l n with ⟨h1, _⟩ | ⟨k', hk', h1, h2⟩
  · rw [e] at h1; omega
  · rw [e] at h1
    have : k' = k := by omega
    subst this
    exact h2
set_option maxRecDepth 100000 in
set_option maxHeartbeats 4000000 in
theorem rnamed_any (l : List AttrP) (n : List UInt8) (p : Option Addr) (c : Nat) (w : World) (hl : AttrsAt w p l) (hlen : l.length ≤ 281474976710656) :
    Calls Tryz.prog 43 #[.slice p l.length c, .string (S n)] w fun e w' => e = retT (namedTy l n) ∧ Below w.heap.size w w' := by
  have hki : (l.length : Int) ≤ 281474976710656 := by omega
  obtain ⟨W0, hW0⟩ : ∃ W0, W0 = w.alloc (.cells #[.int .i64 0, .string ⟨#[]⟩, .string ⟨#[]⟩] 35) := ⟨_, rfl⟩
  have hb0 : Below w.heap.size w W0 := by rw [hW0]; exact (Below.refl w.heap.size w).alloc (Nat.le_refl _) _
  have hnb : RB W0 w.heap.size (.int .i64 0) (.string ⟨#[]⟩) (.string ⟨#[]⟩) := by rw [hW0]; exact RB.new w _ _ _ _ rfl
  have HNB := Lib.hid hnb
  have HL := Lib.hid (hl.later hb0)
  have HB0 := Lib.hid hb0
  have HW0 := Lib.hid hW0
  clear hl hW0 hb0 hnb
  unfold retT
  go_enter Tryz.func43, Tryz.ntmps43
  go_wp2_with fail
  rw [← HW0.out]
  go_loopw [10] (fun iv wr => ∃ k : Nat, k ≤ l.length ∧ iv = .int .i64 k ∧ (∀ j, (h : j < l.length) → j < k → (l[j].name == n) = false) ∧ Below W0.heap.size W0 wr) (fun iv _ => l.length - (intOf iv).toNat)
  case atStart => exact ⟨0, Nat.zero_le _, rfl, fun j _ h => absurd h (Nat.not_lt_zero _), Below.refl _ _⟩
  case round =>
    obtain ⟨k, hk, rfl, hA, hb⟩ := hrel
    have A := Lib.hid hA
    have BW := Lib.hid hb
    have BT := Lib.hid (HB0.out.trans (hb.mono HB0.out.size))
    clear hA
    by_cases hlt : k < l.length
    · have hlti : (k : Int) < (l.length : Int) := by omega
      obtain ⟨b, o, rfl, hbl, f0, f1, f2⟩ := (HL.out.later hb) k hlt
      obtain ⟨y, hy⟩ : ∃ y, y = l[k] := ⟨_, rfl⟩
      rw [← hy] at f0 f1 f2
      have HY := Lib.hid hy
      clear hy
      have hba := (Below.refl wr.heap.size wr).alloc (Nat.le_refl _) (.cells #[.string (S y.name), .int .i64 y.kind, .string (S y.enum)] 42)
      have HBA := Lib.hid (hb.trans (hba.mono hb.size))
      have HBT := Lib.hid (BT.out.trans (hba.mono BT.out.size))
      have hnb := (HNB.out.later hb).later hba
      cases hp : (y.name == n) with
      | true =>
        have t1 : ((S y.name).toList == (S n).toList) = true := by rw [S_beq]; exact hp
        have fz := hnb.fz
        have HP := Lib.hid (hnb.put (.int .i64 y.kind) (.string (S y.enum)) (.string ⟨#[]⟩))
        have HR := Lib.hid (named_hit l n k hlt A.out (by rw [← HY.out]; exact hp))
        rw [← HY.out] at HR
        have k0 := hnb.c0
        have k1 := hnb.c1
        have k2 := hnb.c2
        clear hb hba hnb hp
        go_wp2_with fail
        have d0 := HP.out.c0
        have d1 := HP.out.c1
        have d2 := HP.out.c2
        (try simp only [Exit.inBlock, Exit.then])
        exact bodyPost_ret (v := .tuple #[.agg #[.int .i64 y.kind, .string (S y.enum), .string ⟨#[]⟩], .int .i64 0]) (by simp [results, d0, d1, d2, Tryz.results43, go_sem]) rfl ⟨by rw [HR.out]; rfl, ((HBT.out.setCell (p := ⟨w.heap.size, 0, none⟩) (by simp) _).setCell (p := ⟨w.heap.size, 1, none⟩) (by simp) _).setCell (p := ⟨w.heap.size, 2, none⟩) (by simp) _⟩
      | false =>
        have t1 : ((S y.name).toList == (S n).toList) = false := by rw [S_beq]; exact hp
        have HP := Lib.hid hp
        clear hb hba hnb hp
        go_wp2_with fail
        go_roundw
        case rel => exact ⟨k + 1, by omega, by go_num, fun j hj hjk => by
          by_cases e : j = k
          · subst e; rw [← HY.out]; exact HP.out
          · exact A.out j hj (by omega), HBA.out⟩
        case measure => simp [intOf]; omega
    · have hlti : ¬ (k : Int) < (l.length : Int) := by omega
      have hnb := HNB.out.later hb
      have fz := hnb.fz
      have k0 := hnb.c0
      have k1 := hnb.c1
      have k2 := hnb.c2
      have HP := Lib.hid (hnb.put (.int .i64 0) (.string ⟨#[]⟩) (.string ⟨#[]⟩))
      have HR := Lib.hid (named_miss l n (fun j hj => A.out j hj (by omega)))
      clear hb hnb
      go_wp2_with fail
      have d0 := HP.out.c0
      have d1 := HP.out.c1
      have d2 := HP.out.c2
      (try simp only [Exit.inBlock, Exit.then])
      exact bodyPost_ret (v := .tuple #[.agg #[.int .i64 0, .string ⟨#[]⟩, .string ⟨#[]⟩], .int .i64 20]) (by simp [results, d0, d1, d2, Tryz.results43, go_sem]) rfl ⟨by rw [HR.out]; rfl, ((BT.out.setCell (p := ⟨w.heap.size, 0, none⟩) (by simp) _).setCell (p := ⟨w.heap.size, 1, none⟩) (by simp) _).setCell (p := ⟨w.heap.size, 2, none⟩) (by simp) _⟩
theorem has_miss (l : List EnumP) (n s : List UInt8) (h : ∀ j, (h : j < l.length) → (l[j].name == n) = false) : hasB l n s = false := by
  have e := fst_miss (fun x : EnumP => x.name == n) l (fun j hj => h j hj)
  rcases has_idx l n s with ⟨_, h2⟩ | ⟨k, hk, h1, h2⟩
  · exact h2
  · rw [e] at h1; omega
theorem has_hit (l : List EnumP) (n s : List UInt8) (k : Nat) (hk : k < l.length) (h : ∀ j, (h : j < l.length) → j < k → (l[j].name == n) = false) (hp : (l[k].name == n) = true) : hasB l n s = l[k].syms.any (fun x => s == x) := by
  have e := fst_hit (fun x : EnumP => x.name == n) l k hk (fun j hj => h j (by omega) hj) hp
  rcases has_idx l n s with ⟨h1, _⟩ | ⟨k', hk', h1, h2⟩
  · rw [e] at h1; omega
  · rw [e] at h1
    have : k' = k := by omega
    subst this
    exact h2
set_option maxRecDepth 100000 in
set_option maxHeartbeats 4000000 in
theorem among_any (l : List EnumP) (n s : List UInt8) (p : Option Addr) (c : Nat) (w : World) (hl : EnumsAt w p l) (hlen : l.length ≤ 281474976710656) (hsy : ∀ e ∈ l, e.syms.length ≤ 281474976710656) :
    Calls Tryz.prog 76 #[.slice p l.length c, .string (S n), .string (S s)] w fun e w' => e = .returned (.bool (hasB l n s)) ∧ Below w.heap.size w w' := by
  have hki : (l.length : Int) ≤ 281474976710656 := by omega
  have HL := Lib.hid hl
  have HSY := Lib.hid hsy
  clear hl hsy
  go_enter Tryz.func76, Tryz.ntmps76
  go_wp2_with fail
  go_loopw [13] (fun iv wr => ∃ k : Nat, k ≤ l.length ∧ iv = .int .i64 k ∧ (∀ j, (h : j < l.length) → j < k → (l[j].name == n) = false) ∧ Below w.heap.size w wr) (fun iv _ => l.length - (intOf iv).toNat)
  case atStart => exact ⟨0, Nat.zero_le _, rfl, fun j _ h => absurd h (Nat.not_lt_zero _), Below.refl _ _⟩
  case round =>
    obtain ⟨k, hk, rfl, hA, hb⟩ := hrel
    have A := Lib.hid hA
    have BW := Lib.hid hb
    clear hA
    by_cases hlt : k < l.length
    · have hlti : (k : Int) < (l.length : Int) := by omega
      obtain ⟨b, o, q, cc, rfl, hbl, f0, f1, fs⟩ := (HL.out.later hb) k hlt
      have hsl := HSY.out l[k] (List.getElem_mem hlt)
      obtain ⟨y, hy⟩ : ∃ y, y = l[k] := ⟨_, rfl⟩
      rw [← hy] at f0 f1 fs hsl
      have HY := Lib.hid hy
      clear hy
      have hsi : (y.syms.length : Int) ≤ 281474976710656 := by omega
      have hba := (Below.refl wr.heap.size wr).alloc (Nat.le_refl _) (.cells #[.string (S y.name), .slice q y.syms.length cc] 73)
      have HBA := Lib.hid (hb.trans (hba.mono hb.size))
      have HFS := Lib.hid (fs.later hba)
      cases hp : (y.name == n) with
      | true =>
        have t1 : ((S y.name).toList == (S n).toList) = true := by rw [S_beq]; exact hp
        have HR := Lib.hid (has_hit l n s k hlt A.out (by rw [← HY.out]; exact hp))
        rw [← HY.out] at HR
        clear hb hba hp fs
        go_wp2_with fail
        go_loop [24] (fun jv => ∃ m : Nat, m ≤ y.syms.length ∧ jv = .int .i64 m ∧ ∀ j, (h : j < y.syms.length) → j < m → (s == y.syms[j]) = false) (fun jv => y.syms.length - (intOf jv).toNat)
        case atStart => exact ⟨0, Nat.zero_le _, rfl, fun j _ h => absurd h (Nat.not_lt_zero _)⟩
        case round =>
          obtain ⟨m, hm, rfl, hM⟩ := hrel
          have M := Lib.hid hM
          clear hM
          by_cases hml : m < y.syms.length
          · have hmli : (m : Int) < (y.syms.length : Int) := by omega
            obtain ⟨b2, o2, rfl, hb2, g0⟩ := HFS.out m hml
            obtain ⟨z, hz⟩ : ∃ z, z = y.syms[m] := ⟨_, rfl⟩
            rw [← hz] at g0
            have HZ := Lib.hid hz
            clear hz
            cases hq : (s == z) with
            | true =>
              have t2 : ((S z).toList == (S s).toList) = true := by rw [S_beq]; exact (Bool.beq_comm (a := z) (b := s)).trans hq
              have hany : y.syms.any (fun x => s == x) = true := by
                rw [List.any_eq_true]
                exact ⟨y.syms[m], List.getElem_mem hml, by rw [← HZ.out]; exact hq⟩
              have HN := Lib.hid hany
              clear hq hany
              go_wp2_with fail
              go_ret
              exact ⟨by rw [HR.out, HN.out]; rfl, HBA.out⟩
            | false =>
              have t2 : ((S z).toList == (S s).toList) = false := by rw [S_beq]; exact (Bool.beq_comm (a := z) (b := s)).trans hq
              have HQ := Lib.hid hq
              clear hq
              go_wp2_with fail
              go_round
              case rel => exact ⟨m + 1, by omega, by go_num, fun j hj hjk => by
                by_cases e : j = m
                · subst e; rw [← HZ.out]; exact HQ.out
                · exact M.out j hj (by omega)⟩
              case measure => simp [intOf]; omega
          · have hmli : ¬ (m : Int) < (y.syms.length : Int) := by omega
            have hany : y.syms.any (fun x => s == x) = false := by
              rw [List.any_eq_false]
              intro x hx
              obtain ⟨j, hj, rfl⟩ := List.getElem_of_mem hx
              rw [M.out j hj (by omega)]; decide
            have HN := Lib.hid hany
            clear hany
            go_wp2_with fail
            go_ret
            exact ⟨by rw [HR.out, HN.out]; rfl, HBA.out⟩
      | false =>
        have t1 : ((S y.name).toList == (S n).toList) = false := by rw [S_beq]; exact hp
        have HP := Lib.hid hp
        clear hb hba hp fs
        go_wp2_with fail
        go_roundw
        case rel => exact ⟨k + 1, by omega, by go_num, fun j hj hjk => by
          by_cases e : j = k
          · subst e; rw [← HY.out]; exact HP.out
          · exact A.out j hj (by omega), HBA.out⟩
        case measure => simp [intOf]; omega
    · have hlti : ¬ (k : Int) < (l.length : Int) := by omega
      have HR := Lib.hid (has_miss l n s (fun j hj => A.out j hj (by omega)))
      clear hb
      go_wp2_with fail
      go_ret
      exact ⟨by rw [HR.out]; rfl, BW.out⟩
end Go.Proofs.YtchjckdjkecjnaaGreatDoor.Ty
namespace Go.Proofs.YtchjckdjkecjnaaGreatDoor.Ty
open Go.RowKit
open Ex Lx
set_option linter.unusedVariables false
set_option linter.unusedSimpArgs false
set_option maxRecDepth 100000 in
set_option maxHeartbeats 4000000 in
theorem ralike_any (l : List EnumP) (a b : TT) (p : Option Addr) (c : Nat) (w : World) (hl : EnumsAt w p l) (hlen : l.length ≤ 281474976710656) (hsy : ∀ e ∈ l, e.syms.length ≤ 281474976710656) :
    Calls Tryz.prog 44 #[.slice p l.length c, .agg #[.int .i64 a.kind, .string (S a.enum), .string (S a.lit)], .agg #[.int .i64 b.kind, .string (S b.enum), .string (S b.lit)]] w fun e w' => e = .returned (.bool (alikeB l a b)) ∧ Below w.heap.size w w' := by
  obtain ⟨ka, ea, la⟩ := a
  obtain ⟨kb, eb, lb⟩ := b
  simp only
  have hba := ((Below.refl w.heap.size w).alloc (Nat.le_refl _) (.cells #[.int .i64 ka, .string (S ea), .string (S la)] 35)).alloc (by simp) (.cells #[.int .i64 kb, .string (S eb), .string (S lb)] 35)
  have HH := Lib.hid (fun n s => among_any l n s p c _ (hl.later hba) hlen hsy)
  have hA := (RB.new w (.int .i64 ka) (.string (S ea)) (.string (S la)) w.heap.size rfl).later ((Below.refl _ _).alloc (Nat.le_refl _) (.cells #[.int .i64 kb, .string (S eb), .string (S lb)] 35))
  have hB := RB.new (w.alloc (.cells #[.int .i64 ka, .string (S ea), .string (S la)] 35)) (.int .i64 kb) (.string (S eb)) (.string (S lb)) (w.heap.size + 1) (by simp)
  have HA := Lib.hid hA
  have HB := Lib.hid hB
  have HBA := Lib.hid hba
  clear hl hba hA hB
  unfold alikeB
  simp only
  by_cases hk : ka = kb
  · rw [if_neg (by simpa using hk)]
    subst hk
    by_cases h4 : ka = 4
    · rw [if_neg (by simpa using h4)]
      subst h4
      cases la with
      | cons ca ra =>
        have na := nonempty_a ca ra
        have na2 := nonempty_b ca ra
        cases lb with
        | cons cb rb =>
          have nb := nonempty_a cb rb
          have nb2 := nonempty_b cb rb
          rw [if_pos (by simp)]
          generalize S (ca :: ra) = Sa at *
          generalize S (cb :: rb) = Sb at *
          go_enter Tryz.func44, Tryz.ntmps44
          go_wp2_with fail
          go_ret
          exact ⟨rfl, HBA.out⟩
        | nil =>
          have e0 := nil_list
          have e1 := nil_empty
          rw [if_neg (by simp), if_pos (by simp)]
          have HC := Lib.hid (HH.out eb (ca :: ra))
          generalize hasB l eb (ca :: ra) = r at *
          generalize S (ca :: ra) = Sa at *
          cases r
          all_goals
            go_enter Tryz.func44, Tryz.ntmps44
            go_wp2_with fail
            refine HC.out.mono ?_
            rintro e w1 ⟨rfl, b1⟩
            have HB1 := Lib.hid (HBA.out.trans (b1.mono HBA.out.size))
            have hA := HA.out.later b1
            have hB := HB.out.later b1
            have p0 := hA.c0
            have p1 := hA.c1
            have p2 := hA.c2
            have q0 := hB.c0
            have q1 := hB.c1
            have q2 := hB.c2
            clear b1 hA hB
            go_wp2_with fail
            go_ret
            exact ⟨rfl, HB1.out⟩
      | nil =>
        have e0 := nil_list
        have e1 := nil_empty
        cases lb with
        | cons cb rb =>
          have nb := nonempty_a cb rb
          have nb2 := nonempty_b cb rb
          rw [if_neg (by simp), if_neg (by simp), if_pos (by simp)]
          have HC := Lib.hid (HH.out ea (cb :: rb))
          generalize hasB l ea (cb :: rb) = r at *
          generalize S (cb :: rb) = Sb at *
          cases r
          all_goals
            go_enter Tryz.func44, Tryz.ntmps44
            go_wp2_with fail
            refine HC.out.mono ?_
            rintro e w1 ⟨rfl, b1⟩
            have HB1 := Lib.hid (HBA.out.trans (b1.mono HBA.out.size))
            have hA := HA.out.later b1
            have hB := HB.out.later b1
            have p0 := hA.c0
            have p1 := hA.c1
            have p2 := hA.c2
            have q0 := hB.c0
            have q1 := hB.c1
            have q2 := hB.c2
            clear b1 hA hB
            go_wp2_with fail
            go_ret
            exact ⟨rfl, HB1.out⟩
        | nil =>
          rw [if_neg (by simp), if_neg (by simp), if_neg (by simp)]
          go_enter Tryz.func44, Tryz.ntmps44
          go_wp2_with fail
          go_ret
          exact ⟨by first | rfl | (rw [S_beq]; rfl), HBA.out⟩
    · rw [if_pos (by simpa using h4)]
      have h4b : (ka == 4) = false := by simpa using h4
      go_enter Tryz.func44, Tryz.ntmps44
      go_wp2_with fail
      go_ret
      exact ⟨rfl, HBA.out⟩
  · rw [if_pos (by simpa using hk)]
    have hkb : (ka == kb) = false := by simpa using hk
    have hkc : (ka != kb) = true := by simpa using hk
    go_enter Tryz.func44, Tryz.ntmps44
    go_wp2_with fail
    go_ret
    exact ⟨rfl, HBA.out⟩
end Go.Proofs.YtchjckdjkecjnaaGreatDoor.Ty
namespace Go.Proofs.YtchjckdjkecjnaaGreatDoor.Ty
open Go.RowKit
open Ex Lx
def rttC (l : List TT) : List Value := l.flatMap fun a => [.int .i64 a.kind, .string (S a.enum), .string (S a.lit)]
theorem infoR : (Tryz.prog.info? 35).map (fun i => (i.zero, i.size, i.bytes)) = some (some (.agg #[.int .i64 0, .string ⟨#[]⟩, .string ⟨#[]⟩]), 3, 40) := by kernel_rfl
theorem own_later {B n size : Nat} {e : TypeId} {v : Value} {xs : List Value} {w w' : World} (h : w.ownsRow B e size v n xs) (k : Below w.heap.size w w') : w'.ownsRow B e size v n xs :=
  ⟨h.1, h.2.elim (fun x => .inl x) (fun ⟨g, cap, cur, e1, hB, hg, r⟩ => .inr ⟨g, cap, cur, e1, hB, (k.block g (Array.getElem?_eq_some_iff.1 hg).1).trans hg, r⟩)⟩
theorem app_rtt (B : Nat) (q : Option Addr) (d : List TT) (cap : Nat) (w : World) (h : w.ownsRow B 35 3 (.slice q d.length cap) d.length (rttC d)) (hB : B ≤ w.heap.size) (hn : d.length ≤ 100000) (s : TT) (H : Nat) (hH : w.heap.size = H) :
    ∃ q' cap' w', (Builtin.append_ #[106, 106] 106 #[.slice q d.length cap, .slice (some ⟨H, 0, none⟩) 1 1]).run Tryz.prog (w.alloc (.cells #[.int .i64 s.kind, .string (S s.enum), .string (S s.lit)] 35)) = .ok (.slice q' (d ++ [s]).length cap') w' ∧
      w'.ownsRow B 35 3 (.slice q' (d ++ [s]).length cap') (d ++ [s]).length (rttC (d ++ [s])) ∧ Below B w w' ∧ Kept (fun g => some g ≠ (Value.slice q d.length cap).ownBlock) w w' := by
  subst hH
  obtain ⟨i0, hi, hz0, hz1, hz2⟩ := info_parts infoR
  have hown := World.ownsRow.alloc h (.cells #[.int .i64 s.kind, .string (S s.enum), .string (S s.lit)] 35)
  have hnews : ∀ j u, [Value.int .i64 s.kind, .string (S s.enum), .string (S s.lit)][j]? = some u → (w.alloc (.cells #[.int .i64 s.kind, .string (S s.enum), .string (S s.lit)] 35)).cell? ((⟨w.heap.size, 0, none⟩ : Addr).add j) = some u := by
    intro j u hj
    have hadd : (⟨w.heap.size, 0, none⟩ : Addr).add j = ⟨w.heap.size, j, none⟩ := by unfold Addr.add; split <;> simp_all
    rw [hadd, cell_of_row _ w.heap.size j _ _ (0, 0) (heap_alloc_new w _)]
    simpa using hj
  have h1 : ∀ u ∈ [Value.int .i64 s.kind, .string (S s.enum), .string (S s.lit)], u.oneCell' = true := by
    intro u hu
    simp only [List.mem_cons, List.not_mem_nil, or_false] at hu
    rcases hu with rfl | rfl | rfl <;> rfl
  obtain ⟨v', w', hr, h2, h3, _, h5⟩ := run_append_own_at (P := Tryz.prog) (w.alloc (.cells #[.int .i64 s.kind, .string (S s.enum), .string (S s.lit)] 35)) B 106 106 35 i0 _ 3 40 Tryz.underlying106 hi hz0 hz1 hz2 rfl (by decide) (.slice q d.length cap) d.length (rttC d) hown ⟨w.heap.size, 0, none⟩ 1 1 [Value.int .i64 s.kind, .string (S s.enum), .string (S s.lit)] rfl hnews h1 (by unfold maxLen; omega) (by omega) (by simp; omega)
  have hsz := h3.size
  simp at hsz
  have hlen : (d ++ [s]).length = d.length + 1 := by simp
  have hcs : rttC (d ++ [s]) = rttC d ++ [Value.int .i64 s.kind, .string (S s.enum), .string (S s.lit)] := by simp [rttC]
  rw [hlen, hcs]
  rcases h2.2 with ⟨_, h0⟩ | ⟨g, cap2, cur, rfl, r⟩
  · omega
  · refine ⟨_, _, w', hr, h2, ((Below.refl _ _).alloc hB _).grown h3 (by simp; omega) (fun k hk => (World.ownsRow.lt h k hk).1), ?_⟩
    exact (Kept.alloc w _).trans (Kept.of_grown h3 (fun g hg => hg))
theorem rttC_get : ∀ (l : List TT) (i : Nat) (h : i < l.length), (rttC l)[i * 3]? = some (.int .i64 l[i].kind) ∧ (rttC l)[i * 3 + 1]? = some (.string (S l[i].enum)) ∧ (rttC l)[i * 3 + 2]? = some (.string (S l[i].lit))
  | a :: r, 0, _ => ⟨rfl, rfl, rfl⟩
  | a :: r, i + 1, h => by
    have e : rttC (a :: r) = .int .i64 a.kind :: .string (S a.enum) :: .string (S a.lit) :: rttC r := rfl
    have := rttC_get r i (by simpa using h)
    rw [e, show (i + 1) * 3 = i * 3 + 1 + 1 + 1 by omega]
    simpa using this
theorem TTsAt.of_own {w : World} {B : Nat} {q : Option Addr} {d : List TT} {cap : Nat} (h : w.ownsRow B 35 3 (.slice q d.length cap) d.length (rttC d)) : TTsAt w q d := fun i hi => by
  rcases h.2 with ⟨_, h0⟩ | ⟨g, cap2, cur, e, hB, hg, r⟩
  · omega
  · injection e with e1 _ _
    subst e1
    have hadd : ∀ j, (⟨g, 0, none⟩ : Addr).add j = ⟨g, j, none⟩ := fun j => by unfold Addr.add; split <;> simp_all
    obtain ⟨h0, h1, h2⟩ := rttC_get d i hi
    have c := fun j u (hu : (rttC d)[j]? = some u) => World.ownsRow.cells h (g := g) rfl j u hu
    refine ⟨g, 0, rfl, (Array.getElem?_eq_some_iff.1 hg).1, ?_, ?_, ?_⟩
    · have := c _ _ h0; rw [hadd] at this; rw [Nat.zero_add]; exact this
    · have := c _ _ h1; rw [hadd] at this; rw [Nat.zero_add]; exact this
    · have := c _ _ h2; rw [hadd] at this; rw [Nat.zero_add]; exact this
theorem allK_app (d : List TT) (x : TT) (k : Int) : allK (d ++ [x]) k = (allK d k && (x.kind == k)) := by simp [allK]
end Go.Proofs.YtchjckdjkecjnaaGreatDoor.Ty
