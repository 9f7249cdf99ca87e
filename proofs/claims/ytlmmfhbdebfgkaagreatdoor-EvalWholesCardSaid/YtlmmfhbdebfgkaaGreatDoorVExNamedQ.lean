/-
  ExNamed, ExCons, ExFormed, ExFormd.
-/
import Derived.Test.YtlmmfhbdebfgkaaGreatDoorVExTakenQ
import Derived.Test.YtlmmfhbdebfgkaaGreatDoorVExResQ
import Derived.Deep.MidRow
import Derived.Deep.RegionWith
set_option linter.unusedVariables false
set_option linter.unusedSimpArgs false
set_option maxRecDepth 100000
set_option maxHeartbeats 8000000
namespace Go.Proofs.YtlmmfhbdebfgkaaGreatDoor.Ex
open Go.RowKit
open Lx
theorem named_any (op num : Int) (t : List UInt8) (q : Option Addr) (k c : Nat) (ht : t.length ≤ 9223372036854775807) (w : World) :
    Calls Tryz.prog 35 #[.agg #[.int .i64 op, .int .i64 num, .string (S t), .slice q k c]] w fun e w' => e = .returned (.bool (namedB op t)) ∧ Below w.heap.size w w' := by
  have HNM := Lib.hid (fun (w1 : World) => show Calls Tryz.prog 64 #[.string (S t)] w1 fun e w' => e = .returned (.bool (Va.nameB t)) ∧ Below w1.heap.size w1 w' from by
    have := Va.Name_any (S t) (by rw [S_size]; exact ht) w1
    rw [S_toList] at this
    exact this)
  have HTK := Lib.hid (fun (w1 : World) => taken_any t w1)
  have HB0 := Lib.hid ((Below.refl w.heap.size w).alloc (Nat.le_refl _) (.cells #[.int .i64 op, .int .i64 num, .string (S t), .slice q k c] 24))
  have HX0 := Lib.hid (Bx.new w (.int .i64 op) (.int .i64 num) (.string (S t)) (.slice q k c))
  clear ht
  unfold namedB
  by_cases h4 : op = 4
  · subst h4
    simp only [beq_self_eq_true, Bool.true_or, Bool.not_true, Bool.false_or]
    go_enter Tryz.func35, Tryz.ntmps35
    go_wp2_with fail
    refine (HNM.out _).mono ?_
    rintro e w1 ⟨rfl, b1⟩
    have HB1 := Lib.hid (HB0.out.trans (b1.mono (by simp)))
    clear b1
    go_wp2_with fail
    go_ret
    exact ⟨by simp, HB1.out⟩
  · by_cases h7 : op = 7
    · subst h7
      go_enter Tryz.func35, Tryz.ntmps35
      go_wp2_with fail
      refine (HNM.out _).mono ?_
      rintro e w1 ⟨rfl, b1⟩
      have HB1 := Lib.hid (HB0.out.trans (b1.mono (by simp)))
      clear b1
      go_wp2_with fail
      go_ret
      exact ⟨by simp, HB1.out⟩
    · by_cases h6 : op = 6
      · subst h6
        cases hnm : Va.nameB t with
        | true =>
          rw [hnm] at HNM
          go_enter Tryz.func35, Tryz.ntmps35
          go_wp2_with fail
          refine (HNM.out _).mono ?_
          rintro e w1 ⟨rfl, b1⟩
          have hx := HX0.out.keep (Kept.of_below (ok := fun _ => True) b1) trivial
          have p2 := hx.c2
          have HB1 := Lib.hid (HB0.out.trans (b1.mono (by simp)))
          clear b1 hx
          go_wp2_with fail
          refine (HTK.out _).mono ?_
          rintro e w2 ⟨rfl, rfl⟩
          go_wp2_with fail
          go_ret
          exact ⟨by simp, HB1.out⟩
        | false =>
          rw [hnm] at HNM
          go_enter Tryz.func35, Tryz.ntmps35
          go_wp2_with fail
          refine (HNM.out _).mono ?_
          rintro e w1 ⟨rfl, b1⟩
          have HB1 := Lib.hid (HB0.out.trans (b1.mono (by simp)))
          clear b1
          go_wp2_with fail
          go_ret
          exact ⟨by simp, HB1.out⟩
      · have e4 : (op == 4) = false := by rw [beq_eq_false_iff_ne]; exact h4
        have e7 : (op == 7) = false := by rw [beq_eq_false_iff_ne]; exact h7
        have e6 : (op == 6) = false := by rw [beq_eq_false_iff_ne]; exact h6
        go_enter Tryz.func35, Tryz.ntmps35
        go_wp2_with fail
        go_ret
        exact ⟨by simp [e4, e7, e6], HB0.out⟩
end Go.Proofs.YtlmmfhbdebfgkaaGreatDoor.Ex
namespace Go.Proofs.YtlmmfhbdebfgkaaGreatDoor.Ex
open Go.RowKit
open Lx
structure Con where
  word : List UInt8
  op : Int
  level : Int
  operands : Int
  turned : Bool
def conL : List Con := [⟨[124, 124], 41, 0, 2, false⟩, ⟨[38, 38], 40, 1, 2, false⟩, ⟨[61, 61], 30, 2, 2, false⟩, ⟨[33, 61], 31, 2, 2, false⟩, ⟨[60], 32, 2, 2, false⟩, ⟨[60, 61], 33, 2, 2, false⟩, ⟨[62], 32, 2, 2, true⟩, ⟨[62, 61], 33, 2, 2, true⟩,
  ⟨[43], 23, 3, 2, false⟩, ⟨[45], 24, 3, 2, false⟩, ⟨[42], 20, 4, 2, false⟩, ⟨[47], 21, 4, 2, false⟩, ⟨[37], 22, 4, 2, false⟩, ⟨[33], 10, 5, 1, false⟩, ⟨[45], 11, 5, 1, false⟩, ⟨[108, 101, 110], 12, 6, 1, false⟩, ⟨[97, 116], 25, 6, 2, false⟩, ⟨[112, 117, 115, 104], 26, 6, 2, false⟩]
def con0 : Con := ⟨[], 0, 0, 0, false⟩
def Con.cells (c : Con) : List Value := [.string (S c.word), .int .i64 c.op, .int .i64 c.level, .int .i64 c.operands, .bool c.turned]
def conC : List Value := conL.flatMap Con.cells
def ConsAt (w : World) : Prop := w.rangeAt 0 0 conC ∧ 0 < w.heap.size
theorem ConsAt.keep {w w' : World} {ok : Nat → Prop} (h : ConsAt w) (k : Kept ok w w') (hg : ok 0) : ConsAt w' :=
  ⟨fun j v hv => (k.cell (j := 0 + j) hg h.2).trans (h.1 j v hv), Nat.lt_of_lt_of_le h.2 k.size⟩
def conAt (k : Nat) : Con := conL.getD k con0
theorem con_idx_0 (w : World) : (Instr.index 135 (.agg conC.toArray) (.int .i64 0)).run Tryz.prog w = .ok (.agg #[.string (S [124, 124]), .int .i64 41, .int .i64 0, .int .i64 2, .bool false]) w := by kernel_rfl
theorem con_idx_1 (w : World) : (Instr.index 135 (.agg conC.toArray) (.int .i64 1)).run Tryz.prog w = .ok (.agg #[.string (S [38, 38]), .int .i64 40, .int .i64 1, .int .i64 2, .bool false]) w := by kernel_rfl
theorem con_idx_2 (w : World) : (Instr.index 135 (.agg conC.toArray) (.int .i64 2)).run Tryz.prog w = .ok (.agg #[.string (S [61, 61]), .int .i64 30, .int .i64 2, .int .i64 2, .bool false]) w := by kernel_rfl
theorem con_idx_3 (w : World) : (Instr.index 135 (.agg conC.toArray) (.int .i64 3)).run Tryz.prog w = .ok (.agg #[.string (S [33, 61]), .int .i64 31, .int .i64 2, .int .i64 2, .bool false]) w := by kernel_rfl
theorem con_idx_4 (w : World) : (Instr.index 135 (.agg conC.toArray) (.int .i64 4)).run Tryz.prog w = .ok (.agg #[.string (S [60]), .int .i64 32, .int .i64 2, .int .i64 2, .bool false]) w := by kernel_rfl
theorem con_idx_5 (w : World) : (Instr.index 135 (.agg conC.toArray) (.int .i64 5)).run Tryz.prog w = .ok (.agg #[.string (S [60, 61]), .int .i64 33, .int .i64 2, .int .i64 2, .bool false]) w := by kernel_rfl
theorem con_idx_6 (w : World) : (Instr.index 135 (.agg conC.toArray) (.int .i64 6)).run Tryz.prog w = .ok (.agg #[.string (S [62]), .int .i64 32, .int .i64 2, .int .i64 2, .bool true]) w := by kernel_rfl
theorem con_idx_7 (w : World) : (Instr.index 135 (.agg conC.toArray) (.int .i64 7)).run Tryz.prog w = .ok (.agg #[.string (S [62, 61]), .int .i64 33, .int .i64 2, .int .i64 2, .bool true]) w := by kernel_rfl
theorem con_idx_8 (w : World) : (Instr.index 135 (.agg conC.toArray) (.int .i64 8)).run Tryz.prog w = .ok (.agg #[.string (S [43]), .int .i64 23, .int .i64 3, .int .i64 2, .bool false]) w := by kernel_rfl
theorem con_idx_9 (w : World) : (Instr.index 135 (.agg conC.toArray) (.int .i64 9)).run Tryz.prog w = .ok (.agg #[.string (S [45]), .int .i64 24, .int .i64 3, .int .i64 2, .bool false]) w := by kernel_rfl
theorem con_idx_10 (w : World) : (Instr.index 135 (.agg conC.toArray) (.int .i64 10)).run Tryz.prog w = .ok (.agg #[.string (S [42]), .int .i64 20, .int .i64 4, .int .i64 2, .bool false]) w := by kernel_rfl
theorem con_idx_11 (w : World) : (Instr.index 135 (.agg conC.toArray) (.int .i64 11)).run Tryz.prog w = .ok (.agg #[.string (S [47]), .int .i64 21, .int .i64 4, .int .i64 2, .bool false]) w := by kernel_rfl
theorem con_idx_12 (w : World) : (Instr.index 135 (.agg conC.toArray) (.int .i64 12)).run Tryz.prog w = .ok (.agg #[.string (S [37]), .int .i64 22, .int .i64 4, .int .i64 2, .bool false]) w := by kernel_rfl
theorem con_idx_13 (w : World) : (Instr.index 135 (.agg conC.toArray) (.int .i64 13)).run Tryz.prog w = .ok (.agg #[.string (S [33]), .int .i64 10, .int .i64 5, .int .i64 1, .bool false]) w := by kernel_rfl
theorem con_idx_14 (w : World) : (Instr.index 135 (.agg conC.toArray) (.int .i64 14)).run Tryz.prog w = .ok (.agg #[.string (S [45]), .int .i64 11, .int .i64 5, .int .i64 1, .bool false]) w := by kernel_rfl
theorem con_idx_15 (w : World) : (Instr.index 135 (.agg conC.toArray) (.int .i64 15)).run Tryz.prog w = .ok (.agg #[.string (S [108, 101, 110]), .int .i64 12, .int .i64 6, .int .i64 1, .bool false]) w := by kernel_rfl
theorem con_idx_16 (w : World) : (Instr.index 135 (.agg conC.toArray) (.int .i64 16)).run Tryz.prog w = .ok (.agg #[.string (S [97, 116]), .int .i64 25, .int .i64 6, .int .i64 2, .bool false]) w := by kernel_rfl
theorem con_idx_17 (w : World) : (Instr.index 135 (.agg conC.toArray) (.int .i64 17)).run Tryz.prog w = .ok (.agg #[.string (S [112, 117, 115, 104]), .int .i64 26, .int .i64 6, .int .i64 2, .bool false]) w := by kernel_rfl
theorem con_idx (k : Nat) (hk : k < 18) (w : World) : (Instr.index 135 (.agg conC.toArray) (.int .i64 (k : Int))).run Tryz.prog w =
    .ok (.agg #[.string (S (conAt k).word), .int .i64 (conAt k).op, .int .i64 (conAt k).level, .int .i64 (conAt k).operands, .bool (conAt k).turned]) w := by
  have h : k = 0 ∨ k = 1 ∨ k = 2 ∨ k = 3 ∨ k = 4 ∨ k = 5 ∨ k = 6 ∨ k = 7 ∨ k = 8 ∨ k = 9 ∨ k = 10 ∨ k = 11 ∨ k = 12 ∨ k = 13 ∨ k = 14 ∨ k = 15 ∨ k = 16 ∨ k = 17 := by omega
  rcases h with rfl | rfl | rfl | rfl | rfl | rfl | rfl | rfl | rfl | rfl | rfl | rfl | rfl | rfl | rfl | rfl | rfl | rfl
  · exact con_idx_0 w
  · exact con_idx_1 w
  · exact con_idx_2 w
  · exact con_idx_3 w
  · exact con_idx_4 w
  · exact con_idx_5 w
  · exact con_idx_6 w
  · exact con_idx_7 w
  · exact con_idx_8 w
  · exact con_idx_9 w
  · exact con_idx_10 w
  · exact con_idx_11 w
  · exact con_idx_12 w
  · exact con_idx_13 w
  · exact con_idx_14 w
  · exact con_idx_15 w
  · exact con_idx_16 w
  · exact con_idx_17 w
def conOf (op : Int) : Option Con := conL.find? fun c => c.op == op && !c.turned
theorem con_find (p : Con → Bool) (k : Nat) (hk : k < 18) (h0 : ∀ j, j < k → p (conAt j) = false) (h : p (conAt k) = true) : conL.find? p = some (conAt k) := by
  have : ∀ (l : List Con) (k : Nat), k < l.length → (∀ j, j < k → p (l.getD j con0) = false) → p (l.getD k con0) = true → l.find? p = some (l.getD k con0) := by
    intro l
    induction l with
    | nil => intro k hk; simp at hk
    | cons a r ih =>
      intro k hk h0 h
      cases k with
      | zero => rw [List.find?_cons, show p a = true from h]; rfl
      | succ k =>
        rw [List.find?_cons, show p a = false from h0 0 (by omega)]
        exact ih k (by simpa using hk) (fun j hj => h0 (j + 1) (by omega)) h
  exact this conL k hk h0 h
theorem con_none (p : Con → Bool) (h0 : ∀ j, j < 18 → p (conAt j) = false) : conL.find? p = none := by
  rw [List.find?_eq_none]
  intro x hx
  obtain ⟨j, hj, rfl⟩ := List.getElem_of_mem hx
  have := h0 j hj
  simp [conAt, List.getD, hj] at this
  simp [this]
def Bc (w : World) (H : Nat) (c : Con) : Prop := w.heap[H]? = some (.cells #[.string (S c.word), .int .i64 c.op, .int .i64 c.level, .int .i64 c.operands, .bool c.turned] 96 (0, 0))
theorem put5_here {w : World} {H : Nat} {c : Con} (h : Bc w H c) (x0 x1 x2 x3 x4 : Value) :
    (((((w.setCell ⟨H, 0, none⟩ x0).setCell ⟨H, 1, none⟩ x1).setCell ⟨H, 2, none⟩ x2).setCell ⟨H, 3, none⟩ x3).setCell ⟨H, 4, none⟩ x4).heap[H]? = some (.cells #[x0, x1, x2, x3, x4] 96 (0, 0)) :=
  heap_setCell_same _ H 4 _ _ _ (heap_setCell_same _ H 3 _ _ _ (heap_setCell_same _ H 2 _ _ _ (heap_setCell_same _ H 1 _ _ _ (heap_setCell_same w H 0 _ _ _ h))))
theorem put5_at {w : World} {H : Nat} {c : Con} (h : Bc w H c) (x0 x1 x2 x3 x4 : Value) (o : Obj) (hl : H < w.heap.size) :
    ((((((w.setCell ⟨H, 0, none⟩ x0).setCell ⟨H, 1, none⟩ x1).setCell ⟨H, 2, none⟩ x2).setCell ⟨H, 3, none⟩ x3).setCell ⟨H, 4, none⟩ x4).alloc o).heap[H]? = some (.cells #[x0, x1, x2, x3, x4] 96 (0, 0)) :=
  ((Kept.alloc (ok := fun _ => True) _ o).block H trivial (by simp; exact hl)).trans (put5_here h x0 x1 x2 x3 x4)
theorem put5_below {w w' : World} (h : Below w.heap.size w w') (x0 x1 x2 x3 x4 : Value) :
    Below w.heap.size w (((((w'.setCell ⟨w.heap.size, 0, none⟩ x0).setCell ⟨w.heap.size, 1, none⟩ x1).setCell ⟨w.heap.size, 2, none⟩ x2).setCell ⟨w.heap.size, 3, none⟩ x3).setCell ⟨w.heap.size, 4, none⟩ x4) :=
  ((((h.setCell (p := ⟨w.heap.size, 0, none⟩) (Nat.le_refl _) x0).setCell (p := ⟨w.heap.size, 1, none⟩) (Nat.le_refl _) x1).setCell (p := ⟨w.heap.size, 2, none⟩) (Nat.le_refl _) x2).setCell (p := ⟨w.heap.size, 3, none⟩) (Nat.le_refl _) x3).setCell (p := ⟨w.heap.size, 4, none⟩) (Nat.le_refl _) x4
def conV (x : Option Con) : Value := match x with
  | some c => .tuple #[.agg #[.string (S c.word), .int .i64 c.op, .int .i64 c.level, .int .i64 c.operands, .bool c.turned], .bool true]
  | none => .tuple #[.agg #[.string (S []), .int .i64 0, .int .i64 0, .int .i64 0, .bool false], .bool false]
theorem res_con {fn : Func} {p u : Tmp} (h : fn.results = #[.cell p 96, .tmp u]) (tmps : Array Value) (w : World) (g : Nat) (a b c d e x : Value)
    (hp : tmps.getD p undef = .pointer (some ⟨g, 0, none⟩)) (hg : w.heap[g]? = some (.cells #[a, b, c, d, e] 96 (0, 0))) (hx : tmps.getD u undef = x) :
    (results fn tmps).run Tryz.prog w = .ok (.tuple #[.agg #[a, b, c, d, e], x]) w := by
  have hp' : tmps[p]?.getD undef = .pointer (some ⟨g, 0, none⟩) := by simpa using hp
  have hx' : tmps[u]?.getD undef = x := by simpa using hx
  have hr := run_loadVar_row (P := Tryz.prog) w g 96 96 #[a, b, c, d, e] (0, 0) _ hg Tryz.underlying96 rfl (by kernel_rfl)
  simp [results, h, hp', hx', asAddr, hr]
theorem constructOf_any (op : Int) (w : World) (hc : ConsAt w) :
    Calls Tryz.prog 36 #[.int .i64 op] w fun e w' => e = .returned (conV (conOf op)) ∧ Below w.heap.size w w' := by
  have hb0 := (Below.refl w.heap.size w).alloc (Nat.le_refl _) (.cells #[.string ⟨#[]⟩, .int .i64 0, .int .i64 0, .int .i64 0, .bool false] 96)
  have HLD := Lib.hid (hc.keep (Kept.of_below (ok := fun _ => True) hb0) trivial).1
  have HSZ := Lib.hid (show (Tryz.prog.info? 135).map (·.size) = some conC.length by kernel_rfl)
  have HB0 := Lib.hid hb0
  have HX0 := Lib.hid (show Bc (w.alloc (.cells #[.string ⟨#[]⟩, .int .i64 0, .int .i64 0, .int .i64 0, .bool false] 96)) w.heap.size con0 from heap_alloc_new w _)
  have HIDX := Lib.hid con_idx
  have HFA := Lib.hid (fun k (hk : k < 18) h0 h => con_find (fun c => c.op == op && !c.turned) k hk h0 h)
  have HFN := Lib.hid (con_none (fun c => c.op == op && !c.turned))
  clear hb0 hc
  go_enter Tryz.func36, Tryz.ntmps36
  go_wp2_with (refine wpList_load_mid rfl 135 _ rfl 0 0 rfl conC _ HLD.out Tryz.underlying135 rfl HSZ.out ?_)
  go_loopw [7] (fun i wr => ∃ k : Nat, k ≤ 18 ∧ i = .int .i64 k ∧ Hid (∀ j, j < k → ((conAt j).op == op && !(conAt j).turned) = false) ∧ Below w.heap.size w wr ∧ w.heap.size < wr.heap.size ∧ Bc wr w.heap.size con0) (fun i _ => 18 - (intOf i).toNat)
  case atStart => exact ⟨0, by omega, rfl, Lib.hid (fun j hj => absurd hj (by omega)), HB0.out, by simp, HX0.out⟩
  case round =>
    obtain ⟨k, hk, rfl, HN, hb, hsz, hx⟩ := hrel
    have HB := Lib.hid hb
    have HX := Lib.hid hx
    have hh := hx
    have f5 : ∀ j, wr.frozen? ⟨w.heap.size, j, none⟩ = false := fun j => frozen_of_row wr w.heap.size j _ _ hx
    have p0 : wr.cell? ⟨w.heap.size, 0, none⟩ = some (.string (S [])) := cell_of_row wr w.heap.size 0 _ _ (0, 0) hx
    have p1 : wr.cell? ⟨w.heap.size, 1, none⟩ = some (.int .i64 0) := cell_of_row wr w.heap.size 1 _ _ (0, 0) hx
    have p2 : wr.cell? ⟨w.heap.size, 2, none⟩ = some (.int .i64 0) := cell_of_row wr w.heap.size 2 _ _ (0, 0) hx
    have p3 : wr.cell? ⟨w.heap.size, 3, none⟩ = some (.int .i64 0) := cell_of_row wr w.heap.size 3 _ _ (0, 0) hx
    have p4 : wr.cell? ⟨w.heap.size, 4, none⟩ = some (.bool false) := cell_of_row wr w.heap.size 4 _ _ (0, 0) hx
    by_cases hlt : k < 18
    · have hki : (k : Int) < 18 := by omega
      have hidx := HIDX.out k hlt
      have HHIT := Lib.hid (HFA.out k hlt HN.out)
      have HST := Lib.hid (fun (e : ((conAt k).op == op && !(conAt k).turned) = false) => show Hid (∀ j, j < k + 1 → ((conAt j).op == op && !(conAt j).turned) = false) from Lib.hid (fun j hj => by
        by_cases ej : j = k
        · subst ej; exact e
        · exact HN.out j (by omega)))
      generalize conAt k = C at *
      obtain ⟨cw, co, cl, cn, ct⟩ := C
      simp only at hidx HHIT HST
      clear hb hx hh
      by_cases hop : co = op
      · subst hop
        cases ct with
        | false =>
          have HR := Lib.hid (show conOf co = some ⟨cw, co, cl, cn, false⟩ from HHIT.out (by simp))
          go_wp2_with fail
          refine bodyPost_ret (res_con rfl _ _ w.heap.size _ _ _ _ _ (.bool true) rfl (put5_at HX.out _ _ _ _ _ _ hsz) rfl) rfl ?_
          rw [HR.out]
          exact ⟨rfl, (put5_below HB.out _ _ _ _ _).alloc (by simp; omega) _⟩
        | true =>
          have hn2 := HST.out (by simp)
          go_wp2_with fail
          go_roundw
          case rel => exact ⟨k + 1, by omega, by go_num, hn2, HB.out.alloc (Nat.le_of_lt hsz) _, by simp; omega, (Kept.alloc (ok := fun _ => True) wr _).block _ trivial hsz |>.trans HX.out⟩
          case measure => simp [intOf]; omega
      · have hop2 : (co == op) = false := by rw [beq_eq_false_iff_ne]; exact hop
        have hn2 := HST.out (by simp [hop2])
        go_wp2_with fail
        go_roundw
        case rel => exact ⟨k + 1, by omega, by go_num, hn2, HB.out.alloc (Nat.le_of_lt hsz) _, by simp; omega, (Kept.alloc (ok := fun _ => True) wr _).block _ trivial hsz |>.trans HX.out⟩
        case measure => simp [intOf]; omega
    · obtain rfl : k = 18 := by omega
      have HR := Lib.hid (show conOf op = none from HFN.out HN.out)
      clear hb hx hh
      go_wp2_with fail
      refine bodyPost_ret (res_con rfl _ _ w.heap.size _ _ _ _ _ (.bool false) rfl (put5_here HX.out _ _ _ _ _) rfl) rfl ?_
      rw [HR.out]
      exact ⟨rfl, put5_below HB.out _ _ _ _ _⟩
end Go.Proofs.YtlmmfhbdebfgkaaGreatDoor.Ex
namespace Go.Proofs.YtlmmfhbdebfgkaaGreatDoor.Ex
open Go.RowKit
open Lx
theorem two_boxes (w : World) (a b : Obj) : Below w.heap.size w ((w.alloc a).alloc b).drew := (((Below.refl _ _).alloc (Nat.le_refl _) a).alloc (by simp) b).drew
theorem formed_1 (num : Int) (t : List UInt8) (q : Option Addr) (k c : Nat) (hk : k ≤ 281474976710656) (htl : t.length ≤ 281474976710656) (w : World) :
    Calls Tryz.prog 34 #[.agg #[.int .i64 1, .int .i64 num, .string (S t), .slice q k c]] w fun e w' => e = .returned (.bool (formedB 1 num t k)) ∧ Below w.heap.size w w' := by
  have hx : ((S t).toList == ([] : List UInt8)) = t.isEmpty := by rw [eqB]; cases t <;> rfl
  have hs : (S t).size = t.length := S_size t
  go_enter Tryz.func34, Tryz.ntmps34
  go_wp2_with fail
  go_region_with (fail)
  all_goals go_wp2_with fail
  all_goals go_ret
  all_goals refine ⟨congrArg (fun b => Ending.returned (Value.bool b)) ?_, two_boxes _ _ _⟩
  all_goals have hkc : ((k : Int) == 0) = (k == 0) := by (rw [Bool.eq_iff_iff]; simp)
  all_goals (rcases t with _ | ⟨a, r⟩ <;> by_cases hk0 : k = 0 <;> by_cases hn0 : num = 0 <;> by_cases hn1 : num = 1 <;> simp_all [formedB, cntB, S_size] <;> omega)
theorem formed_2 (num : Int) (t : List UInt8) (q : Option Addr) (k c : Nat) (hk : k ≤ 281474976710656) (htl : t.length ≤ 281474976710656) (w : World) :
    Calls Tryz.prog 34 #[.agg #[.int .i64 2, .int .i64 num, .string (S t), .slice q k c]] w fun e w' => e = .returned (.bool (formedB 2 num t k)) ∧ Below w.heap.size w w' := by
  have hx : ((S t).toList == ([] : List UInt8)) = t.isEmpty := by rw [eqB]; cases t <;> rfl
  have hs : (S t).size = t.length := S_size t
  go_enter Tryz.func34, Tryz.ntmps34
  go_wp2_with fail
  go_region_with (fail)
  all_goals go_wp2_with fail
  all_goals go_ret
  all_goals refine ⟨congrArg (fun b => Ending.returned (Value.bool b)) ?_, two_boxes _ _ _⟩
  all_goals have hkc : ((k : Int) == 0) = (k == 0) := by (rw [Bool.eq_iff_iff]; simp)
  all_goals (rcases t with _ | ⟨a, r⟩ <;> by_cases hk0 : k = 0 <;> by_cases hn0 : num = 0 <;> by_cases hn1 : num = 1 <;> simp_all [formedB, cntB, S_size] <;> omega)
theorem formed_3 (num : Int) (t : List UInt8) (q : Option Addr) (k c : Nat) (hk : k ≤ 281474976710656) (htl : t.length ≤ 281474976710656) (w : World) :
    Calls Tryz.prog 34 #[.agg #[.int .i64 3, .int .i64 num, .string (S t), .slice q k c]] w fun e w' => e = .returned (.bool (formedB 3 num t k)) ∧ Below w.heap.size w w' := by
  have hx : ((S t).toList == ([] : List UInt8)) = t.isEmpty := by rw [eqB]; cases t <;> rfl
  have hs : (S t).size = t.length := S_size t
  go_enter Tryz.func34, Tryz.ntmps34
  go_wp2_with fail
  go_region_with (fail)
  all_goals go_wp2_with fail
  all_goals go_ret
  all_goals refine ⟨congrArg (fun b => Ending.returned (Value.bool b)) ?_, two_boxes _ _ _⟩
  all_goals have hkc : ((k : Int) == 0) = (k == 0) := by (rw [Bool.eq_iff_iff]; simp)
  all_goals (rcases t with _ | ⟨a, r⟩ <;> by_cases hk0 : k = 0 <;> by_cases hn0 : num = 0 <;> by_cases hn1 : num = 1 <;> simp_all [formedB, cntB, S_size] <;> omega)
theorem formed_4 (num : Int) (t : List UInt8) (q : Option Addr) (k c : Nat) (hk : k ≤ 281474976710656) (htl : t.length ≤ 281474976710656) (w : World) :
    Calls Tryz.prog 34 #[.agg #[.int .i64 4, .int .i64 num, .string (S t), .slice q k c]] w fun e w' => e = .returned (.bool (formedB 4 num t k)) ∧ Below w.heap.size w w' := by
  have hx : ((S t).toList == ([] : List UInt8)) = t.isEmpty := by rw [eqB]; cases t <;> rfl
  have hs : (S t).size = t.length := S_size t
  go_enter Tryz.func34, Tryz.ntmps34
  go_wp2_with fail
  go_region_with (fail)
  all_goals go_wp2_with fail
  all_goals go_ret
  all_goals refine ⟨congrArg (fun b => Ending.returned (Value.bool b)) ?_, two_boxes _ _ _⟩
  all_goals have hkc : ((k : Int) == 0) = (k == 0) := by (rw [Bool.eq_iff_iff]; simp)
  all_goals (rcases t with _ | ⟨a, r⟩ <;> by_cases hk0 : k = 0 <;> by_cases hn0 : num = 0 <;> by_cases hn1 : num = 1 <;> simp_all [formedB, cntB, S_size] <;> omega)
theorem formed_5 (num : Int) (t : List UInt8) (q : Option Addr) (k c : Nat) (hk : k ≤ 281474976710656) (htl : t.length ≤ 281474976710656) (w : World) :
    Calls Tryz.prog 34 #[.agg #[.int .i64 5, .int .i64 num, .string (S t), .slice q k c]] w fun e w' => e = .returned (.bool (formedB 5 num t k)) ∧ Below w.heap.size w w' := by
  have hx : ((S t).toList == ([] : List UInt8)) = t.isEmpty := by rw [eqB]; cases t <;> rfl
  have hs : (S t).size = t.length := S_size t
  go_enter Tryz.func34, Tryz.ntmps34
  go_wp2_with fail
  go_region_with (fail)
  all_goals go_wp2_with fail
  all_goals go_ret
  all_goals refine ⟨congrArg (fun b => Ending.returned (Value.bool b)) ?_, two_boxes _ _ _⟩
  all_goals have hkc : ((k : Int) == 0) = (k == 0) := by (rw [Bool.eq_iff_iff]; simp)
  all_goals (rcases t with _ | ⟨a, r⟩ <;> by_cases hk0 : k = 0 <;> by_cases hn0 : num = 0 <;> by_cases hn1 : num = 1 <;> simp_all [formedB, cntB, S_size] <;> omega)
theorem formed_6 (num : Int) (t : List UInt8) (q : Option Addr) (k c : Nat) (hk : k ≤ 281474976710656) (htl : t.length ≤ 281474976710656) (w : World) :
    Calls Tryz.prog 34 #[.agg #[.int .i64 6, .int .i64 num, .string (S t), .slice q k c]] w fun e w' => e = .returned (.bool (formedB 6 num t k)) ∧ Below w.heap.size w w' := by
  have hx : ((S t).toList == ([] : List UInt8)) = t.isEmpty := by rw [eqB]; cases t <;> rfl
  have hs : (S t).size = t.length := S_size t
  go_enter Tryz.func34, Tryz.ntmps34
  go_wp2_with fail
  go_region_with (fail)
  all_goals go_wp2_with fail
  all_goals go_ret
  all_goals refine ⟨congrArg (fun b => Ending.returned (Value.bool b)) ?_, two_boxes _ _ _⟩
  all_goals have hkc : ((k : Int) == 0) = (k == 0) := by (rw [Bool.eq_iff_iff]; simp)
  all_goals (rcases t with _ | ⟨a, r⟩ <;> by_cases hk0 : k = 0 <;> by_cases hn0 : num = 0 <;> by_cases hn1 : num = 1 <;> simp_all [formedB, cntB, S_size] <;> omega)
theorem formed_7 (num : Int) (t : List UInt8) (q : Option Addr) (k c : Nat) (hk : k ≤ 281474976710656) (htl : t.length ≤ 281474976710656) (w : World) :
    Calls Tryz.prog 34 #[.agg #[.int .i64 7, .int .i64 num, .string (S t), .slice q k c]] w fun e w' => e = .returned (.bool (formedB 7 num t k)) ∧ Below w.heap.size w w' := by
  have hx : ((S t).toList == ([] : List UInt8)) = t.isEmpty := by rw [eqB]; cases t <;> rfl
  have hs : (S t).size = t.length := S_size t
  go_enter Tryz.func34, Tryz.ntmps34
  go_wp2_with fail
  go_region_with (fail)
  all_goals go_wp2_with fail
  all_goals go_ret
  all_goals refine ⟨congrArg (fun b => Ending.returned (Value.bool b)) ?_, two_boxes _ _ _⟩
  all_goals have hkc : ((k : Int) == 0) = (k == 0) := by (rw [Bool.eq_iff_iff]; simp)
  all_goals (rcases t with _ | ⟨a, r⟩ <;> by_cases hk0 : k = 0 <;> by_cases hn0 : num = 0 <;> by_cases hn1 : num = 1 <;> simp_all [formedB, cntB, S_size] <;> omega)
end Go.Proofs.YtlmmfhbdebfgkaaGreatDoor.Ex
namespace Go.Proofs.YtlmmfhbdebfgkaaGreatDoor.Ex
open Go.RowKit
open Lx
def cntC (x : Option Con) (k : Nat) : Bool := match x with
  | some c => (k : Int) == c.operands
  | none => false
theorem cntC_eq (op : Int) (k : Nat) (h : ¬ (1 ≤ op ∧ op ≤ 7)) : cntC (conOf op) k = cntB op k := by
  have hk1 : ((k : Int) == 1) = (k == 1) := by rw [Bool.eq_iff_iff]; simp; omega
  have hk2 : ((k : Int) == 2) = (k == 2) := by rw [Bool.eq_iff_iff]; simp; omega
  have hc : op = 41 ∨ op = 40 ∨ op = 30 ∨ op = 31 ∨ op = 32 ∨ op = 33 ∨ op = 23 ∨ op = 24 ∨ op = 20 ∨ op = 21 ∨ op = 22 ∨ op = 10 ∨ op = 11 ∨ op = 12 ∨ op = 25 ∨ op = 26 ∨
      (op ≠ 41 ∧ op ≠ 40 ∧ op ≠ 30 ∧ op ≠ 31 ∧ op ≠ 32 ∧ op ≠ 33 ∧ op ≠ 23 ∧ op ≠ 24 ∧ op ≠ 20 ∧ op ≠ 21 ∧ op ≠ 22 ∧ op ≠ 10 ∧ op ≠ 11 ∧ op ≠ 12 ∧ op ≠ 25 ∧ op ≠ 26) := by omega
  rcases hc with rfl | rfl | rfl | rfl | rfl | rfl | rfl | rfl | rfl | rfl | rfl | rfl | rfl | rfl | rfl | rfl | ⟨n1, n2, n3, n4, n5, n6, n7, n8, n9, n10, n11, n12, n13, n14, n15, n16⟩
  · exact hk2
  · exact hk2
  · exact hk2
  · exact hk2
  · exact hk2
  · exact hk2
  · exact hk2
  · exact hk2
  · exact hk2
  · exact hk2
  · exact hk2
  · exact hk1
  · exact hk1
  · exact hk1
  · exact hk2
  · exact hk2
  · have e : conOf op = none := by
      unfold conOf conL
      rw [List.find?_eq_none]
      intro x hx
      simp only [List.mem_cons, List.not_mem_nil, or_false] at hx
      rcases hx with rfl | rfl | rfl | rfl | rfl | rfl | rfl | rfl | rfl | rfl | rfl | rfl | rfl | rfl | rfl | rfl | rfl | rfl <;> simp <;> omega
    rw [e]
    unfold cntC cntB
    rw [if_neg (by omega), if_neg (by omega), if_neg (by omega), if_neg (by omega)]
theorem formedB_far (op num : Int) (t : List UInt8) (k : Nat) (h : ¬ (1 ≤ op ∧ op ≤ 7)) : formedB op num t k = (cntC (conOf op) k && (num == 0) && t.isEmpty) := by
  rw [cntC_eq op k h]
  have e1 : (op == 1) = false := by rw [beq_eq_false_iff_ne]; omega
  have e2 : (op == 2) = false := by rw [beq_eq_false_iff_ne]; omega
  have e3 : (op == 3) = false := by rw [beq_eq_false_iff_ne]; omega
  have e4 : (op == 4) = false := by rw [beq_eq_false_iff_ne]; omega
  have e6 : (op == 6) = false := by rw [beq_eq_false_iff_ne]; omega
  have e7 : (op == 7) = false := by rw [beq_eq_false_iff_ne]; omega
  unfold formedB
  rw [e1, e2, e3, e4, e6, e7]
  by_cases hn : num = 0
  · subst hn; simp
  · have : (num == 0) = false := by simpa using hn
    rw [this]; simp
theorem formed_far (op num : Int) (t : List UInt8) (q : Option Addr) (k c : Nat) (hk : k ≤ 281474976710656) (htl : t.length ≤ 281474976710656) (hop : ¬ (1 ≤ op ∧ op ≤ 7)) (w : World) (hC : ConsAt w) :
    Calls Tryz.prog 34 #[.agg #[.int .i64 op, .int .i64 num, .string (S t), .slice q k c]] w fun e w' => e = .returned (.bool (formedB op num t k)) ∧ Below w.heap.size w w' := by
  rw [formedB_far op num t k hop]
  have hx : ((S t).toList == ([] : List UInt8)) = t.isEmpty := by rw [eqB]; cases t <;> rfl
  have n1 : ¬ op = 1 := by omega
  have n2 : ¬ op = 2 := by omega
  have n3 : ¬ op = 3 := by omega
  have n4 : ¬ op = 4 := by omega
  have n5 : ¬ op = 5 := by omega
  have n6 : ¬ op = 6 := by omega
  have n7 : ¬ op = 7 := by omega
  have HC := Lib.hid (fun (w1 : World) (k : Below w.heap.size w w1) => constructOf_any op w1 (hC.keep (Kept.of_below (ok := fun _ => True) k) trivial))
  have HB0 := Lib.hid (two_boxes w (.cells #[.int .i64 op, .int .i64 num, .string (S t), .slice q k c] 24) (.cells #[.int .i64 op, .int .i64 num, .string (S t), .slice q k c] 24))
  have HX0 := Lib.hid (show Bx (((w.alloc (.cells #[.int .i64 op, .int .i64 num, .string (S t), .slice q k c] 24)).alloc (.cells #[.int .i64 op, .int .i64 num, .string (S t), .slice q k c] 24)).drew) w.heap.size (.int .i64 op) (.int .i64 num) (.string (S t)) (.slice q k c) from (Bx.new w _ _ _ _).keep (Kept.alloc (ok := fun _ => True) _ _ |>.trans (Kept.of_below (Below.refl _ _).drew)) trivial)
  have HY0 := Lib.hid (show Bx (((w.alloc (.cells #[.int .i64 op, .int .i64 num, .string (S t), .slice q k c] 24)).alloc (.cells #[.int .i64 op, .int .i64 num, .string (S t), .slice q k c] 24)).drew) (w.heap.size + 1) (.int .i64 op) (.int .i64 num) (.string (S t)) (.slice q k c) from heap_alloc2_new w _ _)
  clear hC hop
  cases hcn : conOf op with
  | none =>
    rw [hcn] at HC
    simp only [conV] at HC
    go_enter Tryz.func34, Tryz.ntmps34
    go_wp2_with fail
    go_region_with (fail)
    all_goals go_wp2_with fail
    all_goals
      refine (HC.out _ HB0.out).mono ?_
      rintro e w2 ⟨rfl, b2⟩
      have hx2 := HX0.out.keep (Kept.of_below (ok := fun _ => True) b2) trivial
      have hy2 := HY0.out.keep (Kept.of_below (ok := fun _ => True) b2) trivial
      have HB2 := Lib.hid (HB0.out.trans (b2.mono HB0.out.size))
      have hl2 := hy2.lt
      have p3 := hx2.c3
      have y0 := hy2.c0
      have y1 := hy2.c1
      have y2 := hy2.c2
      have y3 := hy2.c3
      have yz := hy2.fz
      have zy : ∀ o j, (w2.alloc o).cell? ⟨w.heap.size + 1, j, none⟩ = w2.cell? ⟨w.heap.size + 1, j, none⟩ := fun o j => Kept.cell (Kept.alloc (ok := fun _ => True) w2 o) trivial hl2
      have zf : ∀ o j, (w2.alloc o).frozen? ⟨w.heap.size + 1, j, none⟩ = false := fun o j => (hy2.keep (Kept.alloc (ok := fun _ => True) w2 o) trivial).fz j
      have hz2 := HB2.out.size
      clear hx2 hy2 b2
      go_wp2_with fail
      go_ret
      refine ⟨by simp [cntC], ?_⟩
      exact ((HB2.out.setCell (p := ⟨w.heap.size + 1, 3, none⟩) (Nat.le_succ _) _).alloc (by simp; omega) _)
  | some cc =>
    rw [hcn] at HC
    simp only [conV] at HC
    go_enter Tryz.func34, Tryz.ntmps34
    go_wp2_with fail
    go_region_with (fail)
    all_goals go_wp2_with fail
    all_goals
      refine (HC.out _ HB0.out).mono ?_
      rintro e w2 ⟨rfl, b2⟩
      have hx2 := HX0.out.keep (Kept.of_below (ok := fun _ => True) b2) trivial
      have hy2 := HY0.out.keep (Kept.of_below (ok := fun _ => True) b2) trivial
      have HB2 := Lib.hid (HB0.out.trans (b2.mono HB0.out.size))
      have hl2 := hy2.lt
      have hlx2 := hx2.lt
      have p3 := hx2.c3
      have y0 := hy2.c0
      have y1 := hy2.c1
      have y2 := hy2.c2
      have y3 := hy2.c3
      have yz := hy2.fz
      have zy : ∀ o j, (w2.alloc o).cell? ⟨w.heap.size + 1, j, none⟩ = w2.cell? ⟨w.heap.size + 1, j, none⟩ := fun o j => Kept.cell (Kept.alloc (ok := fun _ => True) w2 o) trivial hl2
      have zx : ∀ o j, (w2.alloc o).cell? ⟨w.heap.size, j, none⟩ = w2.cell? ⟨w.heap.size, j, none⟩ := fun o j => Kept.cell (Kept.alloc (ok := fun _ => True) w2 o) trivial hlx2
      have zf : ∀ o j, (w2.alloc o).frozen? ⟨w.heap.size + 1, j, none⟩ = false := fun o j => (hy2.keep (Kept.alloc (ok := fun _ => True) w2 o) trivial).fz j
      have hz2 := HB2.out.size
      clear hx2 hy2 b2
      cases hkc : ((k : Int) == cc.operands) with
      | false =>
        go_wp2_with fail
        go_ret
        refine ⟨by simp [cntC, hkc], ?_⟩
        exact ((HB2.out.setCell (p := ⟨w.heap.size + 1, 3, none⟩) (Nat.le_succ _) _).alloc (by simp; omega) _)
      | true =>
        by_cases hn : num = 0
        · subst hn
          by_cases ht : t = []
          · subst ht
            have hx3 : ((S []).toList == ([] : List UInt8)) = true := by rw [eqB]; rfl
            go_wp2_with fail
            go_ret
            refine ⟨by simp [cntC, hkc], ?_⟩
            exact ((HB2.out.setCell (p := ⟨w.heap.size + 1, 3, none⟩) (Nat.le_succ _) _).alloc (by simp; omega) _)
          · have hx3 : ((S t).toList == ([] : List UInt8)) = false := by rw [hx]; cases t <;> simp_all
            rw [hx3] at hx
            go_wp2_with fail
            go_ret
            refine ⟨by simp [cntC, hkc, ← hx], ?_⟩
            exact ((HB2.out.setCell (p := ⟨w.heap.size + 1, 3, none⟩) (Nat.le_succ _) _).alloc (by simp; omega) _)
        · have hn2 : (num == 0) = false := by simpa using hn
          go_wp2_with fail
          go_ret
          refine ⟨by simp [cntC, hkc, hn2], ?_⟩
          exact ((HB2.out.setCell (p := ⟨w.heap.size + 1, 3, none⟩) (Nat.le_succ _) _).alloc (by simp; omega) _)
theorem formed_any (op num : Int) (t : List UInt8) (q : Option Addr) (k c : Nat) (hk : k ≤ 281474976710656) (htl : t.length ≤ 281474976710656) (w : World) (hC : ConsAt w) :
    Calls Tryz.prog 34 #[.agg #[.int .i64 op, .int .i64 num, .string (S t), .slice q k c]] w fun e w' => e = .returned (.bool (formedB op num t k)) ∧ Below w.heap.size w w' := by
  by_cases h : 1 ≤ op ∧ op ≤ 7
  · obtain rfl | rfl | rfl | rfl | rfl | rfl | rfl : op = 1 ∨ op = 2 ∨ op = 3 ∨ op = 4 ∨ op = 5 ∨ op = 6 ∨ op = 7 := by omega
    · exact formed_1 num t q k c hk htl w
    · exact formed_2 num t q k c hk htl w
    · exact formed_3 num t q k c hk htl w
    · exact formed_4 num t q k c hk htl w
    · exact formed_5 num t q k c hk htl w
    · exact formed_6 num t q k c hk htl w
    · exact formed_7 num t q k c hk htl w
  · exact formed_far op num t q k c hk htl h w hC
end Go.Proofs.YtlmmfhbdebfgkaaGreatDoor.Ex
