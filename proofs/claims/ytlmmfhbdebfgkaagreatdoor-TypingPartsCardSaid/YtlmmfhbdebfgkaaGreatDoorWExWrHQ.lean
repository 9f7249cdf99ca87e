/-
  ExWrH, ExWrI, ExWrJ, TyRow.
-/
import Derived.Test.YtlmmfhbdebfgkaaGreatDoorWExWrG
import Derived.Test.YtlmmfhbdebfgkaaGreatDoorWTyNodeQ
import Derived.Lib.UnsafeStr
set_option linter.unusedVariables false
set_option linter.unusedSimpArgs false
set_option maxRecDepth 100000
set_option maxHeartbeats 8000000
namespace Go.Proofs.YtlmmfhbdebfgkaaGreatDoor.Ex
open Go.RowKit
open Lx Va
theorem one_row {A : F} (h : A.len = 1) : ∃ x : T, A = .cons x.op x.num x.text x.args .nil := by
  cases A with
  | nil => simp [F.len] at h
  | cons o n t a r =>
    cases r with
    | nil => exact ⟨⟨o, n, t, a⟩, rfl⟩
    | cons _ _ _ _ _ => simp [F.len] at h
theorem two_row {A : F} (h : A.len = 2) : ∃ x y : T, A = .cons x.op x.num x.text x.args (.cons y.op y.num y.text y.args .nil) := by
  cases A with
  | nil => simp [F.len] at h
  | cons o n t a r =>
    cases r with
    | nil => simp [F.len] at h
    | cons o2 n2 t2 a2 r2 =>
      cases r2 with
      | nil => exact ⟨⟨o, n, t, a⟩, ⟨o2, n2, t2, a2⟩, rfl⟩
      | cons _ _ _ _ _ => simp [F.len] at h
theorem formed_cnt {o n : Int} {t : List UInt8} {k : Nat} (h : formedB o n t k = true) : cntB o k = true := by
  simp [formedB] at h
  exact h.1.1.1.1.1
theorem tree_any (w0 : World) (b : Nat) (B : Base w0 b) (op num : Int) (tx : List UInt8) (A : F) (hA : WtAll w0 b A) (hl : A.fits) (hlen : A.len ≤ 281474976710656) (hf : formedB op num tx A.len = true) (hn : namedB op tx = true) (hnum : num ≤ 9223372036854775807) : WtC w0 b ⟨op, num, tx, A⟩ := by
  intro l o d p c w ho hlL hod hW h0 hF
  have hp : WPre w0 b ⟨op, num, tx, A⟩ l o d p w := ⟨ho, hlL, hod, hW, h0, hF⟩
  have hc := formed_cnt hf
  clear ho hlL hod hW h0 hF
  unfold cntB at hc
  by_cases h5 : op = 5
  · subst h5
    exact tree_list w0 b B num tx A hA hlen l o d p c w hp
  rw [if_neg h5] at hc
  by_cases h7 : 1 ≤ op ∧ op ≤ 7
  · exact tree_leaf w0 b B op num tx A h7 h5 hf hn hnum l o d p c w hp
  rw [if_neg h7] at hc
  have h5b : (op == 5) = false := by rw [beq_eq_false_iff_ne]; exact h5
  by_cases h10 : 10 ≤ op ∧ op ≤ 12
  · rw [if_pos h10] at hc
    have h1 : A.len = 1 := by simpa using hc
    have h3 : op = 10 ∨ op = 11 ∨ op = 12 := by omega
    rcases h3 with rfl | rfl | rfl
    · obtain ⟨x, rfl⟩ := one_row h1
      exact tree_un w0 b B 10 num tx x hA.1 hl.2.1 [33] 10 1 false rfl (by simp) h5b rfl l o d p c w hp
    · obtain ⟨x, rfl⟩ := one_row h1
      exact tree_un w0 b B 11 num tx x hA.1 hl.2.1 [45] 11 1 false rfl (by simp) h5b rfl l o d p c w hp
    · exact tree_call w0 b B 12 num tx A hA hlen [108, 101, 110] 12 1 false rfl (by simp) h5b rfl l o d p c w hp
  rw [if_neg h10] at hc
  by_cases h20 : 20 ≤ op ∧ op ≤ 26 ∨ 30 ≤ op ∧ op ≤ 33 ∨ op = 40 ∨ op = 41
  · rw [if_pos h20] at hc
    have h2 : A.len = 2 := by simpa using hc
    by_cases h25 : op = 25 ∨ op = 26
    · rcases h25 with rfl | rfl
      · exact tree_call w0 b B 25 num tx A hA hlen [97, 116] 25 2 false rfl (by simp) h5b rfl l o d p c w hp
      · exact tree_call w0 b B 26 num tx A hA hlen [112, 117, 115, 104] 26 2 false rfl (by simp) h5b rfl l o d p c w hp
    · obtain ⟨x, y, rfl⟩ := two_row h2
      have hb : op = 20 ∨ op = 21 ∨ op = 22 ∨ op = 23 ∨ op = 24 ∨ op = 30 ∨ op = 31 ∨ op = 32 ∨ op = 33 ∨ op = 40 ∨ op = 41 := by omega
      rcases hb with rfl | rfl | rfl | rfl | rfl | rfl | rfl | rfl | rfl | rfl | rfl
      · exact tree_bin w0 b B 20 num tx x y hA.1 hA.2.1 hl.2.1 hl.2.2.2.2.1 [42] 20 2 false 4 (by decide) rfl (by simp) h5b rfl l o d p c w hp
      · exact tree_bin w0 b B 21 num tx x y hA.1 hA.2.1 hl.2.1 hl.2.2.2.2.1 [47] 21 2 false 4 (by decide) rfl (by simp) h5b rfl l o d p c w hp
      · exact tree_bin w0 b B 22 num tx x y hA.1 hA.2.1 hl.2.1 hl.2.2.2.2.1 [37] 22 2 false 4 (by decide) rfl (by simp) h5b rfl l o d p c w hp
      · exact tree_bin w0 b B 23 num tx x y hA.1 hA.2.1 hl.2.1 hl.2.2.2.2.1 [43] 23 2 false 3 (by decide) rfl (by simp) h5b rfl l o d p c w hp
      · exact tree_bin w0 b B 24 num tx x y hA.1 hA.2.1 hl.2.1 hl.2.2.2.2.1 [45] 24 2 false 3 (by decide) rfl (by simp) h5b rfl l o d p c w hp
      · exact tree_bin w0 b B 30 num tx x y hA.1 hA.2.1 hl.2.1 hl.2.2.2.2.1 [61, 61] 30 2 false 2 (by decide) rfl (by simp) h5b rfl l o d p c w hp
      · exact tree_bin w0 b B 31 num tx x y hA.1 hA.2.1 hl.2.1 hl.2.2.2.2.1 [33, 61] 31 2 false 2 (by decide) rfl (by simp) h5b rfl l o d p c w hp
      · exact tree_bin w0 b B 32 num tx x y hA.1 hA.2.1 hl.2.1 hl.2.2.2.2.1 [60] 32 2 false 2 (by decide) rfl (by simp) h5b rfl l o d p c w hp
      · exact tree_bin w0 b B 33 num tx x y hA.1 hA.2.1 hl.2.1 hl.2.2.2.2.1 [60, 61] 33 2 false 2 (by decide) rfl (by simp) h5b rfl l o d p c w hp
      · exact tree_bin w0 b B 40 num tx x y hA.1 hA.2.1 hl.2.1 hl.2.2.2.2.1 [38, 38] 40 2 false 1 (by decide) rfl (by simp) h5b rfl l o d p c w hp
      · exact tree_bin w0 b B 41 num tx x y hA.1 hA.2.1 hl.2.1 hl.2.2.2.2.1 [124, 124] 41 2 false 0 (by decide) rfl (by simp) h5b rfl l o d p c w hp
  · rw [if_neg h20] at hc
    cases hc
theorem tree_all (w0 : World) (b : Nat) (B : Base w0 b) : ∀ l : F, l.fits → okF l → WtAll w0 b l
  | .nil, _, _ => trivial
  | .cons o n t a r, h, k => ⟨tree_any w0 b B o n t a (tree_all w0 b B a h.2.2.1 k.2.2.2.1) h.2.2.1 h.2.1 k.1 k.2.1 k.2.2.1, tree_all w0 b B r h.2.2.2 k.2.2.2.2⟩
end Go.Proofs.YtlmmfhbdebfgkaaGreatDoor.Ex
namespace Go.Proofs.YtlmmfhbdebfgkaaGreatDoor.Ex
open Go.RowKit
open Lx Va
def F.nums : F → Prop
  | .nil => True
  | .cons _ n _ a r => n ≤ 9223372036854775807 ∧ a.nums ∧ r.nums
def F.nodes : F → Nat
  | .nil => 0
  | .cons _ _ _ a r => 1 + a.nodes + r.nodes
theorem len_nodes : ∀ l : F, l.len ≤ l.nodes
  | .nil => Nat.le_refl _
  | .cons _ _ _ a r => by have := len_nodes r; show r.len + 1 ≤ 1 + a.nodes + r.nodes; omega
theorem okF_of_chk : ∀ (l : F) (n : Nat), l.nums → (chkF l n).1 = 0 → okF l ∧ (chkF l n).2 = n + l.nodes
  | .nil, _, _, _ => ⟨trivial, rfl⟩
  | .cons o nm t a r, n, hn, h => by
    rw [chkF_c] at h ⊢
    by_cases h1 : 200 ≤ n
    · rw [if_pos h1] at h; cases h
    rw [if_neg h1] at h ⊢
    by_cases h2 : formedB o nm t a.len = false
    · rw [if_pos h2] at h; cases h
    rw [if_neg h2] at h ⊢
    by_cases h3 : namedB o t = false
    · rw [if_pos h3] at h; cases h
    rw [if_neg h3] at h ⊢
    by_cases h4 : (chkF a (n + 1)).1 = 0
    · rw [if_pos h4] at h ⊢
      obtain ⟨k1, e1⟩ := okF_of_chk a (n + 1) hn.2.1 h4
      obtain ⟨k2, e2⟩ := okF_of_chk r _ hn.2.2 h
      exact ⟨⟨by simpa using h2, by simpa using h3, hn.1, k1, k2⟩, by rw [e2, e1]; show n + 1 + a.nodes + r.nodes = n + (1 + a.nodes + r.nodes); omega⟩
    · rw [if_neg h4] at h
      exact absurd h h4
def sumLen : List Tx → Nat
  | [] => 0
  | x :: r => x.text.length + sumLen r
theorem commas_len : ∀ l : List Tx, (commas l).length ≤ sumLen l + 2 * l.length
  | [] => by simp [commas, sumLen]
  | [x] => by simp [commas, sumLen]
  | x :: y :: r => by
    have := commas_len (y :: r)
    show (x.text ++ [44, 32] ++ commas (y :: r)).length ≤ x.text.length + sumLen (y :: r) + 2 * (r.length + 1 + 1)
    simp only [List.length_append, List.length_cons, List.length_nil] at this ⊢
    omega
theorem esc_len (c : UInt8) : (esc c).length ≤ 4 := by unfold esc; split <;> (try split) <;> simp
theorem escT_len : ∀ t : List UInt8, (escT t).length ≤ 4 * t.length
  | [] => by simp [escT]
  | c :: r => by
    have h1 := esc_len c
    have h2 := escT_len r
    have e : escT (c :: r) = esc c ++ escT r := rfl
    rw [e, List.length_append, List.length_cons]
    omega
theorem leaf_len {op num : Int} {t : List UInt8} {k : Nat} (h7 : 1 ≤ op ∧ op ≤ 7) (hf : formedB op num t k = true) (hn : namedB op t = true) (hnum : num ≤ 9223372036854775807) (h5 : op ≠ 5) : (leafL op num t).length ≤ 270 ∧ leafL op num t ≠ [] := by
  have h : op = 1 ∨ op = 2 ∨ op = 3 ∨ op = 4 ∨ op = 6 ∨ op = 7 := by omega
  rcases h with rfl | rfl | rfl | rfl | rfl | rfl
  · have h0 : 0 ≤ num := by simp [formedB] at hf; omega
    have e : leafL 1 num t = decZ num := rfl
    rw [e]
    refine ⟨?_, (decZ_num num).2⟩
    unfold decZ
    rw [if_neg (by omega)]
    have := digs_len19 num.toNat (by omega)
    omega
  · have h0 : t.length ≤ 64 := by simp [formedB] at hf; omega
    have e : leafL 2 num t = 34 :: (escT t ++ [34]) := rfl
    have := escT_len t
    rw [e]
    exact ⟨by simp; omega, by simp⟩
  · have e : leafL 3 num t = (if num = 1 then [116, 114, 117, 101] else [102, 97, 108, 115, 101]) := rfl
    rw [e]
    split <;> exact ⟨by simp, by simp⟩
  · have h0 : nameB t = true := by simpa [namedB] using hn
    have := nameB_len h0
    have e : leafL 4 num t = 39 :: t := rfl
    rw [e]
    exact ⟨by simp; omega, by simp⟩
  · have h0 : nameB t = true := by simp [namedB] at hn; exact hn.1
    have := nameB_len h0
    have e : leafL 6 num t = t := rfl
    rw [e]
    refine ⟨by omega, fun e => ?_⟩
    rw [e] at h0
    cases h0
  · have h0 : nameB t = true := by simpa [namedB] using hn
    have := nameB_len h0
    have e : leafL 7 num t = [109, 115, 103, 46] ++ t := rfl
    rw [e]
    exact ⟨by simp; omega, by simp⟩
theorem within_len (x : Tx) (k : Nat) : (x.within k).1.length ≤ x.text.length + 2 ∧ (x.within k).2 ≤ x.open_ + 1 := by
  unfold Tx.within
  split
  · simp
  · simp
theorem sign_len (o : Int) : (signL o).length ≤ 2 := by
  unfold signL
  repeat' split
  all_goals simp
theorem node_len {op num : Int} {t : List UInt8} {l : List Tx} (hf : formedB op num t l.length = true) (hn : namedB op t = true) (hnum : num ≤ 9223372036854775807) :
    (nodeTx op num t l).text.length ≤ sumLen l + 2 * l.length + 300 ∧ (nodeTx op num t l).open_ ≤ most l + 2 ∧ (nodeTx op num t l).text ≠ [] := by
  have hc := formed_cnt hf
  have hcm := commas_len l
  unfold cntB at hc
  unfold nodeTx
  by_cases h10 : op = 10 ∨ op = 11
  · rw [if_pos h10]
    cases l with
    | nil => rcases h10 with rfl | rfl <;> simp at hc
    | cons x r =>
      have h1 := within_len x 5
      have h2 : (if op = 10 then ([33] : List UInt8) else [45]).length = 1 := by split <;> rfl
      refine ⟨?_, ?_, ?_⟩
      · simp only [List.length_append, sumLen]; omega
      · simp only [most]; omega
      · simp only
        intro e
        have := congrArg List.length e
        simp only [List.length_append, List.length_nil] at this
        omega
  rw [if_neg h10]
  by_cases h5 : op = 5
  · rw [if_pos h5]
    refine ⟨?_, by simp only; omega, by simp⟩
    simp only [List.length_append, List.length_cons, List.length_nil]; omega
  rw [if_neg h5]
  by_cases h12 : op = 12
  · rw [if_pos h12]
    refine ⟨?_, by simp only; omega, by simp⟩
    simp only [List.length_append, List.length_cons, List.length_nil, wLen]; omega
  rw [if_neg h12]
  by_cases h25 : op = 25
  · rw [if_pos h25]
    refine ⟨?_, by simp only; omega, by simp⟩
    simp only [List.length_append, List.length_cons, List.length_nil, wAt]; omega
  rw [if_neg h25]
  by_cases h26 : op = 26
  · rw [if_pos h26]
    refine ⟨?_, by simp only; omega, by simp⟩
    simp only [List.length_append, List.length_cons, List.length_nil, wPush]; omega
  rw [if_neg h26]
  by_cases h9 : op < 10
  · rw [if_pos h9]
    have h7 : 1 ≤ op ∧ op ≤ 7 := by
      rw [if_neg h5] at hc
      by_cases h7 : 1 ≤ op ∧ op ≤ 7
      · exact h7
      · rw [if_neg h7, if_neg (by omega), if_neg (by omega)] at hc; cases hc
    obtain ⟨h1, h2⟩ := leaf_len h7 hf hn hnum h5
    exact ⟨by simp only; omega, by simp only; omega, h2⟩
  rw [if_neg h9]
  have hl : l.length = 2 := by
    rw [if_neg h5, if_neg (by omega)] at hc
    by_cases h11 : 10 ≤ op ∧ op ≤ 12
    · omega
    rw [if_neg h11] at hc
    split at hc
    · simpa using hc
    · cases hc
  match l, hl with
  | [x, y], _ =>
    have h1 := within_len x (if bound op = 2 then 3 else bound op)
    have h2 := within_len y (bound op + 1)
    have h3 := sign_len op
    refine ⟨?_, ?_, ?_⟩
    · simp only [List.length_append, List.length_cons, List.length_nil, sumLen]; omega
    · simp only [most]; omega
    · simp only
      intro e
      have := congrArg List.length e
      simp only [List.length_append, List.length_nil, List.length_cons] at this
      omega
theorem txF_length : ∀ l : F, (txF l).length = l.len
  | .nil => rfl
  | .cons o n t a r => by show (txF r).length + 1 = r.len + 1; rw [txF_length r]
theorem txF_len : ∀ l : F, okF l → sumLen (txF l) + 2 * l.len ≤ 310 * l.nodes ∧ most (txF l) ≤ 2 * l.nodes
  | .nil, _ => ⟨Nat.le_refl _, Nat.le_refl _⟩
  | .cons o n t a r, h => by
    obtain ⟨a1, a2⟩ := txF_len a h.2.2.2.1
    obtain ⟨r1, r2⟩ := txF_len r h.2.2.2.2
    obtain ⟨n1, n2, _⟩ := node_len (l := txF a) (by rw [txF_length]; exact h.1) h.2.1 h.2.2.1
    rw [txF_length] at n1
    have e : txF (.cons o n t a r) = nodeTx o n t (txF a) :: txF r := rfl
    rw [e]
    constructor
    · show (nodeTx o n t (txF a)).text.length + sumLen (txF r) + 2 * (r.len + 1) ≤ 310 * (1 + a.nodes + r.nodes)
      omega
    · show max (nodeTx o n t (txF a)).open_ (most (txF r)) ≤ 2 * (1 + a.nodes + r.nodes)
      omega
theorem tx_len (t : T) (hn : t.row.nums) (h : (t.chk 0).1 = 0) : okF t.row ∧ t.tx.text.length ≤ 62000 ∧ t.tx.open_ ≤ 400 ∧ t.tx.text ≠ [] := by
  obtain ⟨k, e⟩ := okF_of_chk t.row 0 hn h
  have hc := chkF_count t.row 0 (by omega) h
  obtain ⟨h1, h2⟩ := txF_len t.row k
  have e1 : txF t.row = [t.tx] := rfl
  rw [e1] at h1 h2
  have h3 : t.tx.text.length + 0 + 2 * 1 ≤ 310 * t.row.nodes := h1
  have h4 : max t.tx.open_ 0 ≤ 2 * t.row.nodes := h2
  exact ⟨k, by omega, by omega, (node_len (l := txF t.args) (by rw [txF_length]; exact k.1) k.2.1 k.2.2.1).2.2⟩
end Go.Proofs.YtlmmfhbdebfgkaaGreatDoor.Ex
namespace Go.Proofs.YtlmmfhbdebfgkaaGreatDoor.Ex
open Go.RowKit
open Lx Va
theorem cells_u8 : Tryz.prog.cellsOf 5 = 1 := by kernel_rfl
theorem wstring_any (b : Nat) (l : List UInt8) (o d : Int) (w : World) (h : Wr w b l o d) (h0 : l ≠ []) :
    Calls Tryz.prog 23 #[.pointer (some ⟨b, 0, none⟩)] w fun e w' => e = .returned (.string (S l)) ∧ Below b w w' := by
  obtain ⟨p, v, hb, hp, hown⟩ := h.has
  have hl0 : l.length ≠ 0 := by simpa using h0
  obtain ⟨g, cap, cur, fz, rfl, hbg, hg, hfz, hnc, hcm, hcs, htake⟩ : ∃ g cap cur fz, v = .slice (some ⟨g, 0, none⟩) l.length cap ∧ b + 1 ≤ g ∧ w.heap[g]? = some (.cells cur 5 fz) ∧ fz.2 ≤ l.length * 1 ∧ l.length ≤ cap ∧ cap ≤ maxLen ∧ cur.size = cap * 1 ∧ cur.toList.take (l.length * 1) = Lib.byteCells l := by
    rcases (World.ownsRowF_of hown).2 with ⟨_, hz⟩ | ⟨g, cap, cur, fz, hv, r⟩
    · exact absurd hz hl0
    · exact ⟨g, cap, cur, fz, hv, r⟩
  have c1 : w.drew.cell? ⟨b, 1, none⟩ = some (.slice (some ⟨g, 0, none⟩) l.length cap) := hb.c1
  have hSD : (Builtin.unsafeSliceData_ #[67] 107 #[.slice (some ⟨g, 0, none⟩) l.length cap]).run Tryz.prog w.drew = .ok (.pointer (some ⟨g, 0, none⟩)) w.drew :=
    Lib.run_unsafeSliceData_row _ _ _ _ _ _ (by omega)
  have hUS : (Builtin.unsafeString_ #[107, 3] 9 #[.pointer (some ⟨g, 0, none⟩), .int .i64 l.length]).run Tryz.prog w.drew = .ok (.string ⟨l.toArray⟩) (w.drew.freeze ⟨g, 0, none⟩ l.length) := by
    refine Lib.run_unsafeString_row w.drew 107 3 9 5 Tryz.underlying107 cells_u8 g cur.size (by have hg' : w.drew.heap[g]? = some (.cells cur 5 fz) := hg; simp [World.shape?, hg']) l h0 (by omega) (by unfold maxLen at hcm; omega) ?_
    intro j x hx
    have := (World.ownsRowF_of hown).cells (g := g) rfl j (.int .u8 x.toNat) (by simp [Lib.byteCells, hx])
    exact this
  clear hb hp hown h hfz hnc hcm hcs htake
  have mixed : Tryz.prog.follows Departure.mixedOrders = true := by kernel_rfl
  go_enter Tryz.func23, Tryz.ntmps23
  go_wp2
  go_region_o
  all_goals (go_wp2; go_ret; exact ⟨rfl, Lib.below_freeze (Below.drew (Below.refl b w)) (p := ⟨g, 0, none⟩) (by show b ≤ g; omega) _⟩)
theorem exprPrint_any (t : T) (hfit : t.row.fits) (hnums : t.row.nums) (p : Option Addr) (c : Nat) (w : World) (htab : Tab w) (hC : ConsAt w) (hF : FAt w (· < w.heap.size) t.args p) :
    Calls Tryz.prog 10 #[.agg #[.int .i64 t.op, .int .i64 t.num, .string (S t.text), .slice p t.args.len c]] w fun e w' => e = .returned (.tuple #[.string (S (printM t).1), .int .i64 ((printM t).2 : Nat)]) ∧ Below w.heap.size w w' := by
  have hc0 := chkF_count t.row 0 (by omega)
  have htx := tx_len t hnums
  obtain ⟨W1, hW1⟩ : ∃ W1, W1 = w.alloc (.cells #[.int .i64 t.op, .int .i64 t.num, .string (S t.text), .slice p t.args.len c] 24) := ⟨_, rfl⟩
  have hs1 : W1.heap.size = w.heap.size + 1 := by rw [hW1]; simp
  have b1 : Below w.heap.size w W1 := by rw [hW1]; exact (Below.refl _ _).alloc (Nat.le_refl _) _
  have b2 : Below w.heap.size w (W1.alloc (.cells #[.int .i64 0] 64)) := b1.alloc (by omega) _
  have hck : Ck (W1.alloc (.cells #[.int .i64 0] 64)) W1.heap.size 0 := heap_alloc_new W1 _
  have hbx1 := Bx.new w (.int .i64 t.op) (.int .i64 t.num) (.string (S t.text)) (.slice p t.args.len c)
  rw [← hW1] at hbx1
  have hbx2 := hbx1.keep (Kept.alloc (ok := fun _ => True) W1 (.cells #[.int .i64 0] 64)) trivial
  have hFk := hF.keep (Kept.of_below (ok := (· < w.heap.size)) b2)
  rw [hs1] at hck
  have hF2 : FAt (W1.alloc (.cells #[.int .i64 0] 64)) (· ≠ w.heap.size + 1) t.args p := FAt.mono (fun g _ hg => by omega) _ _ hFk
  have HCH := Lib.hid (chk_any (w.heap.size + 1) t hfit 0 p c _ (by omega) hck (hC.keep (Kept.of_below (ok := fun _ => True) b2) trivial) (by have := hC.2; omega) hF2)
  have HB2 := Lib.hid b2
  have HFK := Lib.hid hFk
  have HBX2 := Lib.hid hbx2
  have HS2 := Lib.hid (show (W1.alloc (.cells #[.int .i64 0] 64)).heap.size = w.heap.size + 1 + 1 by simp [hs1])
  have HTX := Lib.hid htx
  have HTAB := Lib.hid htab
  have HC := Lib.hid hC
  have HFI := Lib.hid hfit
  rw [hW1] at HCH HB2 HFK HBX2 HS2
  clear hW1 hs1 b1 b2 hck hbx1 hbx2 hFk hF2 htx htab hC hF W1
  by_cases hbad : (t.chk 0).1 = 0
  · obtain ⟨hok, hlen, hop, hne⟩ := HTX.out hbad
    have HPM := Lib.hid (show printM t = if 20 < t.tx.open_ then ([], 26) else (t.tx.text, 0) by unfold printM; rw [if_neg (by simpa using hbad)])
    rw [hbad] at HCH
    have HOK := Lib.hid hok
    have HNE := Lib.hid hne
    clear hok hne hbad
    go_enter Tryz.func10, Tryz.ntmps10
    go_wp2_with fail
    refine HCH.out.mono ?_
    rintro e w3 ⟨rfl, o3, _⟩
    have hb3 := Only.below HB2.out o3 (by rw [HS2.out]; omega) (by omega)
    have hx3 := HBX2.out.keep o3.kept (by show w.heap.size ≠ w.heap.size + 1; omega)
    have HX3 := Lib.hid hx3
    obtain ⟨W4, hW4⟩ : ∃ W4, W4 = w3.alloc (.cells #[.pointer none, .slice none 0 0, .int .i64 0, .int .i64 0] 71) := ⟨_, rfl⟩
    have hb4 : Below w.heap.size w W4 := by rw [hW4]; exact hb3.alloc hb3.size _
    have hwb : WrB W4 w3.heap.size (.pointer none) (.slice none 0 0) 0 0 := by rw [hW4]; exact heap_alloc_new w3 _
    have hWr : Wr W4 w3.heap.size [] (0 : Nat) (0 : Nat) := ⟨_, _, hwb, .inl rfl, World.ownsRow_nil _ _ _ _⟩
    have hF4 : FAt W4 (Oth W4 w3.heap.size) t.args p := by
      have h1 := HFK.out.keep (w' := W4) (by rw [hW4]; exact (Kept.of_below (ok := (· < w.heap.size)) (Below.refl _ _)).trans ((o3.kept.mono (fun g hg => by show g ≠ w.heap.size + 1; omega)).trans (Kept.alloc w3 _)))
      exact FAt.mono (fun g _ hg => Oth.low hWr (by have := hb3.size; omega)) _ _ h1
    have hx4 := hx3.keep (Kept.alloc (ok := fun _ => True) w3 (.cells #[.pointer none, .slice none 0 0, .int .i64 0, .int .i64 0] 71)) trivial
    have p0 := hx4.c0
    have p1 := hx4.c1
    have p2 := hx4.c2
    have p3 := hx4.c3
    have hcall := (tree_all w w3.heap.size ⟨HTAB.out, HC.out, hb3.size⟩ t.row HFI.out HOK.out).1 [] 0 0 p c W4 (by show 0 + t.tx.open_ ≤ 100000; omega) (by show 0 + t.tx.text.length ≤ 1000000000; omega) (Nat.le_refl _) hWr hb4 hF4
    have HCALL := Lib.hid (show Calls Tryz.prog 22 #[.pointer (some ⟨w3.heap.size, 0, none⟩), .agg #[.int .i64 t.op, .int .i64 t.num, .string (S t.text), .slice p t.args.len c]] W4 (fun e w' => e = .returned (.tuple #[]) ∧ Wr w' w3.heap.size t.tx.text (0 : Nat) ((t.tx.open_ : Nat) : Int) ∧ Wk w3.heap.size W4 w') from by
      refine hcall.mono ?_
      rintro e w' ⟨h1, h2, h3⟩
      have e1 : max 0 (0 + t.tx.open_) = t.tx.open_ := by omega
      have h2' : Wr w' w3.heap.size t.tx.text (0 : Nat) ((max 0 (0 + t.tx.open_) : Nat) : Int) := h2
      rw [e1] at h2'
      exact ⟨h1, h2', h3⟩)
    have HB4 := Lib.hid hb4
    have HW4 := Lib.hid hW4
    have hb3s := hb3.size
    rw [← hW4] at p0 p1 p2 p3
    clear hb3 hx3 hb4 hwb hWr hF4 hx4 hcall o3
    rw [hW4] at p0 p1 p2 p3 HCALL HB4
    clear hW4 HW4
    go_wp2_with fail
    refine HCALL.out.mono ?_
    rintro e w5 ⟨rfl, hw5, k5⟩
    have c3 := hw5.c3
    have HW5 := Lib.hid hw5
    have HB5 := Lib.hid (HB4.out.trans (k5.below.mono hb3s))
    clear hw5 k5
    by_cases h20 : 20 < t.tx.open_
    · have HR := Lib.hid (show printM t = ([], 26) by rw [HPM.out, if_pos h20])
      have h20i : (20 : Int) < (t.tx.open_ : Int) := by omega
      go_wp2_with fail
      go_ret2
      rw [HR.out]
      exact ⟨rfl, HB5.out⟩
    · have HR := Lib.hid (show printM t = (t.tx.text, 0) by rw [HPM.out, if_neg h20])
      have h20i : ¬ (20 : Int) < (t.tx.open_ : Int) := by omega
      have HST := Lib.hid (wstring_any w3.heap.size t.tx.text (0 : Nat) ((t.tx.open_ : Nat) : Int) w5 HW5.out HNE.out)
      go_wp2_with fail
      refine HST.out.mono ?_
      rintro e w6 ⟨rfl, b6⟩
      have HB6 := Lib.hid (HB5.out.trans (b6.mono hb3s))
      clear b6
      go_wp2_with fail
      go_ret2
      rw [HR.out]
      exact ⟨rfl, HB6.out⟩
  · have hpm : printM t = ([], (t.chk 0).1) := by unfold printM; rw [if_pos hbad]
    rw [hpm]
    simp only
    generalize hcd : (t.chk 0).1 = cd at *
    have hce2 : ((cd : Int) == 0) = false := by rw [beq_eq_false_iff_ne]; omega
    have hce3 : ((cd : Int) != 0) = true := by simp; exact hbad
    go_enter Tryz.func10, Tryz.ntmps10
    go_wp2_with fail
    refine HCH.out.mono ?_
    rintro e w3 ⟨rfl, o3, _⟩
    have HB3 := Lib.hid (Only.below HB2.out o3 (by rw [HS2.out]; omega) (by omega))
    clear o3
    go_wp2_with fail
    try simp only [Exit.inBlock, Exit.then]
    go_ret2
    exact ⟨rfl, HB3.out⟩
end Go.Proofs.YtlmmfhbdebfgkaaGreatDoor.Ex
namespace Go.Proofs.YtlmmfhbdebfgkaaGreatDoor.Ty
open Go.RowKit
open Ex Lx
theorem infoT : (Tryz.prog.info? 44).map (fun i => (i.zero, i.size, i.bytes)) = some (some (.agg #[.int .i64 0, .string ⟨#[]⟩, .string ⟨#[]⟩]), 3, 40) := by kernel_rfl
def TRow (w : World) (H n : Nat) (l : List TT) : Prop :=
  ∃ cur, w.heap[H]? = some (.cells cur 44 (0, 0)) ∧ cur.size = n * 3 ∧ ∀ i, (h : i < l.length) → cur[i * 3]? = some (.int .i64 l[i].kind) ∧ cur[i * 3 + 1]? = some (.string (S l[i].enum)) ∧ cur[i * 3 + 2]? = some (.string (S l[i].lit))
theorem make_tt (w : World) (n : Nat) (hn : n ≤ 100000) : ∃ w2 : World, (Instr.makeSlice 122 (.int .i64 (n : Int)) (.int .i64 (n : Int))).run Tryz.prog w = .ok (.slice (some ⟨w.heap.size, 0, none⟩) n n) w2 ∧ TRow w2 w.heap.size n [] ∧ Below w.heap.size w w2 := by
  obtain ⟨i0, hi, hz0, hz1, hz2⟩ := info_parts infoT
  obtain ⟨w2, hmk, hown, hgr⟩ := run_make_full (P := Tryz.prog) w w.heap.size 122 44 i0 _ 3 Tryz.underlying122 hi hz0 hz1 .i64 .i64 n (by rw [hz2]; omega) (by unfold maxLen; omega) (Nat.le_refl _)
  refine ⟨w2, hmk, ?_, (Below.refl _ _).grown hgr (Nat.le_refl _) (by simp)⟩
  rcases hown.2 with ⟨h1, _⟩ | ⟨g, cap, cur, h1, _, h3, _, _, h6, _⟩
  · cases h1
  · injection h1 with e1 e2 e3
    injection e1 with e1
    injection e1 with e1 _ _
    subst e1 e3
    exact ⟨cur, h3, h6, fun i hi => absurd hi (Nat.not_lt_zero _)⟩
theorem TRow.lt {w : World} {H n : Nat} {l : List TT} (h : TRow w H n l) : H < w.heap.size := by
  obtain ⟨cur, hb, _⟩ := h
  exact (Array.getElem?_eq_some_iff.1 hb).1
theorem TRow.later {w w' : World} {H n : Nat} {l : List TT} (h : TRow w H n l) (k : Below w.heap.size w w') : TRow w' H n l := by
  have hlt := h.lt
  obtain ⟨cur, hb, r⟩ := h
  exact ⟨cur, (k.block H hlt).trans hb, r⟩
theorem TRow.fz {w : World} {H n : Nat} {l : List TT} (h : TRow w H n l) (j : Nat) : w.frozen? ⟨H, j, none⟩ = false := by
  obtain ⟨cur, hb, _⟩ := h
  exact frozen_of_row w H j _ _ hb
theorem TRow.room {w : World} {H n : Nat} {l : List TT} (h : TRow w H n l) (i j : Nat) (hi : i < n) (hj : j < 3) : ∃ u, w.cell? ⟨H, i * 3 + j, none⟩ = some u := by
  obtain ⟨cur, hb, hs, _⟩ := h
  rw [cell_of_row w H (i * 3 + j) _ _ (0, 0) hb]
  exact ⟨_, Array.getElem?_eq_getElem (by omega)⟩
theorem TRow.put {w : World} {H n : Nat} {l : List TT} (h : TRow w H n l) (i : Nat) (hi : i = l.length) (hn : i < n) (t : TT) :
    TRow (((w.setCell ⟨H, i * 3, none⟩ (.int .i64 t.kind)).setCell ⟨H, i * 3 + 1, none⟩ (.string (S t.enum))).setCell ⟨H, i * 3 + 2, none⟩ (.string (S t.lit))) H n (l ++ [t]) := by
  subst hi
  obtain ⟨cur, hb, hs, hc⟩ := h
  refine ⟨_, heap_setCell_same _ H _ _ _ _ (heap_setCell_same _ H _ _ _ _ (heap_setCell_same w H _ _ _ _ hb)), by simp [hs], fun j hj => ?_⟩
  rw [List.length_append] at hj
  simp only [List.length_singleton] at hj
  by_cases e : j < l.length
  · obtain ⟨h0, h1, h2⟩ := hc j e
    rw [List.getElem_append_left e]
    refine ⟨?_, ?_, ?_⟩
    · rw [Array.getElem?_setIfInBounds_ne (by omega), Array.getElem?_setIfInBounds_ne (by omega), Array.getElem?_setIfInBounds_ne (by omega)]; exact h0
    · rw [Array.getElem?_setIfInBounds_ne (by omega), Array.getElem?_setIfInBounds_ne (by omega), Array.getElem?_setIfInBounds_ne (by omega)]; exact h1
    · rw [Array.getElem?_setIfInBounds_ne (by omega), Array.getElem?_setIfInBounds_ne (by omega), Array.getElem?_setIfInBounds_ne (by omega)]; exact h2
  · obtain rfl : j = l.length := by omega
    rw [List.getElem_append_right (by omega)]
    simp only [Nat.sub_self, List.getElem_cons_zero]
    refine ⟨?_, ?_, ?_⟩
    · rw [Array.getElem?_setIfInBounds_ne (by omega), Array.getElem?_setIfInBounds_ne (by omega), Array.getElem?_setIfInBounds_self_of_lt (by omega)]
    · rw [Array.getElem?_setIfInBounds_ne (by omega), Array.getElem?_setIfInBounds_self_of_lt (by simp; omega)]
    · rw [Array.getElem?_setIfInBounds_self_of_lt (by simp; omega)]
theorem TRow.at_ {w : World} {H n : Nat} {l : List TT} (h : TRow w H n l) : TTsAt w (some ⟨H, 0, none⟩) l := fun i hi => by
  have hlt := h.lt
  obtain ⟨cur, hb, hs, hc⟩ := h
  obtain ⟨h0, h1, h2⟩ := hc i hi
  refine ⟨H, 0, rfl, hlt, ?_, ?_, ?_⟩
  · rw [Nat.zero_add]; exact (cell_of_row w H _ _ _ (0, 0) hb).trans h0
  · rw [Nat.zero_add]; exact (cell_of_row w H _ _ _ (0, 0) hb).trans h1
  · rw [Nat.zero_add]; exact (cell_of_row w H _ _ _ (0, 0) hb).trans h2
-- the mathematics of the walk
def joinT (l : List TT) (x : List TT × Nat) : List TT × Nat := if x.2 = 0 then (l ++ x.1, 0) else ([], x.2)
theorem tyF_err (s : Sc) : ∀ l : F, (tyF s l).2 ≠ 0 → (tyF s l).1 = []
  | .nil, h => absurd rfl h
  | .cons o n t a r, h => by
    rw [tyF_cons] at h ⊢
    by_cases h1 : (tyT s ⟨o, n, t, a⟩).2 = 0
    · rw [if_pos h1] at h ⊢
      by_cases h2 : (tyF s r).2 = 0
      · rw [if_pos h2] at h; exact absurd rfl h
      · rw [if_neg h2]
    · rw [if_neg h1]
theorem joinT_nil (s : Sc) (l : F) : tyF s l = joinT [] (tyF s l) := by
  unfold joinT
  by_cases h : (tyF s l).2 = 0
  · rw [if_pos h, List.nil_append]
    exact Prod.ext rfl h
  · rw [if_neg h]
    exact Prod.ext (tyF_err s l h) rfl
theorem joinT_ok (s : Sc) (d : List TT) (o n : Int) (t : List UInt8) (a r : F) (x : TT) (h : tyT s ⟨o, n, t, a⟩ = (x, 0)) : joinT d (tyF s (.cons o n t a r)) = joinT (d ++ [x]) (tyF s r) := by
  rw [tyF_cons, h]
  simp only [if_true]
  unfold joinT
  by_cases h2 : (tyF s r).2 = 0
  · rw [if_pos h2, if_pos h2]; simp
  · rw [if_neg h2, if_neg h2]; simp [h2]
theorem joinT_bad (s : Sc) (d : List TT) (o n : Int) (t : List UInt8) (a r : F) (x : TT) (e : Nat) (he : e ≠ 0) (h : tyT s ⟨o, n, t, a⟩ = (x, e)) : joinT d (tyF s (.cons o n t a r)) = ([], e) := by
  rw [tyF_cons, h]
  simp only [if_neg he]
  unfold joinT
  simp [he]
theorem joinT_end (s : Sc) (d : List TT) : joinT d (tyF s .nil) = (d, 0) := by
  unfold joinT
  simp [tyF]
end Go.Proofs.YtlmmfhbdebfgkaaGreatDoor.Ty
