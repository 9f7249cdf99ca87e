/-
  ExWrH, ExWrI, ExTxB.
-/
import Derived.Test.YtlmmfhbdebfgkaaGreatDoorVExWrG
import Derived.Test.YtlmmfhbdebfgkaaGreatDoorVExWrDQ
set_option linter.unusedVariables false
set_option linter.unusedSimpArgs false
set_option maxRecDepth 100000
set_option maxHeartbeats 4000000
namespace Go.Proofs.YtlmmfhbdebfgkaaGreatDoor.Ex
open Go.RowKit
open Lx Va
theorem one_row {A : F} (h : A.len = 1) : ∃ x : T, A = .cons x.op x.num x.text x.args .nil := by
  cases A with
  | nil => simp [F.len] at h
  | cons o n t a r =>
    cases r with
    | nil => exact ⟨⟨o, n, t, a⟩, rfl⟩
    | cons _ _ _ _ _ => simp [F.len] at h
theorem two_row {A : F} (h : A.len = 2) : ∃ x y : T, A = .cons x.op x.num x.text x.args (.cons y.op y.num y.text y.args .nil) := by
  cases A with
  | nil => simp [F.len] at h
  | cons o n t a r =>
    cases r with
    | nil => simp [F.len] at h
    | cons o2 n2 t2 a2 r2 =>
      cases r2 with
      | nil => exact ⟨⟨o, n, t, a⟩, ⟨o2, n2, t2, a2⟩, rfl⟩
      | cons _ _ _ _ _ => simp [F.len] at h
theorem formed_cnt {o n : Int} {t : List UInt8} {k : Nat} (h : formedB o n t k = true) : cntB o k = true := by
  simp [formedB] at h
  exact h.1.1.1.1.1
theorem tree_any (w0 : World) (b : Nat) (B : Base w0 b) (op num : Int) (tx : List UInt8) (A : F) (hA : WtAll w0 b A) (hl : A.fits) (hlen : A.len ≤ 281474976710656) (hf : formedB op num tx A.len = true) (hn : namedB op tx = true) (hnum : num ≤ 9223372036854775807) : WtC w0 b ⟨op, num, tx, A⟩ := by
  intro l o d p c w ho hlL hod hW h0 hF
  have hp : WPre w0 b ⟨op, num, tx, A⟩ l o d p w := ⟨ho, hlL, hod, hW, h0, hF⟩
  have hc := formed_cnt hf
  clear ho hlL hod hW h0 hF
  unfold cntB at hc
  by_cases h5 : op = 5
  · subst h5
    exact tree_list w0 b B num tx A hA hlen l o d p c w hp
  rw [if_neg h5] at hc
  by_cases h7 : 1 ≤ op ∧ op ≤ 7
  · exact tree_leaf w0 b B op num tx A h7 h5 hf hn hnum l o d p c w hp
  rw [if_neg h7] at hc
  have h5b : (op == 5) = false := by rw [beq_eq_false_iff_ne]; exact h5
  by_cases h10 : 10 ≤ op ∧ op ≤ 12
  · rw [if_pos h10] at hc
    have h1 : A.len = 1 := by simpa using hc
    have h3 : op = 10 ∨ op = 11 ∨ op = 12 := by omega
    rcases h3 with rfl | rfl | rfl
    · obtain ⟨x, rfl⟩ := one_row h1
      exact tree_un w0 b B 10 num tx x hA.1 hl.2.1 [33] 10 1 false rfl (by simp) h5b rfl l o d p c w hp
    · obtain ⟨x, rfl⟩ := one_row h1
      exact tree_un w0 b B 11 num tx x hA.1 hl.2.1 [45] 11 1 false rfl (by simp) h5b rfl l o d p c w hp
    · exact tree_call w0 b B 12 num tx A hA hlen [108, 101, 110] 12 1 false rfl (by simp) h5b rfl l o d p c w hp
  rw [if_neg h10] at hc
  by_cases h20 : 20 ≤ op ∧ op ≤ 26 ∨ 30 ≤ op ∧ op ≤ 33 ∨ op = 40 ∨ op = 41
  · rw [if_pos h20] at hc
    have h2 : A.len = 2 := by simpa using hc
    by_cases h25 : op = 25 ∨ op = 26
    · rcases h25 with rfl | rfl
      · exact tree_call w0 b B 25 num tx A hA hlen [97, 116] 25 2 false rfl (by simp) h5b rfl l o d p c w hp
      · exact tree_call w0 b B 26 num tx A hA hlen [112, 117, 115, 104] 26 2 false rfl (by simp) h5b rfl l o d p c w hp
    · obtain ⟨x, y, rfl⟩ := two_row h2
      have hb : op = 20 ∨ op = 21 ∨ op = 22 ∨ op = 23 ∨ op = 24 ∨ op = 30 ∨ op = 31 ∨ op = 32 ∨ op = 33 ∨ op = 40 ∨ op = 41 := by omega
      rcases hb with rfl | rfl | rfl | rfl | rfl | rfl | rfl | rfl | rfl | rfl | rfl
      · exact tree_bin w0 b B 20 num tx x y hA.1 hA.2.1 hl.2.1 hl.2.2.2.2.1 [42] 20 2 false 4 (by decide) rfl (by simp) h5b rfl l o d p c w hp
      · exact tree_bin w0 b B 21 num tx x y hA.1 hA.2.1 hl.2.1 hl.2.2.2.2.1 [47] 21 2 false 4 (by decide) rfl (by simp) h5b rfl l o d p c w hp
      · exact tree_bin w0 b B 22 num tx x y hA.1 hA.2.1 hl.2.1 hl.2.2.2.2.1 [37] 22 2 false 4 (by decide) rfl (by simp) h5b rfl l o d p c w hp
      · exact tree_bin w0 b B 23 num tx x y hA.1 hA.2.1 hl.2.1 hl.2.2.2.2.1 [43] 23 2 false 3 (by decide) rfl (by simp) h5b rfl l o d p c w hp
      · exact tree_bin w0 b B 24 num tx x y hA.1 hA.2.1 hl.2.1 hl.2.2.2.2.1 [45] 24 2 false 3 (by decide) rfl (by simp) h5b rfl l o d p c w hp
      · exact tree_bin w0 b B 30 num tx x y hA.1 hA.2.1 hl.2.1 hl.2.2.2.2.1 [61, 61] 30 2 false 2 (by decide) rfl (by simp) h5b rfl l o d p c w hp
      · exact tree_bin w0 b B 31 num tx x y hA.1 hA.2.1 hl.2.1 hl.2.2.2.2.1 [33, 61] 31 2 false 2 (by decide) rfl (by simp) h5b rfl l o d p c w hp
      · exact tree_bin w0 b B 32 num tx x y hA.1 hA.2.1 hl.2.1 hl.2.2.2.2.1 [60] 32 2 false 2 (by decide) rfl (by simp) h5b rfl l o d p c w hp
      · exact tree_bin w0 b B 33 num tx x y hA.1 hA.2.1 hl.2.1 hl.2.2.2.2.1 [60, 61] 33 2 false 2 (by decide) rfl (by simp) h5b rfl l o d p c w hp
      · exact tree_bin w0 b B 40 num tx x y hA.1 hA.2.1 hl.2.1 hl.2.2.2.2.1 [38, 38] 40 2 false 1 (by decide) rfl (by simp) h5b rfl l o d p c w hp
      · exact tree_bin w0 b B 41 num tx x y hA.1 hA.2.1 hl.2.1 hl.2.2.2.2.1 [124, 124] 41 2 false 0 (by decide) rfl (by simp) h5b rfl l o d p c w hp
  · rw [if_neg h20] at hc
    cases hc
theorem tree_all (w0 : World) (b : Nat) (B : Base w0 b) : ∀ l : F, l.fits → okF l → WtAll w0 b l
  | .nil, _, _ => trivial
  | .cons o n t a r, h, k => ⟨tree_any w0 b B o n t a (tree_all w0 b B a h.2.2.1 k.2.2.2.1) h.2.2.1 h.2.1 k.1 k.2.1 k.2.2.1, tree_all w0 b B r h.2.2.2 k.2.2.2.2⟩
end Go.Proofs.YtlmmfhbdebfgkaaGreatDoor.Ex
namespace Go.Proofs.YtlmmfhbdebfgkaaGreatDoor.Ex
open Go.RowKit
open Lx Va
def F.nums : F → Prop
  | .nil => True
  | .cons _ n _ a r => n ≤ 9223372036854775807 ∧ a.nums ∧ r.nums
def F.nodes : F → Nat
  | .nil => 0
  | .cons _ _ _ a r => 1 + a.nodes + r.nodes
theorem len_nodes : ∀ l : F, l.len ≤ l.nodes
  | .nil => Nat.le_refl _
  | .cons _ _ _ a r => by have := len_nodes r; show r.len + 1 ≤ 1 + a.nodes + r.nodes; omega
theorem okF_of_chk : ∀ (l : F) (n : Nat), l.nums → (chkF l n).1 = 0 → okF l ∧ (chkF l n).2 = n + l.nodes
  | .nil, _, _, _ => ⟨trivial, rfl⟩
  | .cons o nm t a r, n, hn, h => by
    rw [chkF_c] at h ⊢
    by_cases h1 : 200 ≤ n
    · rw [if_pos h1] at h; cases h
    rw [if_neg h1] at h ⊢
    by_cases h2 : formedB o nm t a.len = false
    · rw [if_pos h2] at h; cases h
    rw [if_neg h2] at h ⊢
    by_cases h3 : namedB o t = false
    · rw [if_pos h3] at h; cases h
    rw [if_neg h3] at h ⊢
    by_cases h4 : (chkF a (n + 1)).1 = 0
    · rw [if_pos h4] at h ⊢
      obtain ⟨k1, e1⟩ := okF_of_chk a (n + 1) hn.2.1 h4
      obtain ⟨k2, e2⟩ := okF_of_chk r _ hn.2.2 h
      exact ⟨⟨by simpa using h2, by simpa using h3, hn.1, k1, k2⟩, by rw [e2, e1]; show n + 1 + a.nodes + r.nodes = n + (1 + a.nodes + r.nodes); omega⟩
    · rw [if_neg h4] at h
      exact absurd h h4
def sumLen : List Tx → Nat
  | [] => 0
  | x :: r => x.text.length + sumLen r
theorem commas_len : ∀ l : List Tx, (commas l).length ≤ sumLen l + 2 * l.length
  | [] => by simp [commas, sumLen]
  | [x] => by simp [commas, sumLen]
  | x :: y :: r => by
    have := commas_len (y :: r)
    show (x.text ++ [44, 32] ++ commas (y :: r)).length ≤ x.text.length + sumLen (y :: r) + 2 * (r.length + 1 + 1)
    simp only [List.length_append, List.length_cons, List.length_nil] at this ⊢
    omega
theorem esc_len (c : UInt8) : (esc c).length ≤ 4 := by unfold esc; split <;> (try split) <;> simp
theorem escT_len : ∀ t : List UInt8, (escT t).length ≤ 4 * t.length
  | [] => by simp [escT]
  | c :: r => by
    have h1 := esc_len c
    have h2 := escT_len r
    have e : escT (c :: r) = esc c ++ escT r := rfl
    rw [e, List.length_append, List.length_cons]
    omega
theorem leaf_len {op num : Int} {t : List UInt8} {k : Nat} (h7 : 1 ≤ op ∧ op ≤ 7) (hf : formedB op num t k = true) (hn : namedB op t = true) (hnum : num ≤ 9223372036854775807) (h5 : op ≠ 5) : (leafL op num t).length ≤ 270 ∧ leafL op num t ≠ [] := by
  have h : op = 1 ∨ op = 2 ∨ op = 3 ∨ op = 4 ∨ op = 6 ∨ op = 7 := by omega
  rcases h with rfl | rfl | rfl | rfl | rfl | rfl
  · have h0 : 0 ≤ num := by simp [formedB] at hf; omega
    have e : leafL 1 num t = decZ num := rfl
    rw [e]
    refine ⟨?_, (decZ_num num).2⟩
    unfold decZ
    rw [if_neg (by omega)]
    have := digs_len19 num.toNat (by omega)
    omega
  · have h0 : t.length ≤ 64 := by simp [formedB] at hf; omega
    have e : leafL 2 num t = 34 :: (escT t ++ [34]) := rfl
    have := escT_len t
    rw [e]
    exact ⟨by simp; omega, by simp⟩
  · have e : leafL 3 num t = (if num = 1 then [116, 114, 117, 101] else [102, 97, 108, 115, 101]) := rfl
    rw [e]
    split <;> exact ⟨by simp, by simp⟩
  · have h0 : nameB t = true := by simpa [namedB] using hn
    have := nameB_len h0
    have e : leafL 4 num t = 39 :: t := rfl
    rw [e]
    exact ⟨by simp; omega, by simp⟩
  · have h0 : nameB t = true := by simp [namedB] at hn; exact hn.1
    have := nameB_len h0
    have e : leafL 6 num t = t := rfl
    rw [e]
    refine ⟨by omega, fun e => ?_⟩
    rw [e] at h0
    cases h0
  · have h0 : nameB t = true := by simpa [namedB] using hn
    have := nameB_len h0
    have e : leafL 7 num t = [109, 115, 103, 46] ++ t := rfl
    rw [e]
    exact ⟨by simp; omega, by simp⟩
theorem within_len (x : Tx) (k : Nat) : (x.within k).1.length ≤ x.text.length + 2 ∧ (x.within k).2 ≤ x.open_ + 1 := by
  unfold Tx.within
  split
  · simp
  · simp
theorem sign_len (o : Int) : (signL o).length ≤ 2 := by
  unfold signL
  repeat' split
  all_goals simp
theorem node_len {op num : Int} {t : List UInt8} {l : List Tx} (hf : formedB op num t l.length = true) (hn : namedB op t = true) (hnum : num ≤ 9223372036854775807) :
    (nodeTx op num t l).text.length ≤ sumLen l + 2 * l.length + 300 ∧ (nodeTx op num t l).open_ ≤ most l + 2 ∧ (nodeTx op num t l).text ≠ [] := by
  have hc := formed_cnt hf
  have hcm := commas_len l
  unfold cntB at hc
  unfold nodeTx
  by_cases h10 : op = 10 ∨ op = 11
  · rw [if_pos h10]
    cases l with
    | nil => rcases h10 with rfl | rfl <;> simp at hc
    | cons x r =>
      have h1 := within_len x 5
      have h2 : (if op = 10 then ([33] : List UInt8) else [45]).length = 1 := by split <;> rfl
      refine ⟨?_, ?_, ?_⟩
      · simp only [List.length_append, sumLen]; omega
      · simp only [most]; omega
      · simp only
        intro e
        have := congrArg List.length e
        simp only [List.length_append, List.length_nil] at this
        omega
  rw [if_neg h10]
  by_cases h5 : op = 5
  · rw [if_pos h5]
    refine ⟨?_, by simp only; omega, by simp⟩
    simp only [List.length_append, List.length_cons, List.length_nil]; omega
  rw [if_neg h5]
  by_cases h12 : op = 12
  · rw [if_pos h12]
    refine ⟨?_, by simp only; omega, by simp⟩
    simp only [List.length_append, List.length_cons, List.length_nil, wLen]; omega
  rw [if_neg h12]
  by_cases h25 : op = 25
  · rw [if_pos h25]
    refine ⟨?_, by simp only; omega, by simp⟩
    simp only [List.length_append, List.length_cons, List.length_nil, wAt]; omega
  rw [if_neg h25]
  by_cases h26 : op = 26
  · rw [if_pos h26]
    refine ⟨?_, by simp only; omega, by simp⟩
    simp only [List.length_append, List.length_cons, List.length_nil, wPush]; omega
  rw [if_neg h26]
  by_cases h9 : op < 10
  · rw [if_pos h9]
    have h7 : 1 ≤ op ∧ op ≤ 7 := by
      rw [if_neg h5] at hc
      by_cases h7 : 1 ≤ op ∧ op ≤ 7
      · exact h7
      · rw [if_neg h7, if_neg (by omega), if_neg (by omega)] at hc; cases hc
    obtain ⟨h1, h2⟩ := leaf_len h7 hf hn hnum h5
    exact ⟨by simp only; omega, by simp only; omega, h2⟩
  rw [if_neg h9]
  have hl : l.length = 2 := by
    rw [if_neg h5, if_neg (by omega)] at hc
    by_cases h11 : 10 ≤ op ∧ op ≤ 12
    · omega
    rw [if_neg h11] at hc
    split at hc
    · simpa using hc
    · cases hc
  match l, hl with
  | [x, y], _ =>
    have h1 := within_len x (if bound op = 2 then 3 else bound op)
    have h2 := within_len y (bound op + 1)
    have h3 := sign_len op
    refine ⟨?_, ?_, ?_⟩
    · simp only [List.length_append, List.length_cons, List.length_nil, sumLen]; omega
    · simp only [most]; omega
    · simp only
      intro e
      have := congrArg List.length e
      simp only [List.length_append, List.length_nil, List.length_cons] at this
      omega
theorem txF_length : ∀ l : F, (txF l).length = l.len
  | .nil => rfl
  | .cons o n t a r => by show (txF r).length + 1 = r.len + 1; rw [txF_length r]
theorem txF_len : ∀ l : F, okF l → sumLen (txF l) + 2 * l.len ≤ 310 * l.nodes ∧ most (txF l) ≤ 2 * l.nodes
  | .nil, _ => ⟨Nat.le_refl _, Nat.le_refl _⟩
  | .cons o n t a r, h => by
    obtain ⟨a1, a2⟩ := txF_len a h.2.2.2.1
    obtain ⟨r1, r2⟩ := txF_len r h.2.2.2.2
    obtain ⟨n1, n2, _⟩ := node_len (l := txF a) (by rw [txF_length]; exact h.1) h.2.1 h.2.2.1
    rw [txF_length] at n1
    have e : txF (.cons o n t a r) = nodeTx o n t (txF a) :: txF r := rfl
    rw [e]
    constructor
    · show (nodeTx o n t (txF a)).text.length + sumLen (txF r) + 2 * (r.len + 1) ≤ 310 * (1 + a.nodes + r.nodes)
      omega
    · show max (nodeTx o n t (txF a)).open_ (most (txF r)) ≤ 2 * (1 + a.nodes + r.nodes)
      omega
theorem tx_len (t : T) (hn : t.row.nums) (h : (t.chk 0).1 = 0) : okF t.row ∧ t.tx.text.length ≤ 62000 ∧ t.tx.open_ ≤ 400 ∧ t.tx.text ≠ [] := by
  obtain ⟨k, e⟩ := okF_of_chk t.row 0 hn h
  have hc := chkF_count t.row 0 (by omega) h
  obtain ⟨h1, h2⟩ := txF_len t.row k
  have e1 : txF t.row = [t.tx] := rfl
  rw [e1] at h1 h2
  have h3 : t.tx.text.length + 0 + 2 * 1 ≤ 310 * t.row.nodes := h1
  have h4 : max t.tx.open_ 0 ≤ 2 * t.row.nodes := h2
  exact ⟨k, by omega, by omega, (node_len (l := txF t.args) (by rw [txF_length]; exact k.1) k.2.1 k.2.2.1).2.2⟩
end Go.Proofs.YtlmmfhbdebfgkaaGreatDoor.Ex
namespace Go.Proofs.YtlmmfhbdebfgkaaGreatDoor.Ex
open Go.RowKit
open Lx Va
theorem rp2 (t : List UInt8) (ht : t.length ≤ 100000) (w : World) : Calls Tryz.prog 101 #[.agg #[.int .i64 3, .int .i64 0, .string (S t), .slice none 0 0]] w fun e w' => e = .returned (.string (S (34 :: (escT t ++ [34])))) ∧ Below w.heap.size w w' :=
  refPrint_text 0 t [] ht none 0 w
theorem rp3 (n : Int) (h : n = 0 ∨ n = 1) (w : World) : Calls Tryz.prog 101 #[.agg #[.int .i64 2, .int .i64 n, .string ⟨#[]⟩, .slice none 0 0]] w fun e w' => e = .returned (.string (S (printV ⟨2, n, [], []⟩))) ∧ Below w.heap.size w w' :=
  refPrint_any ⟨2, n, [], []⟩ ⟨by rcases h with rfl | rfl <;> decide, by simp, by simp, by simp⟩ (by rcases h with rfl | rfl <;> rfl) none 0 w (fun i hi => absurd hi (Nat.not_lt_zero i))
theorem rtext_1 (num : Int) (tx : List UInt8) (A : F) (h : 0 ≤ num) (h2 : num ≤ 9223372036854775807) : RtxC ⟨1, num, tx, A⟩ := by
  intro p c w hfa
  have e : T.tx ⟨1, num, tx, A⟩ = ⟨1, decZ num, 0⟩ := rfl
  rw [e]
  dsimp only
  clear e
  have hb0 := (Below.refl w.heap.size w).alloc (Nat.le_refl _) (.cells #[.int .i64 1, .int .i64 num, .string (S tx), .slice p A.len c] 24)
  have HB0 := Lib.hid hb0
  clear hb0 hfa
  have HC := Lib.hid (dec_any num · (by omega) h2)
  generalize S (decZ num) = R at *
  clear h h2
  go_enter Tryz.func59, Tryz.ntmps59
  go_wp2_with fail
  refine (HC.out _).mono ?_
  rintro e w1 ⟨rfl, b1⟩
  have HB1 := Lib.hid (HB0.out.trans (b1.mono HB0.out.size))
  clear b1
  go_wp2_with fail
  go_ret2
  exact ⟨rfl, HB1.out⟩
theorem rtext_2 (num : Int) (tx : List UInt8) (A : F) (h : tx.length ≤ 64) : RtxC ⟨2, num, tx, A⟩ := by
  intro p c w hfa
  have e : T.tx ⟨2, num, tx, A⟩ = ⟨2, 34 :: (escT tx ++ [34]), 0⟩ := rfl
  rw [e]
  dsimp only
  clear e
  have hb0 := (Below.refl w.heap.size w).alloc (Nat.le_refl _) (.cells #[.int .i64 2, .int .i64 num, .string (S tx), .slice p A.len c] 24)
  have HB0 := Lib.hid hb0
  clear hb0 hfa
  have HC := Lib.hid (fun wr => rp2 tx (by omega) wr)
  generalize S (34 :: (escT tx ++ [34])) = R at *
  go_enter Tryz.func59, Tryz.ntmps59
  go_wp2_with fail
  refine (HC.out _).mono ?_
  rintro e w1 ⟨rfl, b1⟩
  have HB1 := Lib.hid (HB0.out.trans (b1.mono HB0.out.size))
  clear b1
  go_wp2_with fail
  go_ret2
  exact ⟨rfl, HB1.out⟩
theorem rtext_3 (num : Int) (tx : List UInt8) (A : F) (h : num = 0 ∨ num = 1) : RtxC ⟨3, num, tx, A⟩ := by
  intro p c w hfa
  have e : T.tx ⟨3, num, tx, A⟩ = ⟨3, printV ⟨2, num, [], []⟩, 0⟩ := rfl
  rw [e]
  dsimp only
  clear e
  have hb0 := (Below.refl w.heap.size w).alloc (Nat.le_refl _) (.cells #[.int .i64 3, .int .i64 num, .string (S tx), .slice p A.len c] 24)
  have HB0 := Lib.hid hb0
  clear hb0 hfa
  have HC := Lib.hid (fun wr => rp3 num h wr)
  generalize S (printV ⟨2, num, [], []⟩) = R at *
  clear h
  go_enter Tryz.func59, Tryz.ntmps59
  go_wp2_with fail
  refine (HC.out _).mono ?_
  rintro e w1 ⟨rfl, b1⟩
  have HB1 := Lib.hid (HB0.out.trans (b1.mono HB0.out.size))
  clear b1
  go_wp2_with fail
  go_ret2
  exact ⟨rfl, HB1.out⟩
theorem rtext_4 (num : Int) (tx : List UInt8) (A : F) (h : tx.length ≤ 100000) : RtxC ⟨4, num, tx, A⟩ := by
  intro p c w hfa
  have e : T.tx ⟨4, num, tx, A⟩ = ⟨4, 39 :: tx, 0⟩ := rfl
  rw [e]
  dsimp only
  clear e
  have hb0 := (Below.refl w.heap.size w).alloc (Nat.le_refl _) (.cells #[.int .i64 4, .int .i64 num, .string (S tx), .slice p A.len c] 24)
  have HB0 := Lib.hid hb0
  clear hb0 hfa
  have ha : ∀ w, (Op.stringOp .add ⟨#[39]⟩ (S tx)).run Tryz.prog w = .ok (.string (S (39 :: tx))) w := fun w => add_run [39] tx (by simp; omega) w
  generalize S (39 :: tx) = R at *
  go_enter Tryz.func59, Tryz.ntmps59
  go_wp2_with fail
  go_ret2
  exact ⟨rfl, HB0.out⟩
theorem rtext_6 (num : Int) (tx : List UInt8) (A : F)  : RtxC ⟨6, num, tx, A⟩ := by
  intro p c w hfa
  have e : T.tx ⟨6, num, tx, A⟩ = ⟨6, tx, 0⟩ := rfl
  rw [e]
  dsimp only
  clear e
  have hb0 := (Below.refl w.heap.size w).alloc (Nat.le_refl _) (.cells #[.int .i64 6, .int .i64 num, .string (S tx), .slice p A.len c] 24)
  have HB0 := Lib.hid hb0
  clear hb0 hfa
  go_enter Tryz.func59, Tryz.ntmps59
  go_wp2_with fail
  go_ret2
  exact ⟨rfl, HB0.out⟩
theorem rtext_7 (num : Int) (tx : List UInt8) (A : F) (h : tx.length ≤ 100000) : RtxC ⟨7, num, tx, A⟩ := by
  intro p c w hfa
  have e : T.tx ⟨7, num, tx, A⟩ = ⟨7, wMsg ++ [46] ++ tx, 0⟩ := rfl
  rw [e]
  dsimp only
  clear e
  have hb0 := (Below.refl w.heap.size w).alloc (Nat.le_refl _) (.cells #[.int .i64 7, .int .i64 num, .string (S tx), .slice p A.len c] 24)
  have HB0 := Lib.hid hb0
  clear hb0 hfa
  have ha : ∀ w, (Op.stringOp .add ⟨#[109, 115, 103, 46]⟩ (S tx)).run Tryz.prog w = .ok (.string (S (wMsg ++ [46] ++ tx))) w := fun w => add_run [109, 115, 103, 46] tx (by simp; omega) w
  generalize S (wMsg ++ [46] ++ tx) = R at *
  go_enter Tryz.func59, Tryz.ntmps59
  go_wp2_with fail
  go_ret2
  exact ⟨rfl, HB0.out⟩
theorem rtext_10 (num : Int) (tx : List UInt8) (x : T) (hx : RtxC x) (hl : x.tx.text.length ≤ 100000) (ho : x.tx.open_ ≤ 100000) : RtxC ⟨10, num, tx, .cons x.op x.num x.text x.args .nil⟩ := by
  intro p c w hfa
  have e : T.tx ⟨10, num, tx, .cons x.op x.num x.text x.args .nil⟩ = ⟨10, [33] ++ (x.tx.within 5).1, (x.tx.within 5).2 + 1⟩ := rfl
  have hwl := within_len x.tx 5
  obtain ⟨P, hP⟩ : ∃ P, P = x.tx.within 5 := ⟨_, rfl⟩
  rw [e, ← hP]
  dsimp only
  obtain ⟨R, hR⟩ : ∃ R, R = S ([33] ++ P.1) := ⟨_, rfl⟩
  obtain ⟨O, hO⟩ : ∃ O : Int, O = ((P.2 + 1 : Nat) : Int) := ⟨_, rfl⟩
  rw [← hR, ← hO]
  rw [← hP] at hwl
  clear e
  have hb0 := (Below.refl w.heap.size w).alloc (Nat.le_refl _) (.cells #[.int .i64 10, .int .i64 num, .string (S tx), .slice p 1 c] 24)
  have hbx := Bx.new w (.int .i64 10) (.int .i64 num) (.string (S tx)) (.slice p 1 c)
  obtain ⟨g, k, q, cc, rfl, hgk, hgl, f0, f1, f2, f3, hfa1, _⟩ := hfa
  rw [← hb0.cell (p := ⟨g, _, none⟩) hgl] at f0 f1 f2 f3
  have hgl1 := Nat.lt_of_lt_of_le hgl hb0.size
  have HC := Lib.hid (rwithin_any x hx hl ho 5 (by decide) q cc _ (hfa1.keep (Kept.of_below hb0)))
  rw [← hP] at HC
  have HB0 := Lib.hid hb0
  have HBX := Lib.hid hbx
  have HADD := Lib.hid (fun w => add_run [33] P.1 (by simp; omega) w)
  rw [← hR] at HADD
  have hoi : (P.2 : Int) ≤ 200000 := by omega
  have hoz : (0 : Int) ≤ (P.2 : Int) := by omega
  have HCA := Lib.hid (show (P.2 : Int) + 1 = O by omega)
  clear hb0 hbx hfa1 hx hP hwl hgk hR hO
  show Calls _ _ #[.agg #[.int .i64 10, .int .i64 num, .string (S tx), .slice (some ⟨g, k, none⟩) 1 c]] _ _
  have he : (ByteArray.mk #[33, 45]).extract 0 (0 + 1) = S [33] := rfl
  go_enter Tryz.func59, Tryz.ntmps59
  go_wp2_with fail
  refine HC.out.mono ?_
  rintro e w1 ⟨rfl, b1⟩
  have HB1 := Lib.hid (HB0.out.trans (b1.mono HB0.out.size))
  have hx1 := HBX.out.keep (Kept.of_below (ok := fun _ => True) b1) trivial
  have q0 := hx1.c0
  have ha := HADD.out
  clear b1 hx1
  go_wp2_with fail
  go_ret2
  exact ⟨by rw [← HCA.out]; rfl, HB1.out⟩
theorem rtext_11 (num : Int) (tx : List UInt8) (x : T) (hx : RtxC x) (hl : x.tx.text.length ≤ 100000) (ho : x.tx.open_ ≤ 100000) : RtxC ⟨11, num, tx, .cons x.op x.num x.text x.args .nil⟩ := by
  intro p c w hfa
  have e : T.tx ⟨11, num, tx, .cons x.op x.num x.text x.args .nil⟩ = ⟨11, [45] ++ (x.tx.within 5).1, (x.tx.within 5).2 + 1⟩ := rfl
  have hwl := within_len x.tx 5
  obtain ⟨P, hP⟩ : ∃ P, P = x.tx.within 5 := ⟨_, rfl⟩
  rw [e, ← hP]
  dsimp only
  obtain ⟨R, hR⟩ : ∃ R, R = S ([45] ++ P.1) := ⟨_, rfl⟩
  obtain ⟨O, hO⟩ : ∃ O : Int, O = ((P.2 + 1 : Nat) : Int) := ⟨_, rfl⟩
  rw [← hR, ← hO]
  rw [← hP] at hwl
  clear e
  have hb0 := (Below.refl w.heap.size w).alloc (Nat.le_refl _) (.cells #[.int .i64 11, .int .i64 num, .string (S tx), .slice p 1 c] 24)
  have hbx := Bx.new w (.int .i64 11) (.int .i64 num) (.string (S tx)) (.slice p 1 c)
  obtain ⟨g, k, q, cc, rfl, hgk, hgl, f0, f1, f2, f3, hfa1, _⟩ := hfa
  rw [← hb0.cell (p := ⟨g, _, none⟩) hgl] at f0 f1 f2 f3
  have hgl1 := Nat.lt_of_lt_of_le hgl hb0.size
  have HC := Lib.hid (rwithin_any x hx hl ho 5 (by decide) q cc _ (hfa1.keep (Kept.of_below hb0)))
  rw [← hP] at HC
  have HB0 := Lib.hid hb0
  have HBX := Lib.hid hbx
  have HADD := Lib.hid (fun w => add_run [45] P.1 (by simp; omega) w)
  rw [← hR] at HADD
  have hoi : (P.2 : Int) ≤ 200000 := by omega
  have hoz : (0 : Int) ≤ (P.2 : Int) := by omega
  have HCA := Lib.hid (show (P.2 : Int) + 1 = O by omega)
  clear hb0 hbx hfa1 hx hP hwl hgk hR hO
  show Calls _ _ #[.agg #[.int .i64 11, .int .i64 num, .string (S tx), .slice (some ⟨g, k, none⟩) 1 c]] _ _
  have he : (ByteArray.mk #[33, 45]).extract 1 (1 + 1) = S [45] := rfl
  go_enter Tryz.func59, Tryz.ntmps59
  go_wp2_with fail
  refine HC.out.mono ?_
  rintro e w1 ⟨rfl, b1⟩
  have HB1 := Lib.hid (HB0.out.trans (b1.mono HB0.out.size))
  have hx1 := HBX.out.keep (Kept.of_below (ok := fun _ => True) b1) trivial
  have q0 := hx1.c0
  have ha := HADD.out
  clear b1 hx1
  go_wp2_with fail
  go_ret2
  exact ⟨by rw [← HCA.out]; rfl, HB1.out⟩
end Go.Proofs.YtlmmfhbdebfgkaaGreatDoor.Ex
