/- ZExWrH -/
import Derived.Test.YtchjckdjkecjnaaGreatDoorYExWrG
namespace Go.Proofs.YtchjckdjkecjnaaGreatDoor.Ex
open Go.RowKit
open Lx Va
theorem one_row {A : F} (h : A.len = 1) : ∃ x : T, A = .cons x.op x.num x.text x.args .nil := by
  cases A with
  | nil => simp [F.len] at h
  | cons o n t a r =>
    cases r with
    | nil => exact ⟨⟨o, n, t, a⟩, rfl⟩
    | cons _ _ _ _ _ => simp [F.len] at h
theorem two_row {A : F} (h : A.len = 2) : ∃ x y : T, A = .cons x.op x.num x.text x.args (.cons y.op y.num y.text y.args .nil) := by
  cases A with
  | nil => simp [F.len] at h
  | cons o n t a r =>
    cases r with
    | nil => simp [F.len] at h
    | cons o2 n2 t2 a2 r2 =>
      cases r2 with
      | nil => exact ⟨⟨o, n, t, a⟩, ⟨o2, n2, t2, a2⟩, rfl⟩
      | cons _ _ _ _ _ => simp [F.len] at h
theorem formed_cnt {o n : Int} {t : List UInt8} {k : Nat} (h : formedB o n t k = true) : cntB o k = true := by
  simp [formedB] at h
  exact h.1.1.1.1.1
set_option maxHeartbeats 2000000 in
theorem tree_any (w0 : World) (b : Nat) (B : Base w0 b) (op num : Int) (tx : List UInt8) (A : F) (hA : WtAll w0 b A) (hl : A.fits) (hlen : A.len ≤ 281474976710656) (hf : formedB op num tx A.len = true) (hn : namedB op tx = true) (hnum : num ≤ 9223372036854775807) : WtC w0 b ⟨op, num, tx, A⟩ := by
  intro l o d p c w ho hlL hod hW h0 hF
  have hp : WPre w0 b ⟨op, num, tx, A⟩ l o d p w := ⟨ho, hlL, hod, hW, h0, hF⟩
  have hc := formed_cnt hf
  clear ho hlL hod hW h0 hF
  unfold cntB at hc
  by_cases h5 : op = 5
  · subst h5
    exact tree_list w0 b B num tx A hA hlen l o d p c w hp
  rw [if_neg h5] at hc
  by_cases h7 : 1 ≤ op ∧ op ≤ 7
  · exact tree_leaf w0 b B op num tx A h7 h5 hf hn hnum l o d p c w hp
  rw [if_neg h7] at hc
  have h5b : (op == 5) = false := by rw [beq_eq_false_iff_ne]; exact h5
  by_cases h10 : 10 ≤ op ∧ op ≤ 12
  · rw [if_pos h10] at hc
    have h1 : A.len = 1 := by simpa using hc
    have h3 : op = 10 ∨ op = 11 ∨ op = 12 := by omega
    rcases h3 with rfl | rfl | rfl
    · obtain ⟨x, rfl⟩ := one_row h1
      exact tree_un w0 b B 10 num tx x hA.1 hl.2.1 [33] 10 1 false rfl (by simp) h5b rfl l o d p c w hp
    · obtain ⟨x, rfl⟩ := one_row h1
      exact tree_un w0 b B 11 num tx x hA.1 hl.2.1 [45] 11 1 false rfl (by simp) h5b rfl l o d p c w hp
    · exact tree_call w0 b B 12 num tx A hA hlen [108, 101, 110] 12 1 false rfl (by simp) h5b rfl l o d p c w hp
  rw [if_neg h10] at hc
  by_cases h20 : 20 ≤ op ∧ op ≤ 26 ∨ 30 ≤ op ∧ op ≤ 33 ∨ op = 40 ∨ op = 41
  · rw [if_pos h20] at hc
    have h2 : A.len = 2 := by simpa using hc
    by_cases h25 : op = 25 ∨ op = 26
    · rcases h25 with rfl | rfl
      · exact tree_call w0 b B 25 num tx A hA hlen [97, 116] 25 2 false rfl (by simp) h5b rfl l o d p c w hp
      · exact tree_call w0 b B 26 num tx A hA hlen [112, 117, 115, 104] 26 2 false rfl (by simp) h5b rfl l o d p c w hp
    · obtain ⟨x, y, rfl⟩ := two_row h2
      have hb : op = 20 ∨ op = 21 ∨ op = 22 ∨ op = 23 ∨ op = 24 ∨ op = 30 ∨ op = 31 ∨ op = 32 ∨ op = 33 ∨ op = 40 ∨ op = 41 := by omega
      rcases hb with rfl | rfl | rfl | rfl | rfl | rfl | rfl | rfl | rfl | rfl | rfl
      · exact tree_bin w0 b B 20 num tx x y hA.1 hA.2.1 hl.2.1 hl.2.2.2.2.1 [42] 20 2 false 4 (by decide) rfl (by simp) h5b rfl l o d p c w hp
      · exact tree_bin w0 b B 21 num tx x y hA.1 hA.2.1 hl.2.1 hl.2.2.2.2.1 [47] 21 2 false 4 (by decide) rfl (by simp) h5b rfl l o d p c w hp
      · exact tree_bin w0 b B 22 num tx x y hA.1 hA.2.1 hl.2.1 hl.2.2.2.2.1 [37] 22 2 false 4 (by decide) rfl (by simp) h5b rfl l o d p c w hp
      · exact tree_bin w0 b B 23 num tx x y hA.1 hA.2.1 hl.2.1 hl.2.2.2.2.1 [43] 23 2 false 3 (by decide) rfl (by simp) h5b rfl l o d p c w hp
      · exact tree_bin w0 b B 24 num tx x y hA.1 hA.2.1 hl.2.1 hl.2.2.2.2.1 [45] 24 2 false 3 (by decide) rfl (by simp) h5b rfl l o d p c w hp
      · exact tree_bin w0 b B 30 num tx x y hA.1 hA.2.1 hl.2.1 hl.2.2.2.2.1 [61, 61] 30 2 false 2 (by decide) rfl (by simp) h5b rfl l o d p c w hp
      · exact tree_bin w0 b B 31 num tx x y hA.1 hA.2.1 hl.2.1 hl.2.2.2.2.1 [33, 61] 31 2 false 2 (by decide) rfl (by simp) h5b rfl l o d p c w hp
      · exact tree_bin w0 b B 32 num tx x y hA.1 hA.2.1 hl.2.1 hl.2.2.2.2.1 [60] 32 2 false 2 (by decide) rfl (by simp) h5b rfl l o d p c w hp
      · exact tree_bin w0 b B 33 num tx x y hA.1 hA.2.1 hl.2.1 hl.2.2.2.2.1 [60, 61] 33 2 false 2 (by decide) rfl (by simp) h5b rfl l o d p c w hp
      · exact tree_bin w0 b B 40 num tx x y hA.1 hA.2.1 hl.2.1 hl.2.2.2.2.1 [38, 38] 40 2 false 1 (by decide) rfl (by simp) h5b rfl l o d p c w hp
      · exact tree_bin w0 b B 41 num tx x y hA.1 hA.2.1 hl.2.1 hl.2.2.2.2.1 [124, 124] 41 2 false 0 (by decide) rfl (by simp) h5b rfl l o d p c w hp
  · rw [if_neg h20] at hc
    cases hc
theorem tree_all (w0 : World) (b : Nat) (B : Base w0 b) : ∀ l : F, l.fits → okF l → WtAll w0 b l
  | .nil, _, _ => trivial
  | .cons o n t a r, h, k => ⟨tree_any w0 b B o n t a (tree_all w0 b B a h.2.2.1 k.2.2.2.1) h.2.2.1 h.2.1 k.1 k.2.1 k.2.2.1, tree_all w0 b B r h.2.2.2 k.2.2.2.2⟩
end Go.Proofs.YtchjckdjkecjnaaGreatDoor.Ex
