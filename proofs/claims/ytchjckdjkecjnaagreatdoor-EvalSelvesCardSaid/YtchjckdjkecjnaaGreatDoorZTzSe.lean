/-
  Several texts in one: EvSelP, EvSelT, EvSelQ, EvSelW.
-/
import Derived.Test.YtchjckdjkecjnaaGreatDoorZTzY
import Derived.KernelRfl
import Derived.Test.YtchjckdjkecjnaaGreatDoorZTzO
namespace Go.Proofs.YtchjckdjkecjnaaGreatDoor.Ev
open Go.RowKit
open Ex Lx Va Ty
set_option linter.unusedVariables false
set_option linter.unusedSimpArgs false

def enAB (a b : Int) : En := ⟨[⟨[97], 0, []⟩, ⟨[98], 0, []⟩], [intV a, intV b], [], []⟩
def slA : F := .cons 6 0 [97] .nil .nil
def slAB : F := .cons 6 0 [97] .nil (.cons 6 0 [98] .nil .nil)
def slX0 : T := ⟨23, 0, [], slAB⟩
def slY0 : T := ⟨30, 0, [], .cons 24 0 [] (.cons 23 0 [] slAB (.cons 6 0 [98] .nil .nil)) slA⟩
def slX1 : T := ⟨20, 0, [], slAB⟩
def slY1 : T := ⟨41, 0, [], .cons 30 0 [] (.cons 6 0 [98] .nil (.cons 1 0 [] .nil .nil)) (.cons 30 0 [] (.cons 21 0 [] (.cons 20 0 [] slAB (.cons 6 0 [98] .nil .nil)) slA) .nil)⟩
def slX2 : T := ⟨21, 0, [], slAB⟩
def slY2 : T := ⟨30, 0, [], .cons 23 0 [] (.cons 20 0 [] (.cons 21 0 [] slAB (.cons 6 0 [98] .nil .nil)) (.cons 22 0 [] slAB .nil)) slA⟩
def slX3 : T := ⟨24, 0, [], slAB⟩
def slY3 : T := ⟨30, 0, [], .cons 23 0 [] (.cons 24 0 [] slAB (.cons 6 0 [98] .nil .nil)) slA⟩
def slX4 : T := ⟨11, 0, [], slA⟩
def slY4 : T := ⟨30, 0, [], .cons 11 0 [] (.cons 11 0 [] slA .nil) slA⟩
theorem sl_fits {n : Int} (h : B64 n) : fits64 n = true := by
  unfold fits64 B64 at *
  simp [h.1, h.2]
theorem sl_a (a b : Int) : namedV (enAB a b).attrs (enAB a b).vals [97] = (intV a, 0) := rfl
theorem sl_b (a b : Int) : namedV (enAB a b).attrs (enAB a b).vals [98] = (intV b, 0) := rfl
/-- What the law asks of the second text. -/
def SlQ (x : V × Nat) : Prop := (x.2 = 0 ∧ x.1.num = 1) ∨ x.2 = 30
def Fo (o : Int) (l : List (V × Nat)) : V × Nat := if (seqE l).2 = 0 then opE o 0 [] (seqE l).1 else (zeroV, (seqE l).2)
theorem fo_eq (x : V × Nat) (a : Int) (h : x = (intV a, 0) ∨ x.2 = 30) : SlQ (Fo 30 [x, (intV a, 0)]) := by
  unfold Fo
  rcases h with rfl | h
  · left
    have ho : ordV (intV a) (intV a) = 0 := (ordV_zero _ _).2 rfl
    simp [seqE, opE, argV, ho, boolV]
  · right
    have h0 : ¬ x.2 = 0 := by omega
    simp [seqE, h0, h]
theorem fo_eq_ok (a : Int) : Fo 30 [(intV a, 0), (intV a, 0)] = (boolV true, 0) := by
  have ho : ordV (intV a) (intV a) = 0 := (ordV_zero _ _).2 rfl
  unfold Fo
  simp [seqE, opE, argV, ho]
theorem fo_add (a b : Int) : Fo 23 [(intV a, 0), (intV b, 0)] = numE (a + b) := by
  unfold Fo; simp [seqE, opE, allV, argV, intV, arithE]
theorem fo_sub (a b : Int) : Fo 24 [(intV a, 0), (intV b, 0)] = numE (a - b) := by
  unfold Fo; simp [seqE, opE, allV, argV, intV, arithE]
theorem fo_mul (a b : Int) : Fo 20 [(intV a, 0), (intV b, 0)] = numE (a * b) := by
  unfold Fo; simp [seqE, opE, allV, argV, intV, arithE]
theorem fo_div (a b : Int) : Fo 21 [(intV a, 0), (intV b, 0)] = if b = 0 then (zeroV, 31) else numE (a.tdiv b) := by
  unfold Fo; simp [seqE, opE, allV, argV, intV, arithE]
theorem fo_rem (a b : Int) : Fo 22 [(intV a, 0), (intV b, 0)] = if b = 0 then (zeroV, 31) else numE (a.tmod b) := by
  unfold Fo; simp [seqE, opE, allV, argV, intV, arithE]
theorem fo_neg (a : Int) : Fo 11 [(intV a, 0)] = numE (-a) := by
  unfold Fo; simp [seqE, opE, allV, argV, intV]
theorem num_ok {n : Int} (h : (numE n).2 = 0) : numE n = (intV n, 0) := by
  unfold numE at h ⊢
  split
  · rfl
  · rename_i h1; rw [if_neg h1] at h; cases h
theorem num_fit {n : Int} (h : B64 n) : numE n = (intV n, 0) := by
  unfold numE; rw [if_pos (sl_fits h)]
theorem num_30 (n : Int) : numE n = (intV n, 0) ∨ (numE n).2 = 30 := by
  unfold numE
  split
  · exact .inl rfl
  · exact .inr rfl
theorem node_fo (v : En) (o : Int) (l : List (V × Nat)) (h6 : o ≠ 6) (h7 : o ≠ 7) (h40 : ¬ (o = 40 ∨ o = 41)) : nodeE v o 0 [] l = Fo o l := by
  unfold nodeE Fo
  rw [if_neg h6, if_neg h7, if_neg h40]
theorem evL_c (v : En) (o n : Int) (t : List UInt8) (a r : F) : evL v (.cons o n t a r) = nodeE v o n t (evL v a) :: evL v r := rfl
section
variable (a b : Int)
theorem nd_a (l : List (V × Nat)) : nodeE (enAB a b) 6 0 [97] l = (intV a, 0) := rfl
theorem nd_b (l : List (V × Nat)) : nodeE (enAB a b) 6 0 [98] l = (intV b, 0) := rfl
theorem ev_nil (v : En) : evL v .nil = [] := rfl
theorem sx0 : evM (enAB a b) slX0 = Fo 23 [(intV a, 0), (intV b, 0)] := by unfold evM; rw [if_pos (by kernel_rfl)]; rfl
theorem sx1 : evM (enAB a b) slX1 = Fo 20 [(intV a, 0), (intV b, 0)] := by unfold evM; rw [if_pos (by kernel_rfl)]; rfl
theorem sx2 : evM (enAB a b) slX2 = Fo 21 [(intV a, 0), (intV b, 0)] := by unfold evM; rw [if_pos (by kernel_rfl)]; rfl
theorem sx3 : evM (enAB a b) slX3 = Fo 24 [(intV a, 0), (intV b, 0)] := by unfold evM; rw [if_pos (by kernel_rfl)]; rfl
theorem sx4 : evM (enAB a b) slX4 = Fo 11 [(intV a, 0)] := by unfold evM; rw [if_pos (by kernel_rfl)]; rfl
theorem sy0 : evM (enAB a b) slY0 = Fo 30 [Fo 24 [Fo 23 [(intV a, 0), (intV b, 0)], (intV b, 0)], (intV a, 0)] := by unfold evM; rw [if_pos (by kernel_rfl)]; rfl
theorem sy1 : evM (enAB a b) slY1 = juncE 41 [Fo 30 [(intV b, 0), (intV 0, 0)], Fo 30 [Fo 21 [Fo 20 [(intV a, 0), (intV b, 0)], (intV b, 0)], (intV a, 0)]] := by
  unfold evM
  rw [if_pos (by kernel_rfl)]
  unfold evT slY1 slA slAB
  simp only [evL_c, ev_nil, nd_a, nd_b, node_fo (enAB a b) 30 _ (by decide) (by decide) (by decide), node_fo (enAB a b) 21 _ (by decide) (by decide) (by decide), node_fo (enAB a b) 20 _ (by decide) (by decide) (by decide)]
  rfl
theorem sy2 : evM (enAB a b) slY2 = Fo 30 [Fo 23 [Fo 20 [Fo 21 [(intV a, 0), (intV b, 0)], (intV b, 0)], Fo 22 [(intV a, 0), (intV b, 0)]], (intV a, 0)] := by
  unfold evM
  rw [if_pos (by kernel_rfl)]
  unfold evT slY2 slA slAB
  simp only [evL_c, ev_nil, nd_a, nd_b, node_fo (enAB a b) 30 _ (by decide) (by decide) (by decide), node_fo (enAB a b) 21 _ (by decide) (by decide) (by decide), node_fo (enAB a b) 20 _ (by decide) (by decide) (by decide), node_fo (enAB a b) 22 _ (by decide) (by decide) (by decide), node_fo (enAB a b) 23 _ (by decide) (by decide) (by decide)]
theorem sy3 : evM (enAB a b) slY3 = Fo 30 [Fo 23 [Fo 24 [(intV a, 0), (intV b, 0)], (intV b, 0)], (intV a, 0)] := by unfold evM; rw [if_pos (by kernel_rfl)]; rfl
theorem sy4 : evM (enAB a b) slY4 = Fo 30 [Fo 11 [Fo 11 [(intV a, 0)]], (intV a, 0)] := by unfold evM; rw [if_pos (by kernel_rfl)]; rfl
end
theorem sl_0 (a b : Int) (ha : B64 a) (hb : B64 b) (h : (evM (enAB a b) slX0).2 = 0) : SlQ (evM (enAB a b) slY0) := by
  rw [sx0, fo_add] at h
  rw [sy0, fo_add, num_ok h, fo_sub, show a + b - b = a by omega]
  exact fo_eq _ a (.inl (num_fit ha))
theorem sl_3 (a b : Int) (ha : B64 a) (hb : B64 b) (h : (evM (enAB a b) slX3).2 = 0) : SlQ (evM (enAB a b) slY3) := by
  rw [sx3, fo_sub] at h
  rw [sy3, fo_sub, num_ok h, fo_add, show a - b + b = a by omega]
  exact fo_eq _ a (.inl (num_fit ha))
theorem sl_4 (a b : Int) (ha : B64 a) (hb : B64 b) (h : (evM (enAB a b) slX4).2 = 0) : SlQ (evM (enAB a b) slY4) := by
  rw [sx4, fo_neg] at h
  rw [sy4, fo_neg, num_ok h, fo_neg, show - -a = a by omega]
  exact fo_eq _ a (.inl (num_fit ha))
theorem sl_1 (a b : Int) (ha : B64 a) (hb : B64 b) (h : (evM (enAB a b) slX1).2 = 0) : SlQ (evM (enAB a b) slY1) := by
  rw [sx1, fo_mul] at h
  rw [sy1, fo_mul, num_ok h, fo_div]
  by_cases h0 : b = 0
  · subst h0
    rw [fo_eq_ok]
    exact .inl ⟨rfl, rfl⟩
  · rw [if_neg h0, Int.mul_tdiv_cancel a h0, num_fit ha, fo_eq_ok]
    have hb0 : Fo 30 [(intV b, 0), (intV 0, 0)] = (boolV false, 0) := by
      have ho : ¬ ordV (intV b) (intV 0) = 0 := fun e => h0 (by have := (ordV_zero _ _).1 e; unfold intV at this; injection this)
      have hob : (ordV (intV b) (intV 0) == 0) = false := by simpa using ho
      unfold Fo
      simp [seqE, opE, argV, hob]
      rfl
    rw [hb0]
    exact .inl ⟨rfl, rfl⟩
theorem sl_2 (a b : Int) (ha : B64 a) (hb : B64 b) (h : (evM (enAB a b) slX2).2 = 0) : SlQ (evM (enAB a b) slY2) := by
  rw [sx2, fo_div] at h
  by_cases h0 : b = 0
  · rw [if_pos h0] at h; cases h
  rw [if_neg h0] at h
  have hr : numE (a.tmod b) = (intV (a.tmod b), 0) := by
    have hf := tmod_fits ⟨ha.1, ha.2⟩ ⟨hb.1, hb.2⟩ h0
    unfold numE; rw [if_pos hf]
  rw [sy2, fo_div, if_neg h0, num_ok h, fo_mul, fo_rem, if_neg h0, hr]
  rcases num_30 (a.tdiv b * b) with e | e
  · rw [e, fo_add, show a.tdiv b * b + a.tmod b = a by have := Int.mul_tdiv_add_tmod a b; rw [Int.mul_comm] at this; exact this]
    exact fo_eq _ a (.inl (num_fit ha))
  · refine fo_eq _ a (.inr ?_)
    unfold Fo
    have hn : ¬ (numE (a.tdiv b * b)).2 = 0 := by omega
    simp [seqE, hn, e]

end Go.Proofs.YtchjckdjkecjnaaGreatDoor.Ev

namespace Go.Proofs.YtchjckdjkecjnaaGreatDoor.Ev
open Go.RowKit
open Ex Lx Va Ty
set_option linter.unusedVariables false
set_option linter.unusedSimpArgs false

def slTX0 : List TA := (scanM [97, 32, 43, 32, 98] 0).1
theorem sls_X0 : scanM (⟨#[97, 32, 43, 32, 98]⟩ : ByteArray).data.toList 0 = (slTX0, none) := by kernel_rfl
theorem slp_X0 : parseM slTX0 0 = .ok slX0 ⟨3, 3, 0⟩ := by kernel_rfl
theorem sle_X0 : 3 + 1 = slTX0.length := by kernel_rfl
theorem slr_X0 (w : World) : Calls Tryz.prog 20 #[.string ⟨#[97, 32, 43, 32, 98]⟩] w (RdP w slX0) := read_ex _ (by decide) slTX0 sls_X0 slX0 _ slp_X0 sle_X0 w
theorem slf_X0 : slX0.row.fits ∧ slX0.row.nums := by
  constructor
  · simp [slX0, slAB, slA, T.row, F.fits, F.len]
  · simp [slX0, slAB, slA, T.row, F.nums]
def slTY0 : List TA := (scanM [97, 32, 43, 32, 98, 32, 45, 32, 98, 32, 61, 61, 32, 97] 0).1
theorem sls_Y0 : scanM (⟨#[97, 32, 43, 32, 98, 32, 45, 32, 98, 32, 61, 61, 32, 97]⟩ : ByteArray).data.toList 0 = (slTY0, none) := by kernel_rfl
theorem slp_Y0 : parseM slTY0 0 = .ok slY0 ⟨7, 7, 0⟩ := by kernel_rfl
theorem sle_Y0 : 7 + 1 = slTY0.length := by kernel_rfl
theorem slr_Y0 (w : World) : Calls Tryz.prog 20 #[.string ⟨#[97, 32, 43, 32, 98, 32, 45, 32, 98, 32, 61, 61, 32, 97]⟩] w (RdP w slY0) := read_ex _ (by decide) slTY0 sls_Y0 slY0 _ slp_Y0 sle_Y0 w
theorem slf_Y0 : slY0.row.fits ∧ slY0.row.nums := by
  constructor
  · simp [slY0, slAB, slA, T.row, F.fits, F.len]
  · simp [slY0, slAB, slA, T.row, F.nums]
def slTX1 : List TA := (scanM [97, 32, 42, 32, 98] 0).1
theorem sls_X1 : scanM (⟨#[97, 32, 42, 32, 98]⟩ : ByteArray).data.toList 0 = (slTX1, none) := by kernel_rfl
theorem slp_X1 : parseM slTX1 0 = .ok slX1 ⟨3, 3, 0⟩ := by kernel_rfl
theorem sle_X1 : 3 + 1 = slTX1.length := by kernel_rfl
theorem slr_X1 (w : World) : Calls Tryz.prog 20 #[.string ⟨#[97, 32, 42, 32, 98]⟩] w (RdP w slX1) := read_ex _ (by decide) slTX1 sls_X1 slX1 _ slp_X1 sle_X1 w
theorem slf_X1 : slX1.row.fits ∧ slX1.row.nums := by
  constructor
  · simp [slX1, slAB, slA, T.row, F.fits, F.len]
  · simp [slX1, slAB, slA, T.row, F.nums]
def slTY1 : List TA := (scanM [98, 32, 61, 61, 32, 48, 32, 124, 124, 32, 97, 32, 42, 32, 98, 32, 47, 32, 98, 32, 61, 61, 32, 97] 0).1
theorem sls_Y1 : scanM (⟨#[98, 32, 61, 61, 32, 48, 32, 124, 124, 32, 97, 32, 42, 32, 98, 32, 47, 32, 98, 32, 61, 61, 32, 97]⟩ : ByteArray).data.toList 0 = (slTY1, none) := by kernel_rfl
theorem slp_Y1 : parseM slTY1 0 = .ok slY1 ⟨11, 11, 0⟩ := by kernel_rfl
theorem sle_Y1 : 11 + 1 = slTY1.length := by kernel_rfl
theorem slr_Y1 (w : World) : Calls Tryz.prog 20 #[.string ⟨#[98, 32, 61, 61, 32, 48, 32, 124, 124, 32, 97, 32, 42, 32, 98, 32, 47, 32, 98, 32, 61, 61, 32, 97]⟩] w (RdP w slY1) := read_ex _ (by decide) slTY1 sls_Y1 slY1 _ slp_Y1 sle_Y1 w
theorem slf_Y1 : slY1.row.fits ∧ slY1.row.nums := by
  constructor
  · simp [slY1, slAB, slA, T.row, F.fits, F.len]
  · simp [slY1, slAB, slA, T.row, F.nums]
def slTX2 : List TA := (scanM [97, 32, 47, 32, 98] 0).1
theorem sls_X2 : scanM (⟨#[97, 32, 47, 32, 98]⟩ : ByteArray).data.toList 0 = (slTX2, none) := by kernel_rfl
theorem slp_X2 : parseM slTX2 0 = .ok slX2 ⟨3, 3, 0⟩ := by kernel_rfl
theorem sle_X2 : 3 + 1 = slTX2.length := by kernel_rfl
theorem slr_X2 (w : World) : Calls Tryz.prog 20 #[.string ⟨#[97, 32, 47, 32, 98]⟩] w (RdP w slX2) := read_ex _ (by decide) slTX2 sls_X2 slX2 _ slp_X2 sle_X2 w
theorem slf_X2 : slX2.row.fits ∧ slX2.row.nums := by
  constructor
  · simp [slX2, slAB, slA, T.row, F.fits, F.len]
  · simp [slX2, slAB, slA, T.row, F.nums]
def slTY2 : List TA := (scanM [97, 32, 47, 32, 98, 32, 42, 32, 98, 32, 43, 32, 97, 32, 37, 32, 98, 32, 61, 61, 32, 97] 0).1
theorem sls_Y2 : scanM (⟨#[97, 32, 47, 32, 98, 32, 42, 32, 98, 32, 43, 32, 97, 32, 37, 32, 98, 32, 61, 61, 32, 97]⟩ : ByteArray).data.toList 0 = (slTY2, none) := by kernel_rfl
theorem slp_Y2 : parseM slTY2 0 = .ok slY2 ⟨11, 11, 0⟩ := by kernel_rfl
theorem sle_Y2 : 11 + 1 = slTY2.length := by kernel_rfl
theorem slr_Y2 (w : World) : Calls Tryz.prog 20 #[.string ⟨#[97, 32, 47, 32, 98, 32, 42, 32, 98, 32, 43, 32, 97, 32, 37, 32, 98, 32, 61, 61, 32, 97]⟩] w (RdP w slY2) := read_ex _ (by decide) slTY2 sls_Y2 slY2 _ slp_Y2 sle_Y2 w
theorem slf_Y2 : slY2.row.fits ∧ slY2.row.nums := by
  constructor
  · simp [slY2, slAB, slA, T.row, F.fits, F.len]
  · simp [slY2, slAB, slA, T.row, F.nums]
def slTX3 : List TA := (scanM [97, 32, 45, 32, 98] 0).1
theorem sls_X3 : scanM (⟨#[97, 32, 45, 32, 98]⟩ : ByteArray).data.toList 0 = (slTX3, none) := by kernel_rfl
theorem slp_X3 : parseM slTX3 0 = .ok slX3 ⟨3, 3, 0⟩ := by kernel_rfl
theorem sle_X3 : 3 + 1 = slTX3.length := by kernel_rfl
theorem slr_X3 (w : World) : Calls Tryz.prog 20 #[.string ⟨#[97, 32, 45, 32, 98]⟩] w (RdP w slX3) := read_ex _ (by decide) slTX3 sls_X3 slX3 _ slp_X3 sle_X3 w
theorem slf_X3 : slX3.row.fits ∧ slX3.row.nums := by
  constructor
  · simp [slX3, slAB, slA, T.row, F.fits, F.len]
  · simp [slX3, slAB, slA, T.row, F.nums]
def slTY3 : List TA := (scanM [97, 32, 45, 32, 98, 32, 43, 32, 98, 32, 61, 61, 32, 97] 0).1
theorem sls_Y3 : scanM (⟨#[97, 32, 45, 32, 98, 32, 43, 32, 98, 32, 61, 61, 32, 97]⟩ : ByteArray).data.toList 0 = (slTY3, none) := by kernel_rfl
theorem slp_Y3 : parseM slTY3 0 = .ok slY3 ⟨7, 7, 0⟩ := by kernel_rfl
theorem sle_Y3 : 7 + 1 = slTY3.length := by kernel_rfl
theorem slr_Y3 (w : World) : Calls Tryz.prog 20 #[.string ⟨#[97, 32, 45, 32, 98, 32, 43, 32, 98, 32, 61, 61, 32, 97]⟩] w (RdP w slY3) := read_ex _ (by decide) slTY3 sls_Y3 slY3 _ slp_Y3 sle_Y3 w
theorem slf_Y3 : slY3.row.fits ∧ slY3.row.nums := by
  constructor
  · simp [slY3, slAB, slA, T.row, F.fits, F.len]
  · simp [slY3, slAB, slA, T.row, F.nums]
def slTX4 : List TA := (scanM [45, 97] 0).1
theorem sls_X4 : scanM (⟨#[45, 97]⟩ : ByteArray).data.toList 0 = (slTX4, none) := by kernel_rfl
theorem slp_X4 : parseM slTX4 0 = .ok slX4 ⟨2, 2, 0⟩ := by kernel_rfl
theorem sle_X4 : 2 + 1 = slTX4.length := by kernel_rfl
theorem slr_X4 (w : World) : Calls Tryz.prog 20 #[.string ⟨#[45, 97]⟩] w (RdP w slX4) := read_ex _ (by decide) slTX4 sls_X4 slX4 _ slp_X4 sle_X4 w
theorem slf_X4 : slX4.row.fits ∧ slX4.row.nums := by
  constructor
  · simp [slX4, slAB, slA, T.row, F.fits, F.len]
  · simp [slX4, slAB, slA, T.row, F.nums]
def slTY4 : List TA := (scanM [45, 45, 97, 32, 61, 61, 32, 97] 0).1
theorem sls_Y4 : scanM (⟨#[45, 45, 97, 32, 61, 61, 32, 97]⟩ : ByteArray).data.toList 0 = (slTY4, none) := by kernel_rfl
theorem slp_Y4 : parseM slTY4 0 = .ok slY4 ⟨5, 5, 0⟩ := by kernel_rfl
theorem sle_Y4 : 5 + 1 = slTY4.length := by kernel_rfl
theorem slr_Y4 (w : World) : Calls Tryz.prog 20 #[.string ⟨#[45, 45, 97, 32, 61, 61, 32, 97]⟩] w (RdP w slY4) := read_ex _ (by decide) slTY4 sls_Y4 slY4 _ slp_Y4 sle_Y4 w
theorem slf_Y4 : slY4.row.fits ∧ slY4.row.nums := by
  constructor
  · simp [slY4, slAB, slA, T.row, F.fits, F.len]
  · simp [slY4, slAB, slA, T.row, F.nums]

end Go.Proofs.YtchjckdjkecjnaaGreatDoor.Ev

namespace Go.Proofs.YtchjckdjkecjnaaGreatDoor.Ev
open Go.RowKit
open Ex Lx Va Ty
set_option linter.unusedVariables false
set_option linter.unusedSimpArgs false

/-- One round's two texts. -/
structure SlR (a b : Int) (W : World) (R k : Nat) (s0 s1 : ByteArray) (X Y : T) : Prop where
  c0 : W.cell? ⟨R, k * 2, none⟩ = some (.string s0)
  c1 : W.cell? ⟨R, k * 2 + 1, none⟩ = some (.string s1)
  r0 : ∀ W', Calls Tryz.prog 20 #[.string s0] W' (RdP W' X)
  r1 : ∀ W', Calls Tryz.prog 20 #[.string s1] W' (RdP W' Y)
  fx : X.row.fits ∧ X.row.nums
  fy : Y.row.fits ∧ Y.row.nums
  q : (evM (enAB a b) X).2 = 0 → SlQ (evM (enAB a b) Y)
def slRow : Array Value := #[.string ⟨#[97, 32, 43, 32, 98]⟩, .string ⟨#[97, 32, 43, 32, 98, 32, 45, 32, 98, 32, 61, 61, 32, 97]⟩, .string ⟨#[97, 32, 42, 32, 98]⟩,
  .string ⟨#[98, 32, 61, 61, 32, 48, 32, 124, 124, 32, 97, 32, 42, 32, 98, 32, 47, 32, 98, 32, 61, 61, 32, 97]⟩, .string ⟨#[97, 32, 47, 32, 98]⟩,
  .string ⟨#[97, 32, 47, 32, 98, 32, 42, 32, 98, 32, 43, 32, 97, 32, 37, 32, 98, 32, 61, 61, 32, 97]⟩, .string ⟨#[97, 32, 45, 32, 98]⟩,
  .string ⟨#[97, 32, 45, 32, 98, 32, 43, 32, 98, 32, 61, 61, 32, 97]⟩, .string ⟨#[45, 97]⟩, .string ⟨#[45, 45, 97, 32, 61, 61, 32, 97]⟩]
theorem sl_round (a b : Int) (ha : B64 a) (hb : B64 b) (W : World) (R k : Nat) (hk : k < 5) (h : W.heap[R]? = some (.cells slRow 61 (0, 0))) : ∃ s0 s1 X Y, SlR a b W R k s0 s1 X Y := by
  have hc : ∀ j, W.cell? ⟨R, j, none⟩ = slRow[j]? := fun j => cell_of_row W R j _ _ (0, 0) h
  have h5 : k = 0 ∨ k = 1 ∨ k = 2 ∨ k = 3 ∨ k = 4 := by omega
  rcases h5 with rfl | rfl | rfl | rfl | rfl
  · exact ⟨_, _, slX0, slY0, ⟨hc 0, hc 1, slr_X0, slr_Y0, slf_X0, slf_Y0, sl_0 a b ha hb⟩⟩
  · exact ⟨_, _, slX1, slY1, ⟨hc 2, hc 3, slr_X1, slr_Y1, slf_X1, slf_Y1, sl_1 a b ha hb⟩⟩
  · exact ⟨_, _, slX2, slY2, ⟨hc 4, hc 5, slr_X2, slr_Y2, slf_X2, slf_Y2, sl_2 a b ha hb⟩⟩
  · exact ⟨_, _, slX3, slY3, ⟨hc 6, hc 7, slr_X3, slr_Y3, slf_X3, slf_Y3, sl_3 a b ha hb⟩⟩
  · exact ⟨_, _, slX4, slY4, ⟨hc 8, hc 9, slr_X4, slr_Y4, slf_X4, slf_Y4, sl_4 a b ha hb⟩⟩
theorem enAB_fit (a b : Int) (ha : B64 a) (hb : B64 b) : EnFit (enAB a b) := ⟨by simp [enAB], by simp [enAB], by simp [enAB], by simp [enAB], fun x hx => by
  have : x = intV a ∨ x = intV b := by simpa [enAB] using hx
  rcases this with rfl | rfl
  · exact good_int ha
  · exact good_int hb, fun x hx => by cases hx⟩
theorem enAB_at (a b : Int) (w : World) (G : Nat) (h0 : w.heap[G]? = some (.cells #[.string ⟨#[97]⟩, .int .i64 0, .string ⟨#[]⟩, .string ⟨#[98]⟩, .int .i64 0, .string ⟨#[]⟩] 42 (0, 0)))
    (h1 : w.heap[G + 1]? = some (.cells #[.int .i64 1, .int .i64 a, .string ⟨#[]⟩, .slice none 0 0, .int .i64 1, .int .i64 b, .string ⟨#[]⟩, .slice none 0 0] 45 (0, 0))) :
    EnAt w (some ⟨G, 0, none⟩) (some ⟨G + 1, 0, none⟩) none none (enAB a b) := by
  have l0 := (Array.getElem?_eq_some_iff.1 h0).1
  have l1 := (Array.getElem?_eq_some_iff.1 h1).1
  have hn : LAt (· < w.heap.size) w none [] 0 := ⟨fun i hi => absurd hi (by simp), Nat.le_refl _, fun _ _ _ h => absurd rfl h⟩
  refine ⟨fun i hi => ?_, fun i hi => ?_, fun i hi => absurd hi (Nat.not_lt_zero _), fun i hi => absurd hi (Nat.not_lt_zero _)⟩
  · have hi2 : i = 0 ∨ i = 1 := by have : i < 2 := hi; omega
    rcases hi2 with rfl | rfl
    · exact ⟨G, 0, rfl, l0, cell_of_row w G _ _ _ (0, 0) h0, cell_of_row w G _ _ _ (0, 0) h0, cell_of_row w G _ _ _ (0, 0) h0⟩
    · exact ⟨G, 0, rfl, l0, cell_of_row w G _ _ _ (0, 0) h0, cell_of_row w G _ _ _ (0, 0) h0, cell_of_row w G _ _ _ (0, 0) h0⟩
  · have hi2 : i = 0 ∨ i = 1 := by have : i < 2 := hi; omega
    rcases hi2 with rfl | rfl
    · exact ⟨G + 1, 0, rfl, ⟨none, 0, cell_of_row w (G + 1) _ _ _ (0, 0) h1, cell_of_row w (G + 1) _ _ _ (0, 0) h1, cell_of_row w (G + 1) _ _ _ (0, 0) h1, cell_of_row w (G + 1) _ _ _ (0, 0) h1, hn⟩, l1⟩
    · exact ⟨G + 1, 0, rfl, ⟨none, 0, cell_of_row w (G + 1) _ _ _ (0, 0) h1, cell_of_row w (G + 1) _ _ _ (0, 0) h1, cell_of_row w (G + 1) _ _ _ (0, 0) h1, cell_of_row w (G + 1) _ _ _ (0, 0) h1, hn⟩, l1⟩

end Go.Proofs.YtchjckdjkecjnaaGreatDoor.Ev

namespace Go.Proofs.YtchjckdjkecjnaaGreatDoor.Ev
open Go.RowKit
open Ex Lx Va Ty
set_option linter.unusedVariables false
set_option linter.unusedSimpArgs false

set_option maxRecDepth 100000 in
set_option maxHeartbeats 8000000 in
theorem EvalSelves_walk (a b : Int) (w : World) (ha : B64 a) (hb : B64 b) (htab : Va.Tab w) (hC : ConsAt w) :
    Calls Tryz.prog 6 #[.int .i64 a, .int .i64 b] w fun e w' => e = .returned (.bool true) ∧ Below w.heap.size w w' := by
  have AW := Lib.hid (fun W (k : Below w.heap.size w W) => awake_any W (htab.below k) (hC.keep (Kept.of_below (ok := fun _ => True) k) trivial))
  have TAB := Lib.hid htab
  have CON := Lib.hid hC
  have HA := Lib.hid ha
  have HBB := Lib.hid hb
  clear htab hC ha hb
  go_enter Tryz.func6, Tryz.ntmps6
  go_wp2_with fail
  refine (AW.out _ (Below.refl _ _)).mono ?_
  rintro e w2 ⟨rfl, b2⟩
  have hb3 := ((((Below.refl w2.heap.size w2).alloc (Nat.le_refl _) (.cells #[.string ⟨#[97]⟩, .int .i64 0, .string ⟨#[]⟩, .string ⟨#[98]⟩, .int .i64 0, .string ⟨#[]⟩] 42)).alloc (by simp) (.cells #[.int .i64 1, .int .i64 a, .string ⟨#[]⟩, .slice none 0 0, .int .i64 1, .int .i64 b, .string ⟨#[]⟩, .slice none 0 0] 45)).alloc (by simp <;> omega) (.cells #[.slice (some ⟨w2.heap.size, 0, none⟩) 2 2, .slice (some ⟨w2.heap.size + 1, 0, none⟩) 2 2, .slice none 0 0, .slice none 0 0] 48)).alloc (by simp <;> omega) (.cells slRow 61)
  have B3 := Lib.hid (b2.trans (hb3.mono b2.size))
  have h0 : ((((w2.alloc (.cells #[.string ⟨#[97]⟩, .int .i64 0, .string ⟨#[]⟩, .string ⟨#[98]⟩, .int .i64 0, .string ⟨#[]⟩] 42)).alloc (.cells #[.int .i64 1, .int .i64 a, .string ⟨#[]⟩, .slice none 0 0, .int .i64 1, .int .i64 b, .string ⟨#[]⟩, .slice none 0 0] 45)).alloc (.cells #[.slice (some ⟨w2.heap.size, 0, none⟩) 2 2, .slice (some ⟨w2.heap.size + 1, 0, none⟩) 2 2, .slice none 0 0, .slice none 0 0] 48)).alloc (.cells slRow 61)).heap[w2.heap.size]? = some (.cells #[.string ⟨#[97]⟩, .int .i64 0, .string ⟨#[]⟩, .string ⟨#[98]⟩, .int .i64 0, .string ⟨#[]⟩] 42 (0, 0)) := ((Below.refl _ _).alloc (Nat.le_refl _) _).block _ (by simp <;> omega) |>.trans (((Below.refl _ _).alloc (Nat.le_refl _) _).block _ (by simp <;> omega) |>.trans (((Below.refl _ _).alloc (Nat.le_refl _) _).block _ (by simp) |>.trans (heap_alloc_new w2 _)))
  have h1 : ((((w2.alloc (.cells #[.string ⟨#[97]⟩, .int .i64 0, .string ⟨#[]⟩, .string ⟨#[98]⟩, .int .i64 0, .string ⟨#[]⟩] 42)).alloc (.cells #[.int .i64 1, .int .i64 a, .string ⟨#[]⟩, .slice none 0 0, .int .i64 1, .int .i64 b, .string ⟨#[]⟩, .slice none 0 0] 45)).alloc (.cells #[.slice (some ⟨w2.heap.size, 0, none⟩) 2 2, .slice (some ⟨w2.heap.size + 1, 0, none⟩) 2 2, .slice none 0 0, .slice none 0 0] 48)).alloc (.cells slRow 61)).heap[w2.heap.size + 1]? = some (.cells #[.int .i64 1, .int .i64 a, .string ⟨#[]⟩, .slice none 0 0, .int .i64 1, .int .i64 b, .string ⟨#[]⟩, .slice none 0 0] 45 (0, 0)) := ((Below.refl _ _).alloc (Nat.le_refl _) _).block _ (by simp <;> omega) |>.trans (((Below.refl _ _).alloc (Nat.le_refl _) _).block _ (by simp) |>.trans (new_box (w2.alloc (.cells #[.string ⟨#[97]⟩, .int .i64 0, .string ⟨#[]⟩, .string ⟨#[98]⟩, .int .i64 0, .string ⟨#[]⟩] 42)) _ _ _ (by simp)))
  have h2 : EC ((((w2.alloc (.cells #[.string ⟨#[97]⟩, .int .i64 0, .string ⟨#[]⟩, .string ⟨#[98]⟩, .int .i64 0, .string ⟨#[]⟩] 42)).alloc (.cells #[.int .i64 1, .int .i64 a, .string ⟨#[]⟩, .slice none 0 0, .int .i64 1, .int .i64 b, .string ⟨#[]⟩, .slice none 0 0] 45)).alloc (.cells #[.slice (some ⟨w2.heap.size, 0, none⟩) 2 2, .slice (some ⟨w2.heap.size + 1, 0, none⟩) 2 2, .slice none 0 0, .slice none 0 0] 48)).alloc (.cells slRow 61)) (w2.heap.size + 1 + 1) (.slice (some ⟨w2.heap.size, 0, none⟩) 2 2) (.slice (some ⟨w2.heap.size + 1, 0, none⟩) 2 2) (.slice none 0 0) (.slice none 0 0) := ((Below.refl _ _).alloc (Nat.le_refl _) _).block _ (by simp) |>.trans (new_box _ _ _ _ (by simp))
  have h3 : ((((w2.alloc (.cells #[.string ⟨#[97]⟩, .int .i64 0, .string ⟨#[]⟩, .string ⟨#[98]⟩, .int .i64 0, .string ⟨#[]⟩] 42)).alloc (.cells #[.int .i64 1, .int .i64 a, .string ⟨#[]⟩, .slice none 0 0, .int .i64 1, .int .i64 b, .string ⟨#[]⟩, .slice none 0 0] 45)).alloc (.cells #[.slice (some ⟨w2.heap.size, 0, none⟩) 2 2, .slice (some ⟨w2.heap.size + 1, 0, none⟩) 2 2, .slice none 0 0, .slice none 0 0] 48)).alloc (.cells slRow 61)).heap[w2.heap.size + 1 + 1 + 1]? = some (.cells slRow 61 (0, 0)) := new_box _ _ _ _ (by simp)
  have hsz : w2.heap.size + 1 + 1 + 1 < ((((w2.alloc (.cells #[.string ⟨#[97]⟩, .int .i64 0, .string ⟨#[]⟩, .string ⟨#[98]⟩, .int .i64 0, .string ⟨#[]⟩] 42)).alloc (.cells #[.int .i64 1, .int .i64 a, .string ⟨#[]⟩, .slice none 0 0, .int .i64 1, .int .i64 b, .string ⟨#[]⟩, .slice none 0 0] 45)).alloc (.cells #[.slice (some ⟨w2.heap.size, 0, none⟩) 2 2, .slice (some ⟨w2.heap.size + 1, 0, none⟩) 2 2, .slice none 0 0, .slice none 0 0] 48)).alloc (.cells slRow 61)).heap.size := by simp
  obtain ⟨W3, hW3⟩ : ∃ W3, W3 = ((((w2.alloc (.cells #[.string ⟨#[97]⟩, .int .i64 0, .string ⟨#[]⟩, .string ⟨#[98]⟩, .int .i64 0, .string ⟨#[]⟩] 42)).alloc (.cells #[.int .i64 1, .int .i64 a, .string ⟨#[]⟩, .slice none 0 0, .int .i64 1, .int .i64 b, .string ⟨#[]⟩, .slice none 0 0] 45)).alloc (.cells #[.slice (some ⟨w2.heap.size, 0, none⟩) 2 2, .slice (some ⟨w2.heap.size + 1, 0, none⟩) 2 2, .slice none 0 0, .slice none 0 0] 48)).alloc (.cells slRow 61)) := ⟨_, rfl⟩
  rw [← hW3] at B3 h0 h1 h2 h3 hsz
  have HE0 := Lib.hid h0
  have HE1 := Lib.hid h1
  have HE2 := Lib.hid h2
  have HE3 := Lib.hid h3
  have HW3 := Lib.hid hW3
  clear b2 hb3 h0 h1 h2 h3 hW3
  go_wp2_with fail
  have hw3 := HW3.out
  unfold slRow at hw3
  rw [← hw3]
  clear hw3 HW3
  go_loopw [36] (fun iv wr => ∃ k : Nat, k ≤ 5 ∧ iv = .int .i64 k ∧ Below W3.heap.size W3 wr) (fun iv _ => 5 - (intOf iv).toNat)
  case atStart => exact ⟨0, by omega, rfl, Below.refl _ _⟩
  case round =>
    obtain ⟨k, hk, rfl, hb⟩ := hrel
    by_cases hk5 : k = 5
    · subst hk5
      have HB := Lib.hid (B3.out.trans (hb.mono B3.out.size))
      clear hb
      go_wp2_with fail
      refine (AW.out _ HB.out).mono ?_
      rintro e w4 ⟨rfl, b4⟩
      have HB4 := Lib.hid (HB.out.trans (b4.mono HB.out.size))
      clear b4
      go_wp2_with fail
      go_ret
      exact ⟨rfl, HB4.out⟩
    · have hki : (k : Int) < 5 := by omega
      obtain ⟨s0, s1, X, Y, hr⟩ := sl_round a b HA.out HBB.out wr (w2.heap.size + 1 + 1 + 1) k (by omega) ((hb.block _ hsz).trans HE3.out)
      have c0 := hr.c0
      have c1 := hr.c1
      have ba := (Below.refl wr.heap.size wr).alloc (Nat.le_refl _) (.cells #[.string s0, .string s1] 61)
      have HR := Lib.hid hr
      have HB := Lib.hid hb
      have HBA := Lib.hid (hb.trans (ba.mono hb.size))
      have HT := Lib.hid (show (wr.alloc (.cells #[.string s0, .string s1] 61)).heap[wr.heap.size]? = some (.cells #[.string s0, .string s1] 61 (0, 0)) from heap_alloc_new wr _)
      clear hr hb ba
      go_wp2_with fail
      refine (HR.out.r0 _).mono ?_
      rintro e w4 ⟨⟨p1, c1', rfl, fa1⟩, b4⟩
      have bx := (Below.refl w4.heap.size w4).alloc (Nat.le_refl _) (.cells #[.int .i64 X.op, .int .i64 X.num, .string (S X.text), .slice p1 X.args.len c1'] 28)
      have HB4 := Lib.hid ((HBA.out.trans (b4.mono HBA.out.size)).trans (bx.mono (Nat.le_trans HBA.out.size b4.size)))
      have ht4 := (bx.block wr.heap.size (by have := b4.size; simp at this; omega)).trans ((b4.block wr.heap.size (by simp)).trans HT.out)
      have HX4 := Lib.hid (Bx.new w4 (.int .i64 X.op) (.int .i64 X.num) (.string (S X.text)) (.slice p1 X.args.len c1'))
      have HFA4 := Lib.hid (fa1.keep (Kept.of_below bx))
      have t1 := cell_of_row _ wr.heap.size 1 _ _ (0, 0) ht4
      have HLT := Lib.hid (show wr.heap.size < w4.heap.size by have := b4.size; simp at this; omega)
      clear fa1 b4 bx ht4 c0 c1
      go_wp2_with fail
      refine (HR.out.r1 _).mono ?_
      rintro e w5 ⟨⟨p2, c2', rfl, fa2⟩, b5⟩
      have by_ := (Below.refl w5.heap.size w5).alloc (Nat.le_refl _) (.cells #[.int .i64 Y.op, .int .i64 Y.num, .string (S Y.text), .slice p2 Y.args.len c2'] 28)
      have HB5 := Lib.hid ((HB4.out.trans (b5.mono HB4.out.size)).trans (by_.mono (Nat.le_trans HB4.out.size b5.size)))
      have hx5 := laterE (laterE HX4.out b5) by_
      have hv5 := HE2.out.at_ HB5.out (by omega)
      have HY5 := Lib.hid (Bx.new w5 (.int .i64 Y.op) (.int .i64 Y.num) (.string (S Y.text)) (.slice p2 Y.args.len c2'))
      have HFX5 := Lib.hid ((HFA4.out.keep (Kept.of_below b5)).keep (Kept.of_below by_))
      have HFY5 := Lib.hid (fa2.keep (Kept.of_below by_))
      have x0 := hx5.c0
      have x1 := hx5.c1
      have x2 := hx5.c2
      have x3 := hx5.c3
      have v0 := hv5.c0
      have v1 := hv5.c1
      have v2 := hv5.c2
      have v3 := hv5.c3
      have en : ∀ W, Below W3.heap.size W3 W → EnAt W (some ⟨w2.heap.size, 0, none⟩) (some ⟨w2.heap.size + 1, 0, none⟩) none none (enAB a b) := fun W k => enAB_at a b W w2.heap.size ((k.block _ (by omega)).trans HE0.out) ((k.block _ (by omega)).trans HE1.out)
      have EN := Lib.hid en
      have OX := Lib.hid (evOf_any (enAB a b) ⟨some ⟨w2.heap.size, 0, none⟩, some ⟨w2.heap.size + 1, 0, none⟩, none, none, 2, 2, 0, 0⟩ (enAB_fit a b HA.out HBB.out) X HR.out.fx.1 HR.out.fx.2 p1 c1' _ (en _ HB5.out) HFX5.out (TAB.out.below (B3.out.trans (HB5.out.mono B3.out.size))) (CON.out.keep (Kept.of_below (ok := fun _ => True) (B3.out.trans (HB5.out.mono B3.out.size))) trivial))
      clear fa2 b5 by_ hx5 hv5 t1 en
      obtain ⟨P, hP⟩ : ∃ P, P = evM (enAB a b) X := ⟨_, rfl⟩
      rw [← hP] at OX
      have HP := Lib.hid hP
      clear hP
      unfold envC enAB at OX
      dsimp only [List.length_cons, List.length_nil] at OX
      obtain ⟨⟨pk, pn, pt, pl⟩, pe⟩ := P
      go_wp2_with fail
      refine OX.out.mono ?_
      rintro e w6 ⟨⟨a6, c6, rfl, _⟩, b6'⟩
      have b6 := b6'.trans (((Below.refl w6.heap.size w6).alloc (Nat.le_refl _) (.cells #[.int .i64 pk, .int .i64 pn, .string (S pt), .slice a6 pl.length c6] 45)).mono b6'.size)
      unfold valC
      have HB6 := Lib.hid (HB5.out.trans (b6.mono HB5.out.size))
      by_cases hpe : pe = 0
      · subst hpe
        have hq := HR.out.q (by rw [← HP.out])
        have hy6 := laterE HY5.out b6
        have hv6 := HE2.out.at_ HB6.out (by omega)
        have y0 := hy6.c0
        have y1 := hy6.c1
        have y2 := hy6.c2
        have y3 := hy6.c3
        have v0 := hv6.c0
        have v1 := hv6.c1
        have v2 := hv6.c2
        have v3 := hv6.c3
        have OY := Lib.hid (evOf_any (enAB a b) ⟨some ⟨w2.heap.size, 0, none⟩, some ⟨w2.heap.size + 1, 0, none⟩, none, none, 2, 2, 0, 0⟩ (enAB_fit a b HA.out HBB.out) Y HR.out.fy.1 HR.out.fy.2 p2 c2' _ (EN.out _ HB6.out) (HFY5.out.keep (Kept.of_below b6)) (TAB.out.below (B3.out.trans (HB6.out.mono B3.out.size))) (CON.out.keep (Kept.of_below (ok := fun _ => True) (B3.out.trans (HB6.out.mono B3.out.size))) trivial))
        clear b6 b6' hy6 hv6 x0 x1 x2 x3
        obtain ⟨Q, hQ⟩ : ∃ Q, Q = evM (enAB a b) Y := ⟨_, rfl⟩
        rw [← hQ] at OY hq
        clear hQ
        unfold envC enAB at OY
        dsimp only [List.length_cons, List.length_nil] at OY
        obtain ⟨⟨qk, qn, qt, ql⟩, qe⟩ := Q
        unfold SlQ at hq
        simp only at hq
        go_wp2_with fail
        refine OY.out.mono ?_
        rintro e w7 ⟨⟨a7, c7, rfl, _⟩, b7⟩
        have HB7 := Lib.hid (HB6.out.trans ((b7.trans (((Below.refl w7.heap.size w7).alloc (Nat.le_refl _) (.cells #[.int .i64 qk, .int .i64 qn, .string (S qt), .slice a7 ql.length c7] 45)).mono b7.size)).mono HB6.out.size))
        clear b7 y0 y1 y2 y3 v0 v1 v2 v3
        unfold valC
        rcases hq with ⟨h0, h1⟩ | h30
        · subst h0
          subst h1
          go_wp2_with fail
          go_roundw
          case rel => exact ⟨k + 1, by omega, by go_num, HB7.out⟩
          case measure => simp [intOf]; omega
        · subst h30
          go_wp2_with fail
          go_roundw
          case rel => exact ⟨k + 1, by omega, by go_num, HB7.out⟩
          case measure => simp [intOf]; omega
      · have hpe2 : ((pe : Int) != 0) = true := by simp; exact hpe
        clear b6 b6' x0 x1 x2 x3 v0 v1 v2 v3 hpe
        go_wp2_with fail
        go_roundw
        case rel => exact ⟨k + 1, by omega, by go_num, HB6.out⟩
        case measure => simp [intOf]; omega

end Go.Proofs.YtchjckdjkecjnaaGreatDoor.Ev
