/-
  Letters that a function picks out: numbered, IndexFunc, ContainsFunc, filter; the words.
-/
import Derived.Test.YtfkmpegbidojoaaMdDRow
namespace Go.Proofs.Ytfkmpegbidojoaa.Md
open Go.RowKit
open Va
set_option linter.unusedVariables false
set_option linter.unusedSimpArgs false

/-- A letter as an argument. -/
def dV (x : DeadP) (ka : Option Addr) (kc : Nat) (fa : Option Addr) (fc : Nat) : Value := .agg #[.int .i64 x.n, .int .i64 x.mail.id, .string (S x.mail.chan), .slice ka x.mail.key.length kc, .slice fa x.mail.fields.length fc, .int .i64 x.reason]
def wordL (r : Int) : List UInt8 := if r = 1 then [110, 111, 32, 109, 97, 116, 99, 104] else if r = 2 then [116, 111, 111, 32, 102, 101, 119] else if r = 3 then [116, 111, 111, 32, 109, 97, 110, 121] else if r = 4 then [111, 118, 101, 114] else if r = 5 then [98, 117, 114, 105, 101, 100] else []
theorem wordL_nil (r : Int) : wordL r = [] ↔ r < 1 ∨ 5 < r := by
  unfold wordL
  split
  · subst_vars; simp
  split
  · subst_vars; simp
  split
  · subst_vars; simp
  split
  · subst_vars; simp
  split
  · subst_vars; simp
  · simp; omega
set_option maxRecDepth 100000 in
theorem word_any (r : Int) (w : World) : Calls Try.prog 29 #[.int .i64 r] w fun e w' => e = .returned (.string (S (wordL r))) ∧ w = w' := by
  by_cases h1 : r = 1
  · subst h1
    rw [show S (wordL 1) = ⟨#[110, 111, 32, 109, 97, 116, 99, 104]⟩ from rfl]
    go_enter Try.func29, Try.ntmps29
    go_wp2_with fail
    go_ret
    simp
  by_cases h2 : r = 2
  · subst h2
    rw [show S (wordL 2) = ⟨#[116, 111, 111, 32, 102, 101, 119]⟩ from rfl]
    go_enter Try.func29, Try.ntmps29
    go_wp2_with fail
    go_ret
    simp
  by_cases h3 : r = 3
  · subst h3
    rw [show S (wordL 3) = ⟨#[116, 111, 111, 32, 109, 97, 110, 121]⟩ from rfl]
    go_enter Try.func29, Try.ntmps29
    go_wp2_with fail
    go_ret
    simp
  by_cases h4 : r = 4
  · subst h4
    rw [show S (wordL 4) = ⟨#[111, 118, 101, 114]⟩ from rfl]
    go_enter Try.func29, Try.ntmps29
    go_wp2_with fail
    go_ret
    simp
  by_cases h5 : r = 5
  · subst h5
    rw [show S (wordL 5) = ⟨#[98, 117, 114, 105, 101, 100]⟩ from rfl]
    go_enter Try.func29, Try.ntmps29
    go_wp2_with fail
    go_ret
    simp
  rw [show wordL r = [] by unfold wordL; rw [if_neg h1, if_neg h2, if_neg h3, if_neg h4, if_neg h5], show S [] = ⟨#[]⟩ from rfl]
  have e1 : (r == 1) = false := by simpa using h1
  have e2 : (r == 2) = false := by simpa using h2
  have e3 : (r == 3) = false := by simpa using h3
  have e4 : (r == 4) = false := by simpa using h4
  have e5 : (r == 5) = false := by simpa using h5
  go_enter Try.func29, Try.ntmps29
  go_wp2_with fail
  go_ret
  simp

set_option maxRecDepth 100000 in
theorem numbered_any (n : Int) (w : World) : Calls Try.prog 35 #[.int .i64 n] w fun e w' => e = .returned (.func (Fn.func 45) #[] #[.pointer (some ⟨w.heap.size, 0, none⟩)]) ∧ w' = w.alloc (.cells #[.int .i64 n] 2) := by
  go_enter Try.func35, Try.ntmps35
  go_wp2_with fail
  go_ret
  simp
set_option maxRecDepth 100000 in
theorem numEq_any (x : DeadP) (ka : Option Addr) (kc : Nat) (fa : Option Addr) (fc : Nat) (n : Int) (b : Nat) (w : World) (h : w.cell? ⟨b, 0, none⟩ = some (.int .i64 n)) :
    Calls Try.prog 45 #[dV x ka kc fa fc, .pointer (some ⟨b, 0, none⟩)] w fun e w' => e = .returned (.bool (x.n == n)) ∧ Below w.heap.size w w' := by
  have kk := (Below.refl w.heap.size w).alloc (Nat.le_refl _) (.cells #[.int .i64 x.n, .int .i64 x.mail.id, .string (S x.mail.chan), .slice ka x.mail.key.length kc, .slice fa x.mail.fields.length fc, .int .i64 x.reason] 46)
  have h2 : (w.alloc (.cells #[.int .i64 x.n, .int .i64 x.mail.id, .string (S x.mail.chan), .slice ka x.mail.key.length kc, .slice fa x.mail.fields.length fc, .int .i64 x.reason] 46)).cell? ⟨b, 0, none⟩ = some (.int .i64 n) := (kk.cell (p := ⟨b, 0, none⟩) (World.block_lt_of_cell? w _ h)).trans h
  have HK := Lib.hid kk
  clear kk h
  unfold dV
  go_enter Try.func45, Try.ntmps45
  go_wp2_with fail
  go_ret
  exact ⟨rfl, HK.out⟩
set_option maxRecDepth 100000 in
theorem countEq_any (x : DeadP) (ka : Option Addr) (kc : Nat) (fa : Option Addr) (fc : Nat) (n : Int) (b : Nat) (w : World) (h : w.cell? ⟨b, 0, none⟩ = some (.int .i64 n)) :
    Calls Try.prog 41 #[dV x ka kc fa fc, .pointer (some ⟨b, 0, none⟩)] w fun e w' => e = .returned (.bool (x.reason == n)) ∧ Below w.heap.size w w' := by
  have kk := (Below.refl w.heap.size w).alloc (Nat.le_refl _) (.cells #[.int .i64 x.n, .int .i64 x.mail.id, .string (S x.mail.chan), .slice ka x.mail.key.length kc, .slice fa x.mail.fields.length fc, .int .i64 x.reason] 46)
  have h2 : (w.alloc (.cells #[.int .i64 x.n, .int .i64 x.mail.id, .string (S x.mail.chan), .slice ka x.mail.key.length kc, .slice fa x.mail.fields.length fc, .int .i64 x.reason] 46)).cell? ⟨b, 0, none⟩ = some (.int .i64 n) := (kk.cell (p := ⟨b, 0, none⟩) (World.block_lt_of_cell? w _ h)).trans h
  have HK := Lib.hid kk
  clear kk h
  unfold dV
  go_enter Try.func41, Try.ntmps41
  go_wp2_with fail
  go_ret
  exact ⟨rfl, HK.out⟩
set_option maxRecDepth 100000 in
theorem dropNe_any (x : DeadP) (ka : Option Addr) (kc : Nat) (fa : Option Addr) (fc : Nat) (n : Int) (b c : Nat) (w : World) (h : w.cell? ⟨b, 0, none⟩ = some (.func (Fn.func 45) #[] #[.pointer (some ⟨c, 0, none⟩)])) (hc : w.cell? ⟨c, 0, none⟩ = some (.int .i64 n)) :
    Calls Try.prog 39 #[dV x ka kc fa fc, .pointer (some ⟨b, 0, none⟩)] w fun e w' => e = .returned (.bool (!(x.n == n))) ∧ Below w.heap.size w w' := by
  have kk := (Below.refl w.heap.size w).alloc (Nat.le_refl _) (.cells #[.int .i64 x.n, .int .i64 x.mail.id, .string (S x.mail.chan), .slice ka x.mail.key.length kc, .slice fa x.mail.fields.length fc, .int .i64 x.reason] 46)
  have h2 : (w.alloc (.cells #[.int .i64 x.n, .int .i64 x.mail.id, .string (S x.mail.chan), .slice ka x.mail.key.length kc, .slice fa x.mail.fields.length fc, .int .i64 x.reason] 46)).cell? ⟨b, 0, none⟩ = some (.func (Fn.func 45) #[] #[.pointer (some ⟨c, 0, none⟩)]) := (kk.cell (p := ⟨b, 0, none⟩) (World.block_lt_of_cell? w _ h)).trans h
  have h3 : (w.alloc (.cells #[.int .i64 x.n, .int .i64 x.mail.id, .string (S x.mail.chan), .slice ka x.mail.key.length kc, .slice fa x.mail.fields.length fc, .int .i64 x.reason] 46)).cell? ⟨c, 0, none⟩ = some (.int .i64 n) := (kk.cell (p := ⟨c, 0, none⟩) (World.block_lt_of_cell? w _ hc)).trans hc
  have HK := Lib.hid kk
  have HC := Lib.hid (numEq_any x ka kc fa fc n c _ h3)
  unfold dV at HC ⊢
  clear kk h hc h3
  go_enter Try.func39, Try.ntmps39
  go_wp2_with fail
  refine HC.out.mono ?_
  rintro e w2 ⟨rfl, b2⟩
  have B2 := Lib.hid (HK.out.trans (b2.mono HK.out.size))
  clear b2 h2
  go_wp2_with fail
  go_ret
  exact ⟨rfl, B2.out⟩

/-- Where the first one stands, or -1. -/
def idxI (p : DeadP → Bool) (l : List DeadP) : Int := match l.findIdx? p with
  | some i => i
  | none => -1
theorem idxI_at {p : DeadP → Bool} {l : List DeadP} {k : Nat} (hk : k < l.length) (h : p l[k] = true) (hn : ∀ j, (hj : j < l.length) → j < k → p l[j] = false) : idxI p l = k := by
  unfold idxI
  rw [show l.findIdx? p = some k from List.findIdx?_eq_some_iff_getElem.2 ⟨hk, h, fun j hj => by simp [hn j (by omega) hj]⟩]
theorem idxI_none {p : DeadP → Bool} {l : List DeadP} (hn : ∀ j, (hj : j < l.length) → p l[j] = false) : idxI p l = -1 := by
  unfold idxI
  rw [show l.findIdx? p = none from List.findIdx?_eq_none_iff.2 fun x hx => by obtain ⟨i, hi, rfl⟩ := List.mem_iff_getElem.1 hx; exact hn i hi]
theorem idxI_any (p : DeadP → Bool) (l : List DeadP) : decide (idxI p l ≥ 0) = l.any p := by
  unfold idxI
  cases h : l.findIdx? p with
  | none =>
    have := List.findIdx?_eq_none_iff.1 h
    simp only [show ¬ ((-1 : Int) ≥ 0) by omega, decide_false]
    exact (List.any_eq_false.2 fun x hx => by simp [this x hx]).symm
  | some i =>
    obtain ⟨hi, hp, _⟩ := List.findIdx?_eq_some_iff_getElem.1 h
    simp only [show (i : Int) ≥ 0 by omega, decide_true]
    exact (List.any_eq_true.2 ⟨_, List.getElem_mem hi, hp⟩).symm
/-- What a function of the program's answers of letters. -/
def Asks (F : FuncId) (pt : Value) (p : DeadP → Bool) (w : World) : Prop := ∀ (x : DeadP) (ka : Option Addr) (kc : Nat) (fa : Option Addr) (fc : Nat) (W : World), Below w.heap.size w W → Calls Try.prog F #[dV x ka kc fa fc, pt] W fun e w' => e = .returned (.bool (p x)) ∧ Below W.heap.size W w'
def CallsF (F : FuncId) : Prop := ∀ args W, Sem.run Try.prog (callFunc F args) W = .ok (.enter F args) W
set_option maxRecDepth 100000 in
set_option maxHeartbeats 4000000 in
theorem idx_any (F : FuncId) (pt : Value) (p : DeadP → Bool) (l : List DeadP) (hl : l.length ≤ 1000) (a : Option Addr) (cap : Nat) (w : World) (hx : DeadsAt w a l) (hf : Asks F pt p w) (hF : CallsF F) :
    Calls Try.prog 40 #[.slice a l.length cap, .func (Fn.func F) #[] #[pt]] w fun e w' => e = .returned (.int .i64 (idxI p l)) ∧ Below w.heap.size w w' := by
  have HX := Lib.hid hx
  have HF := Lib.hid hf
  unfold CallsF at hF
  have hli : (l.length : Int) ≤ 1000 := by omega
  obtain ⟨R, hR⟩ : ∃ R, R = idxI p l := ⟨_, rfl⟩
  rw [← hR]
  have HR := Lib.hid hR
  clear hx hf hR
  go_enter Try.func40, Try.ntmps40
  go_wp2_with fail
  go_loopw [8] (fun iv wr => ∃ k : Nat, k ≤ l.length ∧ iv = .int .i64 k ∧ Below w.heap.size w wr ∧ Hid (∀ j, (hj : j < l.length) → j < k → p l[j] = false)) (fun iv _ => l.length - (intOf iv).toNat)
  case atStart => exact ⟨0, by omega, rfl, Below.refl _ _, Lib.hid (fun j _ h => absurd h (by omega))⟩
  case round =>
    obtain ⟨k, hk, rfl, hb, hno⟩ := hrel
    have HB := Lib.hid hb
    by_cases hlt : k < l.length
    · have hki : (k : Int) < (l.length : Int) := by omega
      obtain ⟨b, off, ka, kc, fa, fc, rfl, ⟨v0, v1, v2, v3, v4, v5, _, _⟩, hgl⟩ := HX.out k hlt
      obtain ⟨x, hxe⟩ : ∃ x, x = l[k] := ⟨_, rfl⟩
      rw [← hxe] at v0 v1 v2 v3 v4 v5
      have p0 := (hb.cell (p := ⟨b, off + k * 6, none⟩) hgl).trans v0
      have p1 := (hb.cell (p := ⟨b, off + k * 6 + 1, none⟩) hgl).trans v1
      have p2 := (hb.cell (p := ⟨b, off + k * 6 + 2, none⟩) hgl).trans v2
      have p3 := (hb.cell (p := ⟨b, off + k * 6 + 3, none⟩) hgl).trans v3
      have p4 := (hb.cell (p := ⟨b, off + k * 6 + 4, none⟩) hgl).trans v4
      have p5 := (hb.cell (p := ⟨b, off + k * 6 + 5, none⟩) hgl).trans v5
      have HC := Lib.hid (HF.out x ka kc fa fc wr hb)
      unfold dV at HC
      have HXE := Lib.hid hxe
      clear hb v0 v1 v2 v3 v4 v5 hxe
      cases hp : p x with
      | true =>
        rw [hp] at HC
        go_wp2_with fail
        refine HC.out.mono ?_
        rintro e w2 ⟨rfl, b2⟩
        have B2 := Lib.hid (HB.out.trans (b2.mono HB.out.size))
        clear b2 p0 p1 p2 p3 p4 p5
        go_wp2_with fail
        go_ret
        exact ⟨by rw [HR.out, idxI_at hlt (by rw [← HXE.out]; exact hp) hno.out]; rfl, B2.out⟩
      | false =>
        rw [hp] at HC
        go_wp2_with fail
        refine HC.out.mono ?_
        rintro e w2 ⟨rfl, b2⟩
        have B2 := Lib.hid (HB.out.trans (b2.mono HB.out.size))
        clear b2 p0 p1 p2 p3 p4 p5
        go_wp2_with fail
        go_roundw
        case rel => exact ⟨k + 1, by omega, by go_num, B2.out, Lib.hid (fun j hj hjk => by
          by_cases e : j = k
          · subst e; rw [← HXE.out]; exact hp
          · exact hno.out j hj (by omega))⟩
        case measure => simp [intOf]; omega
    · have hki : ¬ (k : Int) < (l.length : Int) := by omega
      clear hb
      go_wp2_with fail
      go_ret
      exact ⟨by rw [HR.out, idxI_none fun j hj => hno.out j hj (by omega)]; rfl, HB.out⟩
set_option maxRecDepth 100000 in
theorem contains_any (F : FuncId) (pt : Value) (p : DeadP → Bool) (l : List DeadP) (hl : l.length ≤ 1000) (a : Option Addr) (cap : Nat) (w : World) (hx : DeadsAt w a l) (hf : Asks F pt p w) (hF : CallsF F) :
    Calls Try.prog 34 #[.slice a l.length cap, .func (Fn.func F) #[] #[pt]] w fun e w' => e = .returned (.bool (l.any p)) ∧ Below w.heap.size w w' := by
  have HC := Lib.hid (idx_any F pt p l hl a cap w hx hf hF)
  have HA := Lib.hid (idxI_any p l)
  obtain ⟨R, hR⟩ : ∃ R, R = idxI p l := ⟨_, rfl⟩
  obtain ⟨T, hT⟩ : ∃ T, T = l.any p := ⟨_, rfl⟩
  rw [← hR] at HC HA
  rw [← hT] at HA ⊢
  clear hR hT hx hf
  go_enter Try.func34, Try.ntmps34
  go_wp2_with fail
  refine HC.out.mono ?_
  rintro e w2 ⟨rfl, b2⟩
  have B2 := Lib.hid b2
  clear b2
  go_wp2_with fail
  go_ret
  exact ⟨by rw [← HA.out]; rfl, B2.out⟩
theorem callsF_n : CallsF 45 := fun args W => by simp [go_sem]
theorem callsF_c : CallsF 41 := fun args W => by simp [go_sem]
theorem callsF_d : CallsF 39 := fun args W => by simp [go_sem]

end Go.Proofs.Ytfkmpegbidojoaa.Md

